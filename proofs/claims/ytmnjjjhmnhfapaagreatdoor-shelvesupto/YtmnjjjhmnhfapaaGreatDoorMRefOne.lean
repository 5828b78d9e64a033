import Derived.Test.YtmnjjjhmnhfapaaGreatDoorMCodeApi
namespace Go.Proofs.YtmnjjjhmnhfapaaGreatDoor
open Go.RowKit
set_option maxRecDepth 100000 in
set_option maxHeartbeats 2000000 in
theorem order_any (va vb : Value) (a b : List Int) (w : World) (ha : Reads w va 1 a.length (ints a)) (hb : Reads w vb 1 b.length (ints b)) (_hla : a.length ≤ 1000000) (_hlb : b.length ≤ 1000000) :
  Calls Tryz.prog 94 #[va, vb] w fun e w' => e = .returned (.int .i64 (Tm.cmpL a b)) ∧ ∃ q, w' = w.drewN q := by
 obtain ⟨aa, ca, rfl⟩ := ha.shape
 obtain ⟨ab, cb, rfl⟩ := hb.shape
 have HA := hide ha
 have HB := hide hb
 obtain ⟨n, hn⟩ : ∃ n, a.length = n := ⟨_, rfl⟩
 obtain ⟨m, hm⟩ : ∃ m, b.length = m := ⟨_, rfl⟩
 have HN := hide hn
 have HM := hide hm
 rw [hn] at _hla HA
 rw [hm] at HB
 rw [hn, hm]
 clear ha hb hn hm
 go_enter Tryz.func94, Tryz.ntmps94
 go_wp2_with fail
 go_loopw [5] (fun i wr => ∃ k : Nat, k ≤ n ∧ k ≤ m ∧ i = .int .i64 k ∧ Tm.cmpL a b = Tm.cmpL (a.drop k) (b.drop k) ∧ ∃ q, wr = w.drewN q) (fun i _ => n - (intOf i).toNat)
 case atStart => exact ⟨0, Nat.zero_le _, Nat.zero_le _, rfl, rfl, 0, rfl⟩
 case round =>
  obtain ⟨k, hk, hkm, rfl, hcm, q, rfl⟩ := hrel
  have HCM := hide hcm
  clear hcm
  by_cases hlt : k < n
  ·have hlt' : k < a.length := by rw [HN.out]; exact hlt
   obtain ⟨g, off, rfl, hg, ck⟩ := Reads.at (by rw [HN.out]; exact HA.out) hlt'
   have i1 : (0 : Int) ≤ (k : Int) := by omega
   have i2 : (k : Int) < (n : Int) := by omega
   by_cases hlm : k < m
   ·have hlm' : k < b.length := by rw [HM.out]; exact hlm
    obtain ⟨gb, ob, rfl, hgb, cbk⟩ := Reads.at (by rw [HM.out]; exact HB.out) hlm'
    have i3 : (k : Int) < (m : Int) := by omega
    have HST := hide (Tm.cmpL_step hlt' hlm')
    generalize a[k] = x at *
    generalize b[k] = y at *
    go_wp2
    go_quiet (fail)
    obtain ⟨q1, hq1⟩ : ∃ q1, w.drewN q1 = (w.drewN q).drewN nq := ⟨q + nq, by simp⟩
    rw [← hq1]
    by_cases h1 : x < y
    ·go_wp2
     go_ret
     exact ⟨ret_int (by rw [HCM.out, HST.out, if_pos h1]), q1, rfl⟩
    ·clear hq1
     go_wp2
     go_quiet (fail)
     by_cases h2 : y < x
     ·go_wp2
      go_ret
      exact ⟨ret_int (by rw [HCM.out, HST.out, if_neg (by omega), if_pos h2]), q1 + nq, by simp⟩
     ·go_wp2
      go_roundw
      case rel => exact ⟨k + 1, by omega, by omega, by go_num, by rw [HCM.out, HST.out, if_neg (by omega), if_neg (by omega)], q1 + nq, by simp⟩
      case measure => simp [intOf]; omega
   ·have HST := hide (Tm.cmpL_more hlt' (show b.length ≤ k by rw [HM.out]; omega))
    have hmn : m < n := by omega
    go_wp2
    go_ret
    exact ⟨ret_int (by rw [HCM.out, HST.out]), _, rfl⟩
  ·have HST := hide (Tm.cmpL_end (b := b) (show a.length ≤ k by rw [HN.out]; omega))
   rw [HM.out] at HST
   by_cases hnm : n < m
   ·go_wp2
    go_ret
    exact ⟨ret_int (by rw [HCM.out, HST.out, if_pos (by omega)]), _, rfl⟩
   ·have hmn : ¬ m < n := by omega
    go_wp2
    go_ret
    exact ⟨ret_int (by rw [HCM.out, HST.out, if_neg (by omega)]), _, rfl⟩
end Go.Proofs.YtmnjjjhmnhfapaaGreatDoor
