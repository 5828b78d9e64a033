import Derived.Test.YtmnjjjhmnhfapaaGreatDoorMCodeStandW
namespace Go.Proofs.YtmnjjjhmnhfapaaGreatDoor
open Go.RowKit

namespace Tm
theorem cmpL_step {a b : List Int} {k : Nat} (ha : k < a.length) (hb : k < b.length) : cmpL (a.drop k) (b.drop k) = if a[k] < b[k] then -1 else if b[k] < a[k] then 1 else cmpL (a.drop (k + 1)) (b.drop (k + 1)) := by
  rw [List.drop_eq_getElem_cons ha, List.drop_eq_getElem_cons hb, cmpL]
theorem cmpL_more {a b : List Int} {k : Nat} (ha : k < a.length) (hb : b.length ≤ k) : cmpL (a.drop k) (b.drop k) = 1 := by
  rw [List.drop_eq_getElem_cons ha, List.drop_of_length_le hb, cmpL]
theorem cmpL_end {a b : List Int} {k : Nat} (ha : a.length ≤ k) : cmpL (a.drop k) (b.drop k) = if k < b.length then -1 else 0 := by
  rw [List.drop_of_length_le ha]
  split
  · rename_i h; rw [List.drop_eq_getElem_cons h, cmpL]
  · rename_i h; rw [List.drop_of_length_le (by omega), cmpL]
theorem cmpLL_step {a b : List (List Int)} {k : Nat} (ha : k < a.length) (hb : k < b.length) : cmpLL (a.drop k) (b.drop k) = if cmpL a[k] b[k] = 0 then cmpLL (a.drop (k + 1)) (b.drop (k + 1)) else cmpL a[k] b[k] := by
  rw [List.drop_eq_getElem_cons ha, List.drop_eq_getElem_cons hb, cmpLL]
theorem cmpLL_more {a b : List (List Int)} {k : Nat} (ha : k < a.length) (hb : b.length ≤ k) : cmpLL (a.drop k) (b.drop k) = 1 := by
  rw [List.drop_eq_getElem_cons ha, List.drop_of_length_le hb, cmpLL]
theorem cmpLL_end {a b : List (List Int)} {k : Nat} (ha : a.length ≤ k) : cmpLL (a.drop k) (b.drop k) = if k < b.length then -1 else 0 := by
  rw [List.drop_of_length_le ha]
  split
  · rename_i h; rw [List.drop_eq_getElem_cons h, cmpLL]
  · rename_i h; rw [List.drop_of_length_le (by omega), cmpLL]
end Tm

set_option maxRecDepth 100000 in
set_option maxHeartbeats 2000000 in
theorem SliceCompare_any (va vb : Value) (a b : List Int) (w : World) (ha : Reads w va 1 a.length (ints a)) (hb : Reads w vb 1 b.length (ints b)) (_hla : a.length ≤ 1000000) (_hlb : b.length ≤ 1000000) :
    Calls Tryz.prog 93 #[va, vb] w fun e w' => e = .returned (.int .i64 (Tm.cmpL a b)) ∧ w' = w := by
  obtain ⟨aa, ca, rfl⟩ := ha.shape
  obtain ⟨ab, cb, rfl⟩ := hb.shape
  have HA := hide ha
  have HB := hide hb
  obtain ⟨n, hn⟩ : ∃ n, a.length = n := ⟨_, rfl⟩
  obtain ⟨m, hm⟩ : ∃ m, b.length = m := ⟨_, rfl⟩
  have HN := hide hn
  have HM := hide hm
  rw [hn] at _hla HA
  rw [hm] at HB
  rw [hn, hm]
  clear ha hb hn hm
  go_enter Tryz.func93, Tryz.ntmps93
  go_wp2_with fail
  go_loopw [11] (fun i wr => ∃ k : Nat, k ≤ n ∧ k ≤ m ∧ i = .int .i64 k ∧ Tm.cmpL a b = Tm.cmpL (a.drop k) (b.drop k) ∧ wr = w) (fun i _ => n - (intOf i).toNat)
  case atStart => exact ⟨0, Nat.zero_le _, Nat.zero_le _, rfl, rfl, rfl⟩
  case round =>
    obtain ⟨k, hk, hkm, rfl, hcm, rfl⟩ := hrel
    have HCM := hide hcm
    clear hcm
    by_cases hlt : k < n
    · have hlt' : k < a.length := by rw [HN.out]; exact hlt
      obtain ⟨g, off, rfl, hg, ck⟩ := Reads.at (by rw [HN.out]; exact HA.out) hlt'
      have i1 : (0 : Int) ≤ (k : Int) := by omega
      have i2 : (k : Int) < (n : Int) := by omega
      by_cases hlm : k < m
      · have hlm' : k < b.length := by rw [HM.out]; exact hlm
        obtain ⟨gb, ob, rfl, hgb, cbk⟩ := Reads.at (by rw [HM.out]; exact HB.out) hlm'
        have i3 : (k : Int) < (m : Int) := by omega
        have HST := hide (Tm.cmpL_step hlt' hlm')
        generalize a[k] = x at *
        generalize b[k] = y at *
        go_wp2_with fail
        refine (Compare_any x y _).mono ?_
        rintro e w1 ⟨rfl, rfl⟩
        by_cases h1 : x < y
        · have hc : cmpInt x y = -1 := by unfold cmpInt; rw [if_pos h1]
          rw [hc]
          clear hc
          go_wp2
          go_ret
          exact ⟨ret_int (by rw [HCM.out, HST.out, if_pos h1]), rfl⟩
        · by_cases h2 : y < x
          · have hc : cmpInt x y = 1 := by unfold cmpInt; rw [if_neg h1, if_pos h2]
            rw [hc]
            clear hc
            go_wp2
            go_ret
            exact ⟨ret_int (by rw [HCM.out, HST.out, if_neg (by omega), if_pos h2]), rfl⟩
          · have hc : cmpInt x y = 0 := by unfold cmpInt; rw [if_neg h1, if_neg h2]
            rw [hc]
            clear hc
            go_wp2
            go_roundw
            case rel => exact ⟨k + 1, by omega, by omega, by go_num, by rw [HCM.out, HST.out, if_neg (by omega), if_neg (by omega)], by first | rfl | trivial⟩
            case measure => simp [intOf]; omega
      · have HST := hide (Tm.cmpL_more hlt' (show b.length ≤ k by rw [HM.out]; omega))
        go_wp2
        go_ret
        exact ⟨ret_int (by rw [HCM.out, HST.out]), rfl⟩
    · have HST := hide (Tm.cmpL_end (b := b) (show a.length ≤ k by rw [HN.out]; omega))
      rw [HM.out] at HST
      by_cases hnm : n < m
      · go_wp2
        go_ret
        exact ⟨ret_int (by rw [HCM.out, HST.out, if_pos (by omega)]), rfl⟩
      · go_wp2
        go_ret
        exact ⟨ret_int (by rw [HCM.out, HST.out, if_neg (by omega)]), rfl⟩
theorem ListsRd.shape {w : World} {v : Value} {ls : List (List Int)} (h : ListsRd w v ls) : ∃ a cap, v = .slice a ls.length cap := by
  obtain ⟨vs, _, h2, _⟩ := h
  exact h2.shape
theorem ListsRd.at {w : World} {a : Option Addr} {m cap : Nat} {ls : List (List Int)} (h : ListsRd w (.slice a m cap) ls) {k : Nat} (hk : k < ls.length) : ∃ g off x, a = some ⟨g, off, none⟩ ∧ g < w.heap.size ∧ w.cell? ⟨g, off + k, none⟩ = some x ∧ Reads w x 1 ls[k].length (ints ls[k]) := by
  obtain ⟨vs, h1, h2, h3⟩ := h
  obtain ⟨g, off, cap', he, hg, hc⟩ := h2.form (by omega)
  cases he
  exact ⟨g, off, vs[k]'(by omega), rfl, hg, hc k _ (by simp [h1, hk]), h3 k _ _ (by simp [h1, hk]) (by simp [hk])⟩

set_option maxRecDepth 100000 in
set_option maxHeartbeats 2000000 in
theorem CompareFunc_any (va vb : Value) (a b : List (List Int)) (w : World) (ha : ListsRd w va a) (hb : ListsRd w vb b) (_hla : a.length ≤ 1000) (_hlb : b.length ≤ 1000) (hea : ∀ l ∈ a, l.length ≤ 1000000) (heb : ∀ l ∈ b, l.length ≤ 1000000) :
    Calls Tryz.prog 91 #[va, vb, .func (.func 93) #[] #[]] w fun e w' => e = .returned (.int .i64 (Tm.cmpLL a b)) ∧ w' = w := by
  obtain ⟨aa, ca, rfl⟩ := ha.shape
  obtain ⟨ab, cb, rfl⟩ := hb.shape
  have HA := hide ha
  have HB := hide hb
  have HEA := hide hea
  have HEB := hide heb
  obtain ⟨n, hn⟩ : ∃ n, a.length = n := ⟨_, rfl⟩
  obtain ⟨m, hm⟩ : ∃ m, b.length = m := ⟨_, rfl⟩
  have HN := hide hn
  have HM := hide hm
  rw [hn] at _hla HA
  rw [hm] at HB
  rw [hn, hm]
  clear ha hb hn hm hea heb
  go_enter Tryz.func91, Tryz.ntmps91
  go_wp2_with fail
  go_loopw [13] (fun i wr => ∃ k : Nat, k ≤ n ∧ k ≤ m ∧ i = .int .i64 k ∧ Tm.cmpLL a b = Tm.cmpLL (a.drop k) (b.drop k) ∧ wr = w) (fun i _ => n - (intOf i).toNat)
  case atStart => exact ⟨0, Nat.zero_le _, Nat.zero_le _, rfl, rfl, rfl⟩
  case round =>
    obtain ⟨k, hk, hkm, rfl, hcm, rfl⟩ := hrel
    have HCM := hide hcm
    clear hcm
    by_cases hlt : k < n
    · have hlt' : k < a.length := by rw [HN.out]; exact hlt
      obtain ⟨g, off, xa, rfl, hg, ck, hra⟩ := HA.out.at hlt'
      have HRA := hide hra
      have hlx := HEA.out _ (List.getElem_mem hlt')
      obtain ⟨a1, c1, rfl⟩ := hra.shape
      have i1 : (0 : Int) ≤ (k : Int) := by omega
      have i2 : (k : Int) < (n : Int) := by omega
      clear hra
      by_cases hlm : k < m
      · have hlm' : k < b.length := by rw [HM.out]; exact hlm
        obtain ⟨gb, ob, xb, rfl, hgb, cbk, hrb⟩ := HB.out.at hlm'
        have HRB := hide hrb
        have hly := HEB.out _ (List.getElem_mem hlm')
        obtain ⟨a2, c2, rfl⟩ := hrb.shape
        have i3 : (k : Int) < (m : Int) := by omega
        have HST := hide (Tm.cmpLL_step hlt' hlm')
        have HRG := hide (Tm.cmpL_range a[k] b[k])
        clear hrb
        generalize a[k] = x at *
        generalize b[k] = y at *
        go_wp2_with fail
        refine (SliceCompare_any _ _ x y _ HRA.out HRB.out hlx hly).mono ?_
        rintro e w1 ⟨rfl, rfl⟩
        generalize Tm.cmpL x y = c at *
        cases hc : (c != 0)
        · have hc0 : c = 0 := by simpa using hc
          subst hc0
          go_wp2
          go_roundw
          case rel => exact ⟨k + 1, by omega, by omega, by go_num, by rw [HCM.out, HST.out]; simp, by first | rfl | trivial⟩
          case measure => simp [intOf]; omega
        · have hc0 : c ≠ 0 := by simpa using hc
          have HC0 := hide hc0
          clear hc0
          go_wp2
          go_ret
          exact ⟨ret_int (by rw [HCM.out, HST.out, if_neg HC0.out]), rfl⟩
      · have HST := hide (Tm.cmpLL_more hlt' (show b.length ≤ k by rw [HM.out]; omega))
        go_wp2
        go_ret
        exact ⟨ret_int (by rw [HCM.out, HST.out]), rfl⟩
    · have HST := hide (Tm.cmpLL_end (b := b) (show a.length ≤ k by rw [HN.out]; omega))
      rw [HM.out] at HST
      by_cases hnm : n < m
      · go_wp2
        go_ret
        exact ⟨ret_int (by rw [HCM.out, HST.out, if_pos (by omega)]), rfl⟩
      · go_wp2
        go_ret
        exact ⟨ret_int (by rw [HCM.out, HST.out, if_neg (by omega)]), rfl⟩
end Go.Proofs.YtmnjjjhmnhfapaaGreatDoor
