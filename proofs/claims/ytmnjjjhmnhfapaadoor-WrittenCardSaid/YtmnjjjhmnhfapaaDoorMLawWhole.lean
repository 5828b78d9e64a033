import Derived.BigQuiet
import Derived.Test.YtmnjjjhmnhfapaaDoorMLawBook
namespace Go.Proofs.YtmnjjjhmnhfapaaDoor
open Go.RowKit

theorem BookIs.at {w : World} {bb B R capb : Nat} {ab : Option Addr} {rows : List Value} (h : BookIs w bb B (.slice ab R capb) rows) {k : Nat} (hk : k < rows.length) :
    ∃ gb off n a c, ab = some ⟨gb, off, none⟩ ∧ w.cell? ⟨gb, off + k, none⟩ = some (.slice a n c) ∧ n ≤ 100003 ∧ ∀ j, j < n → ∃ g o, a = some ⟨g, o, none⟩ ∧ w.cell? ⟨g, o + j, none⟩ = some (.int .i64 (-1000 - (k : Int) / 4)) := by
  have hrd := Reads.of_owns h.row
  obtain ⟨gb, off, cap, he, _, hc⟩ := hrd.form (by omega)
  cases he
  obtain ⟨n, hn, hr, _⟩ := h.marks k rows[k] (by simp [hk])
  obtain ⟨a, c, hs⟩ := hr.shape
  have hcu := hc k rows[k] (by simp [hk])
  rw [hs] at hcu hr
  refine ⟨gb, off, n, a, c, rfl, hcu, hn, fun j hj => ?_⟩
  obtain ⟨g, o, cap', he', _, hc'⟩ := hr.form (by rw [ints_length]; simp; omega)
  cases he'
  have := hc' j (.int .i64 (-1000 - (k : Int) / 4)) (by rw [ints_get (by simp; exact hj)]; simp)
  exact ⟨g, o, rfl, this⟩

set_option maxRecDepth 100000 in
set_option maxHeartbeats 2000000 in
theorem whole_any (bb B : Nat) (vb : Value) (rows : List Value) (w : World) (h : BookIs w bb B vb rows) (hr : rows.length ≤ 100000000) :
    Calls Tryd.prog 13 #[.pointer (some ⟨bb, 0, none⟩)] w fun e w' => e = .returned (.bool true) ∧ ∃ q, w' = w.drewN q := by
  obtain ⟨ab, capb, rfl⟩ := (Reads.of_owns h.row).shape
  have HB := hide h
  have c0 := h.cell
  have c1 := h.nil 1 (by omega)
  have c2 := h.nil 2 (by omega)
  have c3 := h.nil 3 (by omega)
  have hbb := h.lt
  obtain ⟨R, hR⟩ : ∃ R, rows.length = R := ⟨_, rfl⟩
  rw [hR] at c0 hr HB
  have HR := hide hR
  clear h hR
  go_enter Tryd.func13, Tryd.ntmps13
  go_wp2
  go_loopw [3] (fun i wr => ∃ k : Nat, k ≤ R ∧ i = .int .i64 k ∧ ∃ q, wr = w.drewN q) (fun i _ => R - (intOf i).toNat)
  case atStart => exact ⟨0, Nat.zero_le _, rfl, 0, rfl⟩
  case round =>
    obtain ⟨k, hk, rfl, q, rfl⟩ := hrel
    by_cases hlt : k < R
    · obtain ⟨gb, off, n, a, c, rfl, cu, hn, hc⟩ := HB.out.at (k := k) (by rw [HR.out]; exact hlt)
      have q1 : (0 : Int) ≤ (k : Int) / 4 := by omega
      have q2 : (k : Int) / 4 ≤ 1000000000 := by omega
      have HC := hide hc
      clear hc
      go_wp2_with fail
      go_loopw [4] (fun i wr => ∃ j : Nat, j ≤ n ∧ i = .int .i64 j ∧ ∃ q, wr = w.drewN q) (fun i _ => n - (intOf i).toNat)
      case atStart => exact ⟨0, Nat.zero_le _, rfl, q, rfl⟩
      case round =>
        obtain ⟨j, hj, rfl, q', rfl⟩ := hrel
        by_cases hjl : j < n
        · obtain ⟨g, o, rfl, cj⟩ := HC.out j hjl
          have i1 : (0 : Int) ≤ (k : Int) := by omega
          have i2 : (k : Int) < (R : Int) := by omega
          have i3 : (0 : Int) ≤ (j : Int) := by omega
          have i4 : (j : Int) < (n : Int) := by omega
          have I5 : Hid (IntKind.i64.wrap ((k : Int) / 4) = (k : Int) / 4) := by unfold Hid; rw [IntKind.wrap_i64]; omega
          have HM := hide (fun w => markInt_any ((k : Int) / 4) w ⟨q1, q2⟩)
          obtain ⟨mk, hmk⟩ : ∃ mk : Int, -1000 - (k : Int) / 4 = mk := ⟨_, rfl⟩
          rw [hmk] at cj HM
          go_wp2_with fail
          go_quiet (first | (go_at_call 33; first | exact (HM.out _).mono (fun _ _ h => ⟨h.1, _, h.2⟩) | (rw [I5.out]; exact (HM.out _).mono (fun _ _ h => ⟨h.1, _, h.2⟩))))
          go_wp2
          go_roundw
          case rel => exact ⟨j + 1, by omega, by go_num, _, rfl⟩
          case measure => simp [intOf]; omega
        · go_wp2
          go_roundw
          case rel => exact ⟨k + 1, by omega, by go_num, q', rfl⟩
          case measure => simp [intOf]; omega
    · go_wp2_with fail
      go_loop [5] (fun i => i = .int .i64 0) (fun _ => 0)
      case atStart => rfl
      case round =>
        subst hrel
        go_wp2_with fail
        go_loop [7] (fun i => i = .int .i64 0) (fun _ => 0)
        case atStart => rfl
        case round =>
          subst hrel
          go_wp2_with fail
          go_loop [10] (fun i => i = .int .i64 0) (fun _ => 0)
          case atStart => rfl
          case round =>
            subst hrel
            go_wp2
            go_ret
            exact ⟨rfl, q, rfl⟩
end Go.Proofs.YtmnjjjhmnhfapaaDoor
