import Derived.Deep.QuietTactic
import Derived.BigQuiet
import Derived.Test.YtmnjjjhmnhfapaaGreatDoorMRefNum
namespace Go.Proofs.YtmnjjjhmnhfapaaGreatDoor
open Go.RowKit
def ints (l : List Int) : List Value := l.map (Value.int .i64)
theorem ints_get {l : List Int} {k : Nat} (h : k < l.length) : (ints l)[k]? = some (.int .i64 l[k]) := by simp [ints, h]
theorem ints_length (l : List Int) : (ints l).length = l.length := by simp [ints]
theorem ret_bool {a b : Bool} (h : a = b) : Ending.returned (.bool a) = .returned (.bool b) := by rw [h]
def sameTo (la lb : List Int) (k : Nat) : Prop := la.take k = lb.take k
theorem sameTo_step {la lb : List Int} {k : Nat} (h : sameTo la lb k) (hk : k < la.length) (hk' : k < lb.length) (he : la[k] = lb[k]) : sameTo la lb (k + 1) := by
 unfold sameTo at *
 rw [List.take_succ_eq_append_getElem hk, List.take_succ_eq_append_getElem hk', h, he]
theorem sameTo_all {la lb : List Int} {k : Nat} (h : sameTo la lb k) (hk : la.length ≤ k) (hk' : lb.length ≤ k) : la = lb := by
 unfold sameTo at h
 rwa [List.take_of_length_le hk, List.take_of_length_le hk'] at h
set_option maxRecDepth 100000 in
set_option maxHeartbeats 1000000 in
theorem sameInts_any (va vb : Value) (la lb : List Int) (w : World) (ha : Reads w va 1 la.length (ints la)) (hb : Reads w vb 1 lb.length (ints lb)) (hl : la.length ≤ 1000000) (hl' : lb.length ≤ 1000000) :
  Calls Tryz.prog 80 #[va, vb] w fun e w' => e = .returned (.bool (decide (la = lb))) ∧ ∃ n, w' = w.drewN n := by
 by_cases hlen : la.length = lb.length
 ·by_cases h0 : la.length = 0
  ·obtain ⟨a, cap, rfl⟩ := ha.shape
   obtain ⟨a', cap', rfl⟩ := hb.shape
   have e1 : la = [] := List.eq_nil_of_length_eq_zero h0
   have e2 : lb = [] := List.eq_nil_of_length_eq_zero (by omega)
   subst e1 e2
   clear ha hb hl hl' hlen h0
   go_enter Tryz.func80, Tryz.ntmps80
   go_wp2
   go_loop [5] (fun i => i = .int .i64 0) (fun _ => 0)
   case atStart => rfl
   case round =>
    subst hrel
    go_wp2
    go_ret
    exact ⟨rfl, 0, rfl⟩
  ·obtain ⟨g, off, cap, rfl, _, hc⟩ := ha.form (by rw [ints_length]; omega)
   obtain ⟨g', off', cap', rfl, _, hc'⟩ := hb.form (by rw [ints_length]; omega)
   clear ha hb
   generalize hn : la.length = n at *
   have hcells : ∀ k (h : k < la.length), w.cell? ⟨g, off + k, none⟩ = some (.int .i64 la[k]) := fun k h => hc k _ (ints_get h)
   have hcells' : ∀ k (h : k < lb.length), w.cell? ⟨g', off' + k, none⟩ = some (.int .i64 lb[k]) := fun k h => hc' k _ (ints_get h)
   have HN := hide hn
   have HC := hide hcells
   have HC' := hide hcells'
   have HL := hide hlen
   rw [← hlen]
   clear hc hc' hcells hcells' hn hlen hl'
   go_enter Tryz.func80, Tryz.ntmps80
   go_wp2
   go_loopw [5] (fun i wr => ∃ k : Nat, k ≤ n ∧ i = .int .i64 k ∧ sameTo la lb k ∧ ∃ q, wr = w.drewN q) (fun i _ => n - (intOf i).toNat)
   case atStart => exact ⟨0, Nat.zero_le _, rfl, rfl, 0, rfl⟩
   case round =>
    obtain ⟨k, hk, rfl, hsame, q, rfl⟩ := hrel
    by_cases hlt : k < n
    ·have hka : k < la.length := by rw [HN.out]; exact hlt
     have hkb : k < lb.length := by rw [← HL.out]; exact hlt
     have c1 := HC.out k hka
     have c2 := HC'.out k hkb
     have i1 : (0 : Int) ≤ (k : Int) := by omega
     have i2 : (k : Int) < (n : Int) := by omega
     have HE : Hid (∀ h : la[k] = lb[k], sameTo la lb (k + 1)) := fun h => sameTo_step hsame hka hkb h
     have HX : Hid (la[k] ≠ lb[k] → la ≠ lb) := fun h h' => h (by subst h'; rfl)
     generalize la[k] = x at *
     generalize lb[k] = y at *
     clear hsame hka hkb
     go_wp2
     go_quiet (fail)
     cases hxy : (x != y)
     ·go_wp2
      go_roundw
      case rel => exact ⟨k + 1, by omega, by go_num, HE.out (by simpa using hxy), _, rfl⟩
      case measure => simp [intOf]; omega
     ·go_wp2
      go_ret
      exact ⟨ret_bool (by simp [HX.out (by simpa using hxy)]), q + nq, by simp⟩
    ·have HE := hide (sameTo_all hsame (by rw [HN.out]; omega) (by rw [← HL.out]; omega))
     clear hsame
     go_wp2
     go_ret
     exact ⟨ret_bool (by simp [HE.out]), q, rfl⟩
 ·obtain ⟨a, cap, rfl⟩ := ha.shape
  obtain ⟨a', cap', rfl⟩ := hb.shape
  have hne : ((la.length : Int) != (lb.length : Int)) = true := by rw [bne_iff_ne]; omega
  have HE : Hid (la ≠ lb) := fun h => hlen (by rw [h])
  clear ha hb
  go_enter Tryz.func80, Tryz.ntmps80
  go_wp2
  go_ret
  exact ⟨ret_bool (by simp [HE.out]), 0, rfl⟩
end Go.Proofs.YtmnjjjhmnhfapaaGreatDoor
