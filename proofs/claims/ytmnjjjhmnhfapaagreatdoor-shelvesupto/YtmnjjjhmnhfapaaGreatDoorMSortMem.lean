/-
 A row of numbers that is sorted in place.
-/
import Derived.Test.YtmnjjjhmnhfapaaGreatDoorMCodeEnds
namespace Go.Proofs.YtmnjjjhmnhfapaaGreatDoor
open Go.RowKit
def Ints (w : World) (g off : Nat) (d : List Int) : Prop := ∀ j x, d[j]? = some x → w.cell? ⟨g, off + j, none⟩ = some (.int .i64 x) ∧ w.frozen? ⟨g, off + j, none⟩ = false
structure Turn (g off n : Nat) (w w' : World) : Prop where
 os : w'.os = w.os
 tape : w'.tape = w.tape
 output : w'.output = w.output
 size : w'.heap.size = w.heap.size
 other : ∀ k, k ≠ g → w'.heap[k]? = w.heap[k]?
 cells : ∀ cur e p, w.heap[g]? = some (.cells cur e p) → ∃ cur', w'.heap[g]? = some (.cells cur' e p) ∧ cur'.size = cur.size ∧ ∀ o, o < off ∨ off + n ≤ o → cur'[o]? = cur[o]?
theorem Turn.refl (g off n : Nat) (w : World) : Turn g off n w w := ⟨rfl, rfl, rfl, rfl, fun _ _ => rfl, fun cur _ _ h => ⟨cur, h, rfl, fun _ _ => rfl⟩⟩
theorem Turn.drew {g off n : Nat} {w w' : World} (h : Turn g off n w w') : Turn g off n w w'.drew := ⟨h.os, h.tape, h.output, h.size, h.other, h.cells⟩
theorem Turn.drewN {g off n : Nat} {w w' : World} (h : Turn g off n w w') (m : Nat) : Turn g off n w (w'.drewN m) := ⟨h.os, h.tape, h.output, h.size, h.other, h.cells⟩
theorem Turn.trans {g off n : Nat} {a b c : World} (h : Turn g off n a b) (k : Turn g off n b c) : Turn g off n a c := by
 refine ⟨k.os.trans h.os, k.tape.trans h.tape, k.output.trans h.output, k.size.trans h.size, fun i hi => (k.other i hi).trans (h.other i hi), fun cur e p hc => ?_⟩
 obtain ⟨c1, h1, h2, h3⟩ := h.cells cur e p hc
 obtain ⟨c2, k1, k2, k3⟩ := k.cells c1 e p h1
 exact ⟨c2, k1, k2.trans h2, fun o ho => (k3 o ho).trans (h3 o ho)⟩
theorem Turn.setCell {g off n : Nat} {w w' : World} (h : Turn g off n w w') {o : Nat} (h1 : off ≤ o) (h2 : o < off + n) (v : Value) : Turn g off n w (w'.setCell ⟨g, o, none⟩ v) := by
 refine h.trans ⟨rfl, rfl, rfl, by simp [World.setCell], fun k hk => Below.heap_setCell _ _ _ _ hk, fun cur e p hc => ?_⟩
 refine ⟨cur.setIfInBounds o v, ?_, by simp, fun q hq => ?_⟩
 ·simp only [World.setCell, Array.getElem?_modify, hc]; rfl
 ·rw [Array.getElem?_setIfInBounds, if_neg (by omega)]
theorem Turn.below {g off n B : Nat} {w0 w w' : World} (h : Turn g off n w w') (hb : Below B w0 w) (hg : B ≤ g) : Below B w0 w' :=
 hb.trans ⟨h.os, h.tape, h.output, by rw [h.size]; exact Nat.le_refl _, fun k hk => h.other k (by omega)⟩
theorem Ints.at {w : World} {g off : Nat} {d : List Int} (h : Ints w g off d) {j : Nat} (hj : j < d.length) : w.cell? ⟨g, off + j, none⟩ = some (.int .i64 d[j]) ∧ w.frozen? ⟨g, off + j, none⟩ = false := h j d[j] (by simp [hj])
theorem Ints.swap {w : World} {g off : Nat} {a b c : List Int} {x y : Int} {i j : Nat} (h : Ints w g off (a ++ x :: (b ++ y :: c))) (hi : i = a.length) (hj : j = a.length + 1 + b.length) :
  Ints ((w.setCell ⟨g, off + i, none⟩ (.int .i64 y)).setCell ⟨g, off + j, none⟩ (.int .i64 x)) g off (a ++ y :: (b ++ x :: c)) := by
 subst hi hj
 have hx := h a.length x (by simp)
 have hy := h (a.length + 1 + b.length) y (by rw [List.getElem?_append_right (by omega), show a.length + 1 + b.length - a.length = b.length + 1 from by omega]; simp)
 intro q u hu
 rw [World.frozen?_setCell, World.frozen?_setCell]
 by_cases e1 : q = a.length + 1 + b.length
 ·subst e1
  rw [List.getElem?_append_right (by omega), show a.length + 1 + b.length - a.length = b.length + 1 from by omega] at hu
  simp at hu
  subst hu
  exact ⟨World.cell?_setCell_same _ _ _ ((World.cell?_setCell_other _ _ _ _ (by simp <;> omega)).trans hy.1), hy.2⟩
 ·rw [World.cell?_setCell_other _ _ _ _ (by simp <;> omega)]
  by_cases e2 : q = a.length
  ·subst e2
   simp at hu
   subst hu
   exact ⟨World.cell?_setCell_same _ _ _ hx.1, hx.2⟩
  ·rw [World.cell?_setCell_other _ _ _ _ (by simp <;> omega)]
   refine h q u ?_
   rw [← hu]
   by_cases e3 : q < a.length
   ·rw [List.getElem?_append_left e3, List.getElem?_append_left e3]
   ·rw [List.getElem?_append_right (by omega), List.getElem?_append_right (by omega)]
    obtain ⟨t, ht⟩ : ∃ t, q - a.length = t + 1 := ⟨q - a.length - 1, by omega⟩
    rw [ht, List.getElem?_cons_succ, List.getElem?_cons_succ]
    by_cases e4 : t < b.length
    ·rw [List.getElem?_append_left e4, List.getElem?_append_left e4]
    ·rw [List.getElem?_append_right (by omega), List.getElem?_append_right (by omega)]
     obtain ⟨s, hs⟩ : ∃ s, t - b.length = s + 1 := ⟨t - b.length - 1, by omega⟩
     rw [hs, List.getElem?_cons_succ, List.getElem?_cons_succ]
theorem Ints.swapR {w : World} {g off : Nat} {a b c : List Int} {x y : Int} {i j : Nat} (h : Ints w g off (a ++ x :: (b ++ y :: c))) (hi : i = a.length) (hj : j = a.length + 1 + b.length) :
  Ints ((w.setCell ⟨g, off + j, none⟩ (.int .i64 x)).setCell ⟨g, off + i, none⟩ (.int .i64 y)) g off (a ++ y :: (b ++ x :: c)) := by
 subst hi hj
 have hx := h a.length x (by simp)
 have hy := h (a.length + 1 + b.length) y (by rw [List.getElem?_append_right (by omega), show a.length + 1 + b.length - a.length = b.length + 1 from by omega]; simp)
 intro q u hu
 rw [World.frozen?_setCell, World.frozen?_setCell]
 by_cases e1 : q = a.length + 1 + b.length
 ·subst e1
  rw [List.getElem?_append_right (by omega), show a.length + 1 + b.length - a.length = b.length + 1 from by omega] at hu
  simp at hu
  subst hu
  rw [World.cell?_setCell_other _ _ _ _ (by simp <;> omega)]
  exact ⟨World.cell?_setCell_same _ _ _ hy.1, hy.2⟩
 ·by_cases e2 : q = a.length
  ·subst e2
   simp at hu
   subst hu
   exact ⟨World.cell?_setCell_same _ _ _ ((World.cell?_setCell_other _ _ _ _ (by simp <;> omega)).trans hx.1), hx.2⟩
  ·rw [World.cell?_setCell_other _ _ _ _ (by simp <;> omega), World.cell?_setCell_other _ _ _ _ (by simp <;> omega)]
   refine h q u ?_
   rw [← hu]
   by_cases e3 : q < a.length
   ·rw [List.getElem?_append_left e3, List.getElem?_append_left e3]
   ·rw [List.getElem?_append_right (by omega), List.getElem?_append_right (by omega)]
    obtain ⟨t, ht⟩ : ∃ t, q - a.length = t + 1 := ⟨q - a.length - 1, by omega⟩
    rw [ht, List.getElem?_cons_succ, List.getElem?_cons_succ]
    by_cases e4 : t < b.length
    ·rw [List.getElem?_append_left e4, List.getElem?_append_left e4]
    ·rw [List.getElem?_append_right (by omega), List.getElem?_append_right (by omega)]
     obtain ⟨s, hs⟩ : ∃ s, t - b.length = s + 1 := ⟨t - b.length - 1, by omega⟩
     rw [hs, List.getElem?_cons_succ, List.getElem?_cons_succ]
def cmpInt (a b : Int) : Int := if a < b then -1 else if b < a then 1 else 0
theorem cmpInt_neg {a b : Int} : decide (cmpInt a b < 0) = decide (a < b) := by
 unfold cmpInt
 by_cases h : a < b
 ·simp [h]
 ·rw [if_neg h]
  by_cases h2 : b < a
  ·simp [h, h2]
  ·simp [h, h2]
set_option maxRecDepth 100000 in
theorem isNaN_any (a : Int) (w : World) : Calls Tryz.prog 169 #[.int .i64 a] w fun e w' => e = .returned (.bool false) ∧ w' = w := by
 go_enter Tryz.func169, Tryz.ntmps169
 go_wp2
 go_ret
 refine ⟨ret_bool (by simp), rfl⟩
set_option maxRecDepth 100000 in
set_option maxHeartbeats 1000000 in
theorem Compare_any (a b : Int) (w : World) : Calls Tryz.prog 135 #[.int .i64 a, .int .i64 b] w fun e w' => e = .returned (.int .i64 (cmpInt a b)) ∧ w' = w := by
 have HC : Hid (cmpInt a b = if a < b then -1 else if b < a then 1 else 0) := rfl
 by_cases h1 : a < b
 ·have hd : decide (a < b) = true := by simpa using h1
  go_enter Tryz.func135, Tryz.ntmps135
  go_wp2_with fail
  refine (isNaN_any a _).mono ?_
  rintro e w' ⟨rfl, rfl⟩
  go_wp2_with fail
  refine (isNaN_any b _).mono ?_
  rintro e w' ⟨rfl, rfl⟩
  go_wp2
  go_ret
  exact ⟨ret_int (by rw [HC.out, if_pos (by omega)]), rfl⟩
 ·have hd : decide (a < b) = false := by simpa using h1
  by_cases h2 : b < a
  ·have hd2 : decide (b < a) = true := by simpa using h2
   go_enter Tryz.func135, Tryz.ntmps135
   go_wp2_with fail
   refine (isNaN_any a _).mono ?_
   rintro e w' ⟨rfl, rfl⟩
   go_wp2_with fail
   refine (isNaN_any b _).mono ?_
   rintro e w' ⟨rfl, rfl⟩
   go_wp2
   go_ret
   exact ⟨ret_int (by rw [HC.out, if_neg (by omega), if_pos (by omega)]), rfl⟩
  ·have hd2 : decide (b < a) = false := by simpa using h2
   go_enter Tryz.func135, Tryz.ntmps135
   go_wp2_with fail
   refine (isNaN_any a _).mono ?_
   rintro e w' ⟨rfl, rfl⟩
   go_wp2_with fail
   refine (isNaN_any b _).mono ?_
   rintro e w' ⟨rfl, rfl⟩
   go_wp2
   go_ret
   exact ⟨ret_int (by rw [HC.out, if_neg (by omega), if_neg (by omega)]), rfl⟩
theorem field_class (c : Int) (w : World) : (Instr.field 244 (.agg #[.int .i64 c]) 0).run Tryz.prog w = .ok (.int .i64 c) w := by kernel_rfl
set_option maxRecDepth 100000 in
set_option maxHeartbeats 1000000 in
theorem byClass_any (lns : List Tm.Ln) (bm : Nat) (a b : Int) (w : World) (hrd : NodesRd w bm lns) (ha : 0 ≤ a ∧ a ≤ 1114111) (hb : 0 ≤ b ∧ b ≤ 1114111) :
  Calls Tryz.prog 166 #[.map (some bm), .int .i64 a, .int .i64 b] w fun e w' => e = .returned (.int .i64 (cmpInt (Tm.classOf lns a) (Tm.classOf lns b))) ∧ w' = w := by
 obtain ⟨f, hmap, hok⟩ := hrd
 obtain ⟨vp, vs, hfa, _, _⟩ := hok a ha.1
 obtain ⟨vp', vs', hfb, _, _⟩ := hok b hb.1
 have HMAP := hide hmap
 have hf1 := field_rank
 have hf2 := field_class
 clear hmap hok
 go_enter Tryz.func166, Tryz.ntmps166
 go_wp2_with (at_lookup; first | (refine wpList_look rfl _ _ rfl bm lns.length f rfl HMAP.out a rfl (wf_rune ha) _ hfa ?_) | (refine wpList_look rfl _ _ rfl bm lns.length f rfl HMAP.out b rfl (wf_rune hb) _ hfb ?_))
 refine (Compare_any _ _ _).mono ?_
 rintro e w' ⟨rfl, rfl⟩
 go_wp2
 go_ret
 exact ⟨rfl, rfl⟩
end Go.Proofs.YtmnjjjhmnhfapaaGreatDoor
