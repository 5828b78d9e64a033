import Derived.Test.YtmnjjjhmnhfapaaDoorMTexts
import Derived.Test.YtmnjjjhmnhfapaaDoorMLawPlain
namespace Go.Proofs.YtmnjjjhmnhfapaaDoor
open Go.RowKit

def elTup (e : Tm.El) : Int × Int × Int × Bool := (e.p, e.s, e.t, e.v)
theorem elTup_inj : ∀ {a b : List Tm.El}, a.map elTup = b.map elTup → a = b
  | [], [], _ => rfl
  | [], _ :: _, h => by simp at h
  | _ :: _, [], h => by simp at h
  | x :: a, y :: b, h => by
    simp only [List.map_cons, List.cons.injEq] at h
    obtain ⟨h1, h2⟩ := h
    obtain ⟨p, s, t, v⟩ := x
    obtain ⟨p', s', t', v'⟩ := y
    simp only [elTup, Prod.mk.injEq] at h1
    obtain ⟨rfl, rfl, rfl, rfl⟩ := h1
    rw [elTup_inj h2]
/-- DOC.md's table with three lines more. -/
def exMore : List UInt8 := exText ++ [10, 99, 32, 51, 50, 51, 32, 100, 99, 10, 119, 32, 51, 50, 51, 32, 61, 32, 48, 46, 50, 97, 46, 50, 10, 119, 32, 54, 49, 32, 51, 48, 49, 32, 61, 32, 49, 53, 46, 50, 48, 46, 50]
theorem exMore_ok : (Tm.newTable exMore 3).2 = (0, 0) := by decide +kernel
theorem known_els : Tm.elements (Tm.newTable exText 3).1 (normOf (Tm.newTable exText 3).1 ⟨#[99, 104, 98, 122, 45]⟩) = [⟨19, 32, 2, false⟩, ⟨17, 32, 2, false⟩, ⟨64320, 32, 2, false⟩, ⟨32890, 0, 0, false⟩, ⟨3, 32, 2, true⟩] := elTup_inj (by decide +kernel)
theorem known_more : Tm.elements (Tm.newTable exMore 3).1 (normOf (Tm.newTable exMore 3).1 ⟨#[97, 204, 129, 204, 163]⟩) = [⟨21, 32, 2, false⟩, ⟨0, 42, 2, false⟩] := elTup_inj (by decide +kernel)
theorem known_1 : cmpOf (Tm.newTable exText 3).1 3 false ⟨#[97]⟩ ⟨#[195, 161]⟩ = -1 := by decide +kernel
theorem known_2 : cmpOf (Tm.newTable exText 3).1 3 false ⟨#[195, 161]⟩ ⟨#[98]⟩ = -1 := by decide +kernel
theorem known_3 : cmpOf (Tm.newTable exText 3).1 3 false ⟨#[99, 98]⟩ ⟨#[99, 104]⟩ = -1 := by decide +kernel
theorem known_4 : cmpOf (Tm.newTable exText 3).1 3 false ⟨#[97, 45, 98]⟩ ⟨#[97, 98]⟩ = -1 := by decide +kernel
theorem known_5 : cmpOf (Tm.newTable exText 3).1 3 true ⟨#[97, 45, 98]⟩ ⟨#[97, 98]⟩ = -1 := by decide +kernel
theorem known_6 : cmpOf (Tm.newTable exText 3).1 3 true ⟨#[97, 97]⟩ ⟨#[97, 45, 98]⟩ = -1 := by decide +kernel
theorem known_7 : cmpOf (Tm.newTable exText 3).1 3 false ⟨#[97, 45, 98]⟩ ⟨#[97, 97]⟩ = -1 := by decide +kernel

/-- New of a table that is one. -/
theorem new_good (s : ByteArray) (st : Int) (sh : Bool) (w : World) (hs : s.size ≤ maxLen) (h : (Tm.newTable s.data.toList st).2 = (0, 0)) :
    Calls Tryd.prog 22 #[.string s, .agg #[.int .i64 st, .bool sh]] w fun e w' => ∃ bc bm, e = .returned (.tuple #[.pointer (some ⟨bc, 0, none⟩), .int .i64 0, .int .i64 0]) ∧ Coll w' bc bm st sh (Tm.newTable s.data.toList st).1 ∧ TableOk st (Tm.newTable s.data.toList st).1 ∧ Below w.heap.size w w' := by
  refine (new_said.2 s st sh w hs).mono ?_
  rintro e w1 ⟨c, rfl, hc, hK, hb⟩
  have h0 : Tm.newTable s.data.toList st = ((Tm.newTable s.data.toList st).1, 0, 0) := by rw [← h]
  rw [h] at hc
  obtain ⟨a, rfl⟩ : ∃ a, c = some a := by
    cases c with
    | none => exact absurd rfl (hc.1 rfl)
    | some a => exact ⟨a, rfl⟩
  obtain ⟨bc, bm, lns, rfl, hco, hnt⟩ := hK _ rfl
  have hl : lns = (Tm.newTable s.data.toList st).1 := by rw [hnt]
  subst hl
  refine ⟨bc, bm, by rw [h], hco.here, TableOk.of h0 (newTable_ends h0), hb⟩
theorem new_bad (s : ByteArray) (st : Int) (sh : Bool) (w : World) (n e : Int) (hs : s.size ≤ maxLen) (h : (Tm.newTable s.data.toList st).2 = (n, e)) :
    Calls Tryd.prog 22 #[.string s, .agg #[.int .i64 st, .bool sh]] w fun x w' => (∃ c, x = .returned (.tuple #[.pointer c, .int .i64 n, .int .i64 e])) ∧ Below w.heap.size w w' := by
  refine (new_said.2 s st sh w hs).mono ?_
  rintro x w1 ⟨c, rfl, hc, hK, hb⟩
  exact ⟨⟨c, by rw [h]⟩, hb⟩

set_option maxRecDepth 100000 in
set_option maxHeartbeats 1000000 in
theorem less_any (lns : List Tm.Ln) (bc bm : Nat) (st : Int) (sh : Bool) (a b : ByteArray) (w : World) (hc : Coll w bc bm st sh lns) (hok : TableOk st lns) (ha : a.size ≤ 64) (hb : b.size ≤ 64) (h : cmpOf lns st sh a b = -1) :
    Calls Tryd.prog 23 #[.pointer (some ⟨bc, 0, none⟩), .string a, .string b] w fun e w' => e = .returned (.bool true) ∧ Below w.heap.size w w' := by
  have HC := hide hc
  have HOK := hide hok
  have H := hide h
  clear hc hok h
  go_enter Tryd.func23, Tryd.ntmps23
  go_wp2_with fail
  refine (CodeCompare_any lns bc bm st sh a b _ HC.out HOK.out).mono ?_
  rw [if_pos ⟨ha, hb⟩, H.out]
  rintro e w1 ⟨rfl, hb1⟩
  have HB1 := hide hb1
  clear hb1
  go_wp2
  go_ret
  exact ⟨rfl, HB1.out⟩

set_option maxRecDepth 100000 in
set_option maxHeartbeats 8000000 in
theorem Known_any (k : Int) (w : World) (hk : -9223372036854775808 ≤ k ∧ k ≤ 9223372036854775807) :
    Calls Tryd.prog 7 #[.int .i64 k] w fun e w' => e = .returned (.bool true) ∧ Below w.heap.size w w' := by
  have HK := hide hk
  clear hk
  go_enter Tryd.func7, Tryd.ntmps7
  go_wp2_with fail
  refine (new_good ⟨exText.toArray⟩ 3 false _ (by unfold maxLen; decide) (by exact exText_ok)).mono ?_
  rintro e w1 ⟨bc, bm, rfl, hc1, hok1, hb1⟩
  have HC1 := hide hc1
  have HOK1 := hide hok1
  have HB1 := hide hb1
  have hz1 := hb1.size
  clear hc1 hok1 hb1
  go_wp2_with fail
  refine (new_good ⟨exText.toArray⟩ 3 true _ (by unfold maxLen; decide) (by exact exText_ok)).mono ?_
  rintro e w2 ⟨bd, bn, rfl, hc2, hok2, hb2⟩
  have HD2 := hide hc2
  have HOK2 := hide hok2
  have HB2 := hide (HB1.out.trans (hb2.mono hz1))
  have HC2 := hide (HC1.out.below hb2)
  have hz2 := hb2.size
  clear hc2 hok2 hb2
  go_wp2_with fail
  refine (pick_any k 4 _ HK.out (by omega)).mono ?_
  rintro e w3 ⟨rfl, rfl⟩
  have hp := pickN_range (c := k) (n := 4) (by omega)
  generalize pickN k 4 = q at *
  rcases (show q = 0 ∨ q = 1 ∨ q = 2 ∨ q = 3 by omega) with rfl | rfl | rfl | rfl
  · go_wp2_with fail
    refine (CodeElements_any _ bc bm 3 false ⟨#[99, 104, 98, 122, 45]⟩ _ HC2.out HOK1.out).mono ?_
    rintro e w4 hans
    rw [partsOfAns, if_pos (by decide), known_els] at hans
    obtain ⟨v4, rfl, hown4, hb4⟩ := hans
    have HB4 := hide (HB2.out.trans (hb4.mono (by omega)))
    have hz4 := hb4.size
    obtain ⟨g4, o4, c4, rfl, hg4, hc4⟩ := (Reads.of_owns hown4).form (by simp [elsCells, elCells])
    simp only [List.length_cons, List.length_nil, Nat.zero_add, Nat.reduceAdd]
    obtain ⟨W9, hW9⟩ : ∃ W9, (((((w4.alloc (.cells #[.int .i64 19, .int .i64 32, .int .i64 2, .bool false] 64)).alloc (.cells #[.int .i64 17, .int .i64 32, .int .i64 2, .bool false] 64)).alloc (.cells #[.int .i64 64320, .int .i64 32, .int .i64 2, .bool false] 64)).alloc (.cells #[.int .i64 32890, .int .i64 0, .int .i64 0, .bool false] 64)).alloc (.cells #[.int .i64 3, .int .i64 32, .int .i64 2, .bool true] 64)) = W9 := ⟨_, rfl⟩
    have hb9 : Below w4.heap.size w4 W9 := by rw [← hW9]; exact (((((Below.refl _ _).alloc (Nat.le_refl _) _).alloc (by simp <;> omega) _).alloc (by simp <;> omega) _).alloc (by simp <;> omega) _).alloc (by simp <;> omega) _
    have e00 : W9.cell? ⟨w4.heap.size, 0, none⟩ = some (.int .i64 19) := by rw [← hW9]; rw [cell_old (by simp <;> omega)]; rw [cell_old (by simp <;> omega)]; rw [cell_old (by simp <;> omega)]; rw [cell_old (by simp <;> omega)]; rw [cell_new (by simp)]; rfl
    have e01 : W9.cell? ⟨w4.heap.size, 1, none⟩ = some (.int .i64 32) := by rw [← hW9]; rw [cell_old (by simp <;> omega)]; rw [cell_old (by simp <;> omega)]; rw [cell_old (by simp <;> omega)]; rw [cell_old (by simp <;> omega)]; rw [cell_new (by simp)]; rfl
    have e02 : W9.cell? ⟨w4.heap.size, 2, none⟩ = some (.int .i64 2) := by rw [← hW9]; rw [cell_old (by simp <;> omega)]; rw [cell_old (by simp <;> omega)]; rw [cell_old (by simp <;> omega)]; rw [cell_old (by simp <;> omega)]; rw [cell_new (by simp)]; rfl
    have e03 : W9.cell? ⟨w4.heap.size, 3, none⟩ = some (.bool false) := by rw [← hW9]; rw [cell_old (by simp <;> omega)]; rw [cell_old (by simp <;> omega)]; rw [cell_old (by simp <;> omega)]; rw [cell_old (by simp <;> omega)]; rw [cell_new (by simp)]; rfl
    have e10 : W9.cell? ⟨w4.heap.size + 1, 0, none⟩ = some (.int .i64 17) := by rw [← hW9]; rw [cell_old (by simp <;> omega)]; rw [cell_old (by simp <;> omega)]; rw [cell_old (by simp <;> omega)]; rw [cell_new (by simp)]; rfl
    have e11 : W9.cell? ⟨w4.heap.size + 1, 1, none⟩ = some (.int .i64 32) := by rw [← hW9]; rw [cell_old (by simp <;> omega)]; rw [cell_old (by simp <;> omega)]; rw [cell_old (by simp <;> omega)]; rw [cell_new (by simp)]; rfl
    have e12 : W9.cell? ⟨w4.heap.size + 1, 2, none⟩ = some (.int .i64 2) := by rw [← hW9]; rw [cell_old (by simp <;> omega)]; rw [cell_old (by simp <;> omega)]; rw [cell_old (by simp <;> omega)]; rw [cell_new (by simp)]; rfl
    have e13 : W9.cell? ⟨w4.heap.size + 1, 3, none⟩ = some (.bool false) := by rw [← hW9]; rw [cell_old (by simp <;> omega)]; rw [cell_old (by simp <;> omega)]; rw [cell_old (by simp <;> omega)]; rw [cell_new (by simp)]; rfl
    have e20 : W9.cell? ⟨w4.heap.size + 1 + 1, 0, none⟩ = some (.int .i64 64320) := by rw [← hW9]; rw [cell_old (by simp <;> omega)]; rw [cell_old (by simp <;> omega)]; rw [cell_new (by simp)]; rfl
    have e21 : W9.cell? ⟨w4.heap.size + 1 + 1, 1, none⟩ = some (.int .i64 32) := by rw [← hW9]; rw [cell_old (by simp <;> omega)]; rw [cell_old (by simp <;> omega)]; rw [cell_new (by simp)]; rfl
    have e22 : W9.cell? ⟨w4.heap.size + 1 + 1, 2, none⟩ = some (.int .i64 2) := by rw [← hW9]; rw [cell_old (by simp <;> omega)]; rw [cell_old (by simp <;> omega)]; rw [cell_new (by simp)]; rfl
    have e23 : W9.cell? ⟨w4.heap.size + 1 + 1, 3, none⟩ = some (.bool false) := by rw [← hW9]; rw [cell_old (by simp <;> omega)]; rw [cell_old (by simp <;> omega)]; rw [cell_new (by simp)]; rfl
    have e30 : W9.cell? ⟨w4.heap.size + 1 + 1 + 1, 0, none⟩ = some (.int .i64 32890) := by rw [← hW9]; rw [cell_old (by simp <;> omega)]; rw [cell_new (by simp)]; rfl
    have e31 : W9.cell? ⟨w4.heap.size + 1 + 1 + 1, 1, none⟩ = some (.int .i64 0) := by rw [← hW9]; rw [cell_old (by simp <;> omega)]; rw [cell_new (by simp)]; rfl
    have e32 : W9.cell? ⟨w4.heap.size + 1 + 1 + 1, 2, none⟩ = some (.int .i64 0) := by rw [← hW9]; rw [cell_old (by simp <;> omega)]; rw [cell_new (by simp)]; rfl
    have e33 : W9.cell? ⟨w4.heap.size + 1 + 1 + 1, 3, none⟩ = some (.bool false) := by rw [← hW9]; rw [cell_old (by simp <;> omega)]; rw [cell_new (by simp)]; rfl
    have e40 : W9.cell? ⟨w4.heap.size + 1 + 1 + 1 + 1, 0, none⟩ = some (.int .i64 3) := by rw [← hW9]; rw [cell_new (by simp)]; rfl
    have e41 : W9.cell? ⟨w4.heap.size + 1 + 1 + 1 + 1, 1, none⟩ = some (.int .i64 32) := by rw [← hW9]; rw [cell_new (by simp)]; rfl
    have e42 : W9.cell? ⟨w4.heap.size + 1 + 1 + 1 + 1, 2, none⟩ = some (.int .i64 2) := by rw [← hW9]; rw [cell_new (by simp)]; rfl
    have e43 : W9.cell? ⟨w4.heap.size + 1 + 1 + 1 + 1, 3, none⟩ = some (.bool true) := by rw [← hW9]; rw [cell_new (by simp)]; rfl
    have y0 : W9.cell? ⟨g4, o4, none⟩ = some (.int .i64 19) := (hb9.cell (p := ⟨g4, o4, none⟩) hg4).trans (hc4 0 _ rfl)
    have y1 : W9.cell? ⟨g4, o4 + 1, none⟩ = some (.int .i64 32) := (hb9.cell (p := ⟨g4, o4 + 1, none⟩) hg4).trans (hc4 1 _ rfl)
    have y2 : W9.cell? ⟨g4, o4 + 2, none⟩ = some (.int .i64 2) := (hb9.cell (p := ⟨g4, o4 + 2, none⟩) hg4).trans (hc4 2 _ rfl)
    have y3 : W9.cell? ⟨g4, o4 + 3, none⟩ = some (.bool false) := (hb9.cell (p := ⟨g4, o4 + 3, none⟩) hg4).trans (hc4 3 _ rfl)
    have y4 : W9.cell? ⟨g4, o4 + 4, none⟩ = some (.int .i64 17) := (hb9.cell (p := ⟨g4, o4 + 4, none⟩) hg4).trans (hc4 4 _ rfl)
    have y5 : W9.cell? ⟨g4, o4 + 5, none⟩ = some (.int .i64 32) := (hb9.cell (p := ⟨g4, o4 + 5, none⟩) hg4).trans (hc4 5 _ rfl)
    have y6 : W9.cell? ⟨g4, o4 + 6, none⟩ = some (.int .i64 2) := (hb9.cell (p := ⟨g4, o4 + 6, none⟩) hg4).trans (hc4 6 _ rfl)
    have y7 : W9.cell? ⟨g4, o4 + 7, none⟩ = some (.bool false) := (hb9.cell (p := ⟨g4, o4 + 7, none⟩) hg4).trans (hc4 7 _ rfl)
    have y8 : W9.cell? ⟨g4, o4 + 8, none⟩ = some (.int .i64 64320) := (hb9.cell (p := ⟨g4, o4 + 8, none⟩) hg4).trans (hc4 8 _ rfl)
    have y9 : W9.cell? ⟨g4, o4 + 9, none⟩ = some (.int .i64 32) := (hb9.cell (p := ⟨g4, o4 + 9, none⟩) hg4).trans (hc4 9 _ rfl)
    have y10 : W9.cell? ⟨g4, o4 + 10, none⟩ = some (.int .i64 2) := (hb9.cell (p := ⟨g4, o4 + 10, none⟩) hg4).trans (hc4 10 _ rfl)
    have y11 : W9.cell? ⟨g4, o4 + 11, none⟩ = some (.bool false) := (hb9.cell (p := ⟨g4, o4 + 11, none⟩) hg4).trans (hc4 11 _ rfl)
    have y12 : W9.cell? ⟨g4, o4 + 12, none⟩ = some (.int .i64 32890) := (hb9.cell (p := ⟨g4, o4 + 12, none⟩) hg4).trans (hc4 12 _ rfl)
    have y13 : W9.cell? ⟨g4, o4 + 13, none⟩ = some (.int .i64 0) := (hb9.cell (p := ⟨g4, o4 + 13, none⟩) hg4).trans (hc4 13 _ rfl)
    have y14 : W9.cell? ⟨g4, o4 + 14, none⟩ = some (.int .i64 0) := (hb9.cell (p := ⟨g4, o4 + 14, none⟩) hg4).trans (hc4 14 _ rfl)
    have y15 : W9.cell? ⟨g4, o4 + 15, none⟩ = some (.bool false) := (hb9.cell (p := ⟨g4, o4 + 15, none⟩) hg4).trans (hc4 15 _ rfl)
    have y16 : W9.cell? ⟨g4, o4 + 16, none⟩ = some (.int .i64 3) := (hb9.cell (p := ⟨g4, o4 + 16, none⟩) hg4).trans (hc4 16 _ rfl)
    have y17 : W9.cell? ⟨g4, o4 + 17, none⟩ = some (.int .i64 32) := (hb9.cell (p := ⟨g4, o4 + 17, none⟩) hg4).trans (hc4 17 _ rfl)
    have y18 : W9.cell? ⟨g4, o4 + 18, none⟩ = some (.int .i64 2) := (hb9.cell (p := ⟨g4, o4 + 18, none⟩) hg4).trans (hc4 18 _ rfl)
    have y19 : W9.cell? ⟨g4, o4 + 19, none⟩ = some (.bool true) := (hb9.cell (p := ⟨g4, o4 + 19, none⟩) hg4).trans (hc4 19 _ rfl)
    have HB9 : Hid (Below w.heap.size w W9) := HB4.out.trans (hb9.mono (by omega))
    have HW9 := hide hW9
    clear hb9 hW9 hown4 hb4 hc4
    go_wp2_with fail
    rw [HW9.out]
    go_quiet (fail)
    go_wp2
    go_ret
    exact ⟨rfl, HB9.out.os, HB9.out.tape, HB9.out.output, HB9.out.size, HB9.out.block⟩
  · have HC_0 := HC2
    have HD_0 := HD2
    have HB_0 := HB2
    have hz_0 : w.heap.size ≤ w3.heap.size := by omega
    go_wp2_with fail
    refine (less_any _ bc bm 3 false ⟨#[97]⟩ ⟨#[195, 161]⟩ _ HC_0.out HOK1.out (by decide) (by decide) known_1).mono ?_
    rintro e u1 ⟨rfl, hu1⟩
    have hz_1 : w.heap.size ≤ u1.heap.size := Nat.le_trans hz_0 hu1.size
    have HC_1 := hide (HC_0.out.below hu1)
    have HD_1 := hide (HD_0.out.below hu1)
    have HB_1 := hide (HB_0.out.trans (hu1.mono hz_0))
    clear hu1
    go_wp2_with fail
    refine (less_any _ bc bm 3 false ⟨#[195, 161]⟩ ⟨#[98]⟩ _ HC_1.out HOK1.out (by decide) (by decide) known_2).mono ?_
    rintro e u2 ⟨rfl, hu2⟩
    have hz_2 : w.heap.size ≤ u2.heap.size := Nat.le_trans hz_1 hu2.size
    have HC_2 := hide (HC_1.out.below hu2)
    have HD_2 := hide (HD_1.out.below hu2)
    have HB_2 := hide (HB_1.out.trans (hu2.mono hz_1))
    clear hu2
    go_wp2_with fail
    refine (less_any _ bc bm 3 false ⟨#[99, 98]⟩ ⟨#[99, 104]⟩ _ HC_2.out HOK1.out (by decide) (by decide) known_3).mono ?_
    rintro e u3 ⟨rfl, hu3⟩
    have hz_3 : w.heap.size ≤ u3.heap.size := Nat.le_trans hz_2 hu3.size
    have HC_3 := hide (HC_2.out.below hu3)
    have HD_3 := hide (HD_2.out.below hu3)
    have HB_3 := hide (HB_2.out.trans (hu3.mono hz_2))
    clear hu3
    go_wp2_with fail
    refine (less_any _ bc bm 3 false ⟨#[97, 45, 98]⟩ ⟨#[97, 98]⟩ _ HC_3.out HOK1.out (by decide) (by decide) known_4).mono ?_
    rintro e u4 ⟨rfl, hu4⟩
    have hz_4 : w.heap.size ≤ u4.heap.size := Nat.le_trans hz_3 hu4.size
    have HC_4 := hide (HC_3.out.below hu4)
    have HD_4 := hide (HD_3.out.below hu4)
    have HB_4 := hide (HB_3.out.trans (hu4.mono hz_3))
    clear hu4
    go_wp2_with fail
    refine (less_any _ bd bn 3 true ⟨#[97, 45, 98]⟩ ⟨#[97, 98]⟩ _ HD_4.out HOK2.out (by decide) (by decide) known_5).mono ?_
    rintro e u5 ⟨rfl, hu5⟩
    have hz_5 : w.heap.size ≤ u5.heap.size := Nat.le_trans hz_4 hu5.size
    have HC_5 := hide (HC_4.out.below hu5)
    have HD_5 := hide (HD_4.out.below hu5)
    have HB_5 := hide (HB_4.out.trans (hu5.mono hz_4))
    clear hu5
    go_wp2_with fail
    refine (less_any _ bd bn 3 true ⟨#[97, 97]⟩ ⟨#[97, 45, 98]⟩ _ HD_5.out HOK2.out (by decide) (by decide) known_6).mono ?_
    rintro e u6 ⟨rfl, hu6⟩
    have hz_6 : w.heap.size ≤ u6.heap.size := Nat.le_trans hz_5 hu6.size
    have HC_6 := hide (HC_5.out.below hu6)
    have HD_6 := hide (HD_5.out.below hu6)
    have HB_6 := hide (HB_5.out.trans (hu6.mono hz_5))
    clear hu6
    go_wp2_with fail
    refine (less_any _ bc bm 3 false ⟨#[97, 45, 98]⟩ ⟨#[97, 97]⟩ _ HC_6.out HOK1.out (by decide) (by decide) known_7).mono ?_
    rintro e u7 ⟨rfl, hu7⟩
    have hz_7 : w.heap.size ≤ u7.heap.size := Nat.le_trans hz_6 hu7.size
    have HC_7 := hide (HC_6.out.below hu7)
    have HD_7 := hide (HD_6.out.below hu7)
    have HB_7 := hide (HB_6.out.trans (hu7.mono hz_6))
    clear hu7
    go_wp2
    go_ret
    exact ⟨rfl, HB_7.out⟩
  · obtain ⟨ms, hms⟩ : ∃ ms : ByteArray, (⟨exText.toArray⟩ : ByteArray) ++ ⟨#[10, 99, 32, 51, 50, 51, 32, 100, 99, 10, 119, 32, 51, 50, 51, 32, 61, 32, 48, 46, 50, 97, 46, 50, 10, 119, 32, 54, 49, 32, 51, 48, 49, 32, 61, 32, 49, 53, 46, 50, 48, 46, 50]⟩ = ms := ⟨_, rfl⟩
    have HMS : Hid (ms.data.toList = exMore) := by unfold Hid; rw [← hms]; decide +kernel
    have hmz : ms.size ≤ maxLen := by have h : ms.data.toList.length ≤ 8192 := by rw [HMS.out]; decide +kernel
                                      simp at h; unfold maxLen; omega
    have hnew := new_good ms 3 false w3 hmz (by rw [HMS.out]; exact exMore_ok)
    rw [HMS.out] at hnew
    rw [← hms] at hnew
    have HNEW := hide hnew
    clear hnew hms
    go_wp2_with fail
    refine HNEW.out.mono ?_
    rintro e u1 ⟨bf, bp, rfl, hcf, hokf, hu1⟩
    have HCF := hide hcf
    have HOKF := hide hokf
    have HU1 : Hid (Below w.heap.size w u1) := HB2.out.trans (hu1.mono (by omega))
    have hz_1 := HU1.out.size
    clear hcf hokf hu1
    go_wp2_with fail
    refine (CodeElements_any _ bf bp 3 false ⟨#[97, 204, 129, 204, 163]⟩ _ HCF.out HOKF.out).mono ?_
    rintro e w4 hans
    rw [partsOfAns, if_pos (by decide), known_more] at hans
    obtain ⟨v4, rfl, hown4, hb4⟩ := hans
    have HB4 := hide (HU1.out.trans (hb4.mono (by omega)))
    have hz4 := hb4.size
    obtain ⟨g4, o4, c4, rfl, hg4, hc4⟩ := (Reads.of_owns hown4).form (by simp [elsCells, elCells])
    simp only [List.length_cons, List.length_nil, Nat.zero_add, Nat.reduceAdd]
    obtain ⟨W9, hW9⟩ : ∃ W9, ((w4.alloc (.cells #[.int .i64 21, .int .i64 32, .int .i64 2, .bool false] 64)).alloc (.cells #[.int .i64 0, .int .i64 42, .int .i64 2, .bool false] 64)) = W9 := ⟨_, rfl⟩
    have hb9 : Below w4.heap.size w4 W9 := by rw [← hW9]; exact ((Below.refl _ _).alloc (Nat.le_refl _) _).alloc (by simp <;> omega) _
    have e00 : W9.cell? ⟨w4.heap.size, 0, none⟩ = some (.int .i64 21) := by rw [← hW9]; rw [cell_old (by simp <;> omega)]; rw [cell_new (by simp)]; rfl
    have e01 : W9.cell? ⟨w4.heap.size, 1, none⟩ = some (.int .i64 32) := by rw [← hW9]; rw [cell_old (by simp <;> omega)]; rw [cell_new (by simp)]; rfl
    have e02 : W9.cell? ⟨w4.heap.size, 2, none⟩ = some (.int .i64 2) := by rw [← hW9]; rw [cell_old (by simp <;> omega)]; rw [cell_new (by simp)]; rfl
    have e03 : W9.cell? ⟨w4.heap.size, 3, none⟩ = some (.bool false) := by rw [← hW9]; rw [cell_old (by simp <;> omega)]; rw [cell_new (by simp)]; rfl
    have e10 : W9.cell? ⟨w4.heap.size + 1, 0, none⟩ = some (.int .i64 0) := by rw [← hW9]; rw [cell_new (by simp)]; rfl
    have e11 : W9.cell? ⟨w4.heap.size + 1, 1, none⟩ = some (.int .i64 42) := by rw [← hW9]; rw [cell_new (by simp)]; rfl
    have e12 : W9.cell? ⟨w4.heap.size + 1, 2, none⟩ = some (.int .i64 2) := by rw [← hW9]; rw [cell_new (by simp)]; rfl
    have e13 : W9.cell? ⟨w4.heap.size + 1, 3, none⟩ = some (.bool false) := by rw [← hW9]; rw [cell_new (by simp)]; rfl
    have y0 : W9.cell? ⟨g4, o4, none⟩ = some (.int .i64 21) := (hb9.cell (p := ⟨g4, o4, none⟩) hg4).trans (hc4 0 _ rfl)
    have y1 : W9.cell? ⟨g4, o4 + 1, none⟩ = some (.int .i64 32) := (hb9.cell (p := ⟨g4, o4 + 1, none⟩) hg4).trans (hc4 1 _ rfl)
    have y2 : W9.cell? ⟨g4, o4 + 2, none⟩ = some (.int .i64 2) := (hb9.cell (p := ⟨g4, o4 + 2, none⟩) hg4).trans (hc4 2 _ rfl)
    have y3 : W9.cell? ⟨g4, o4 + 3, none⟩ = some (.bool false) := (hb9.cell (p := ⟨g4, o4 + 3, none⟩) hg4).trans (hc4 3 _ rfl)
    have y4 : W9.cell? ⟨g4, o4 + 4, none⟩ = some (.int .i64 0) := (hb9.cell (p := ⟨g4, o4 + 4, none⟩) hg4).trans (hc4 4 _ rfl)
    have y5 : W9.cell? ⟨g4, o4 + 5, none⟩ = some (.int .i64 42) := (hb9.cell (p := ⟨g4, o4 + 5, none⟩) hg4).trans (hc4 5 _ rfl)
    have y6 : W9.cell? ⟨g4, o4 + 6, none⟩ = some (.int .i64 2) := (hb9.cell (p := ⟨g4, o4 + 6, none⟩) hg4).trans (hc4 6 _ rfl)
    have y7 : W9.cell? ⟨g4, o4 + 7, none⟩ = some (.bool false) := (hb9.cell (p := ⟨g4, o4 + 7, none⟩) hg4).trans (hc4 7 _ rfl)
    have HB9 : Hid (Below w.heap.size w W9) := HB4.out.trans (hb9.mono (by omega))
    have HW9 := hide hW9
    clear hb9 hW9 hown4 hb4 hc4
    go_wp2_with fail
    rw [HW9.out]
    go_quiet (fail)
    go_wp2
    go_ret
    exact ⟨rfl, HB9.out.os, HB9.out.tape, HB9.out.output, HB9.out.size, HB9.out.block⟩
  · go_wp2_with fail
    refine (new_bad ⟨#[119, 32, 54, 50, 32, 61, 32, 49, 49, 46, 50, 48, 46, 50, 10, 119, 32, 54, 49, 32, 61, 32, 49, 48]⟩ 1 false _ 2 1 (by unfold maxLen; decide) (by decide +kernel)).mono ?_
    rintro e u1 ⟨⟨c1, rfl⟩, hu1⟩
    have HU1 : Hid (Below w.heap.size w u1) := HB2.out.trans (hu1.mono (by omega))
    have hz_1 := HU1.out.size
    clear hu1
    go_wp2_with fail
    refine (new_bad ⟨#[100, 32, 101, 49, 32, 101, 49]⟩ 1 false _ 1 3 (by unfold maxLen; decide) (by decide +kernel)).mono ?_
    rintro e u2 ⟨⟨c2, rfl⟩, hu2⟩
    have HU2 : Hid (Below w.heap.size w u2) := HU1.out.trans (hu2.mono hz_1)
    have hz_2 := HU2.out.size
    clear hu2
    go_wp2_with fail
    refine (new_bad ⟨#[119, 32, 54, 49, 32, 54, 50, 32, 54, 51, 32, 61, 32, 49, 46, 49, 46, 49]⟩ 1 false _ 1 5 (by unfold maxLen; decide) (by decide +kernel)).mono ?_
    rintro e u3 ⟨⟨c3, rfl⟩, hu3⟩
    have HU3 : Hid (Below w.heap.size w u3) := HU2.out.trans (hu3.mono hz_2)
    have hz_3 := HU3.out.size
    clear hu3
    go_wp2_with fail
    refine (new_bad ⟨#[119, 32, 54, 49, 32, 61, 32, 49, 46, 48, 46, 48]⟩ 1 false _ 1 4 (by unfold maxLen; decide) (by decide +kernel)).mono ?_
    rintro e u4 ⟨⟨c4, rfl⟩, hu4⟩
    have HU4 : Hid (Below w.heap.size w u4) := HU3.out.trans (hu4.mono hz_3)
    clear hu4
    go_wp2
    go_ret
    exact ⟨rfl, HU4.out⟩
end Go.Proofs.YtmnjjjhmnhfapaaDoor
