import Derived.Laws.IdiomStrings
import Derived.Test.YtmnjjjhmnhfapaaGreatDoorMCodeStand
import Derived.Test.YtmnjjjhmnhfapaaGreatDoorMCodeBuild
namespace Go.Proofs.YtmnjjjhmnhfapaaGreatDoor
open Go.RowKit
theorem lev_in (lns : List Tm.Ln) (st : Int) (sh : Bool) (n : List Int) {k : Nat} (hk : k < st.toNat) (h4 : k < 4) : (levels lns st sh n)[k]? = some (Tm.level sh (Tm.elements lns n) k) := by
 unfold levels
 rw [List.getElem?_take, if_pos hk]
 rcases (show k = 0 ∨ k = 1 ∨ k = 2 ∨ k = 3 by omega) with rfl | rfl | rfl | rfl <;> rfl
theorem lists_of {w : World} {v : Value} {B : Nat} {vs : Nat → Value} {vn : Value} {lns : List Tm.Ln} {st : Int} {sh : Bool} {n : List Int} {t : Nat} (ht : st.toNat = t) (h4 : t ≤ 4)
  (hown : Reads w v 1 (t + 1) (((List.range t).map vs) ++ [vn])) (hl : Lev4 w B vs (fun k => Tm.level sh (Tm.elements lns n) k)) (hn : Reads w vn 1 n.length (ints n)) : ListsRd w v (stands lns st sh n) := by
 have hll : (levels lns st sh n).length = t := by unfold levels; rw [List.length_take, ht]; simp; omega
 have hlen : (stands lns st sh n).length = t + 1 := by unfold stands; rw [List.length_append, hll]; rfl
 have hvl : ((List.range t).map vs).length = t := by simp
 refine ⟨((List.range t).map vs) ++ [vn], by rw [hlen, List.length_append, hvl]; rfl, by rw [hlen]; exact hown, fun k x l hx hl' => ?_⟩
 unfold stands at hl'
 by_cases hk : k < t
 ·rw [List.getElem?_append_left (by rw [hvl]; exact hk), List.getElem?_map, List.getElem?_range hk] at hx
  rw [List.getElem?_append_left (by rw [hll]; exact hk), lev_in lns st sh n (by omega) (by omega)] at hl'
  have e1 : vs k = x := by simpa using hx
  have e2 : Tm.level sh (Tm.elements lns n) k = l := by simpa using hl'
  subst e1 e2
  exact Reads.of_owns (hl k (by omega))
 ·have hkl := (List.getElem?_eq_some_iff.1 hx).1
  rw [List.length_append, hvl] at hkl
  have hkt : k = t := by simp at hkl; omega
  subst hkt
  rw [List.getElem?_append_right (by rw [hvl]; exact Nat.le_refl _), hvl] at hx
  rw [List.getElem?_append_right (by omega), hll] at hl'
  have e1 : vn = x := by simpa using hx
  have e2 : n = l := by simpa using hl'
  subst e1 e2
  exact hn
theorem reads_four {w : World} {bl t : Nat} {vs : Nat → Value} (h4 : t ≤ 4) (hlt : bl < w.heap.size) (c : ∀ k, k < 4 → w.cell? ⟨bl, k, none⟩ = some (vs k)) : Reads w (.slice (some ⟨bl, 0, none⟩) t 4) 1 ((List.range t).map vs).length ((List.range t).map vs) := by
 refine ⟨by simp, fun g hg => by simp [Value.ownBlock] at hg; subst hg; exact hlt, some ⟨bl, 0, none⟩, 4, by simp, ⟨by simpa using h4, by unfold maxLen; omega⟩, fun j u hu => ⟨bl, 0, rfl, ?_⟩⟩
 have hj := (List.getElem?_eq_some_iff.1 hu).1
 simp at hj
 rw [List.getElem?_map, List.getElem?_range hj] at hu
 have e : vs j = u := by simpa using hu
 subst e
 rw [Nat.zero_add]
 exact c j (by omega)
set_option maxRecDepth 100000 in
set_option maxHeartbeats 4000000 in
theorem standing_any (lns : List Tm.Ln) (bc bm : Nat) (st : Int) (sh : Bool) (s : ByteArray) (w : World) (hc : Coll w bc bm st sh lns) (hends : ∀ r, Tm.ends lns 4 r = true) (hh : Tm.Heavy lns) (hst : 1 ≤ st ∧ st ≤ 4) (hs : s.size ≤ 64) :
  Calls Tryz.prog 92 #[.pointer (some ⟨bc, 0, none⟩), .string s] w fun e w' => ∃ v, e = .returned v ∧ ListsRd w' v (stands lns st sh (normOf lns s)) ∧ Below w.heap.size w w' := by
 obtain ⟨i1, ki, kz0, kz1, kz2⟩ := info_parts (show (Tryz.prog.info? 83).map (fun i => (i.zero, i.size, i.bytes)) = some (some (.slice none 0 0), 1, 24) by kernel_rfl)
 have hsl : ∀ (t b : Nat) (w : World), t ≤ 4 → (Instr.sliceAt 213 (.pointer (some ⟨b, 0, none⟩)) none (some (.int .i64 t)) none).run Tryz.prog w = .ok (.slice (some ⟨b, 0, none⟩) t 4) w := by
  intro t b w h
  rcases (show t = 0 ∨ t = 1 ∨ t = 2 ∨ t = 3 ∨ t = 4 by omega) with rfl | rfl | rfl | rfl | rfl <;> kernel_rfl
 have HC := hide hc
 have HENDS := hide hends
 have HH := hide hh
 have hlt := hc.lt
 have c0 := hc.c0
 have hfew := hc.few
 have hnl := norm_short' hc.fit hs
 have hel := Tm.elements_length hc.fit (normOf lns s)
 obtain ⟨t, ht⟩ : ∃ t : Nat, st.toNat = t := ⟨_, rfl⟩
 have ht4 : t ≤ 4 := by omega
 have ht0 : 1 ≤ t := by omega
 have hstt : st = (t : Int) := by omega
 have HT := hide ht
 have hsl := fun b w => hsl t b w ht4
 clear hc hends hh ht
 subst hstt
 clear hst
 obtain ⟨N, hN⟩ : ∃ N, normOf lns s = N := ⟨_, rfl⟩
 have HNN := hide hN
 rw [hN] at hnl hel
 rw [hN]
 obtain ⟨E, hE⟩ : ∃ E, Tm.elements lns N = E := ⟨_, rfl⟩
 have HE := hide hE
 rw [hE] at hel
 clear hN hE
 go_enter Tryz.func92, Tryz.ntmps92
 go_wp2_with fail
 refine (normalForm_any lns HC.out.fit HENDS.out bm s _ hs HC.out.rd).mono ?_
 rintro e w1 ⟨v1, rfl, hown1, hb1⟩
 rw [HNN.out] at hown1
 have HR1 := hide (Reads.of_owns hown1)
 obtain ⟨an, cn, rfl⟩ := (Reads.of_owns hown1).shape
 have HB1 := hide hb1
 have hz1 := hb1.size
 have HC1 := hide (HC.out.below hb1)
 have c01 := HC1.out.c0
 clear hown1 hb1 c0
 go_wp2_with fail
 refine (elements_any lns bm _ N _ HC1.out.rd HR1.out (by rw [← HNN.out]; exact norm_calm lns s) (by rw [← HNN.out]; exact norm_range HC.out.fit s) (by omega) hfew HC.out.fit).mono ?_
 rintro e w2 ⟨v2, rfl, hown2, hb2⟩
 rw [HE.out] at hown2
 have HR2 := hide (Reads.of_owns hown2)
 obtain ⟨ae, ce, rfl⟩ := (Reads.of_owns hown2).shape
 have HB2 : Hid (Below w.heap.size w w2) := HB1.out.trans (hb2.mono hz1)
 have hz2 := hb2.size
 have HRN2 := hide (HR1.out.below hb2 HR1.out.2.1)
 have HC2 := hide (HC1.out.below hb2)
 clear hown2 hb2 c01
 go_wp2_with fail
 refine (levelsOf_any _ E _ HR2.out (by omega)).mono ?_
 rintro e w3 ⟨vs, rfl, hl3, hb3⟩
 have HL3 := hide hl3
 have HB3 : Hid (Below w.heap.size w w3) := HB2.out.trans (hb3.mono (by omega))
 have hz3 := hb3.size
 have HRN3 := hide (HRN2.out.below hb3 HRN2.out.2.1)
 have HR3 := hide (HR2.out.below hb3 HR2.out.2.1)
 have HC3 := hide (HC2.out.below hb3)
 have hshape : ∀ j, j < 4 → ∃ aj cj, vs j = .slice aj (Tm.level false E j).length cj := fun j hj => (Reads.of_owns (hl3 j hj)).shape
 obtain ⟨a0, k0, h0⟩ := hshape 0 (by omega)
 obtain ⟨a1, k1, h1⟩ := hshape 1 (by omega)
 obtain ⟨a2, k2, h2⟩ := hshape 2 (by omega)
 obtain ⟨a3, k3, h3⟩ := hshape 3 (by omega)
 have HV := hide (And.intro h0 (And.intro h1 (And.intro h2 h3)))
 rw [h0, h1, h2, h3]
 clear hshape hl3 hb3
 have hbx : Below w3.heap.size w3 (w3.alloc (.cells #[.slice a0 (Tm.level false E 0).length k0, .slice a1 (Tm.level false E 1).length k1, .slice a2 (Tm.level false E 2).length k2, .slice a3 (Tm.level false E 3).length k3] 213)) := (Below.refl _ _).alloc (Nat.le_refl _) _
 have HBX := hide hbx
 have hltx : bc < w3.heap.size := by omega
 have d2 := HC3.out.c2
 have d1 := HC3.out.c1
 clear hbx h0 h1 h2 h3
 obtain ⟨W5, hW5⟩ : ∃ W5, w3.alloc (.cells #[.slice a0 (Tm.level false E 0).length k0, .slice a1 (Tm.level false E 1).length k1, .slice a2 (Tm.level false E 2).length k2, .slice a3 (Tm.level false E 3).length k3] 213) = W5 := ⟨_, rfl⟩
 rw [hW5] at HBX
 have hz5 : W5.heap.size = w3.heap.size + 1 := by rw [← hW5]; simp
 have q0 : W5.cell? ⟨w3.heap.size, 0, none⟩ = some (.slice a0 (Tm.level false E 0).length k0) := by rw [← hW5, cell_new rfl]; rfl
 have q1 : W5.cell? ⟨w3.heap.size, 1, none⟩ = some (.slice a1 (Tm.level false E 1).length k1) := by rw [← hW5, cell_new rfl]; rfl
 have q2 : W5.cell? ⟨w3.heap.size, 2, none⟩ = some (.slice a2 (Tm.level false E 2).length k2) := by rw [← hW5, cell_new rfl]; rfl
 have q3 : W5.cell? ⟨w3.heap.size, 3, none⟩ = some (.slice a3 (Tm.level false E 3).length k3) := by rw [← hW5, cell_new rfl]; rfl
 have qf : ∀ o, W5.frozen? ⟨w3.heap.size, o, none⟩ = false := fun o => by rw [← hW5, frozen_new rfl]
 have HC5 := hide (HC3.out.below HBX.out)
 have d25 := HC5.out.c2
 have d15 := HC5.out.c1
 clear d1 d2
 cases sh
 ·have HRD : Hid (Reads W5 (.slice (some ⟨w3.heap.size, 0, none⟩) t 4) 1 ((List.range t).map vs).length ((List.range t).map vs)) := reads_four ht4 (by omega) (four_cases (by rw [HV.out.1]; exact q0) (by rw [HV.out.2.1]; exact q1) (by rw [HV.out.2.2.1]; exact q2) (by rw [HV.out.2.2.2]; exact q3))
  have HL5 := hide (HL3.out.below HBX.out)
  have HRN5 := hide (HRN3.out.below HBX.out HRN3.out.2.1)
  have HB5 : Hid (Below w.heap.size w W5) := HB3.out.trans (HBX.out.mono (by omega))
  clear q0 q1 q2 q3 qf
  have hone : ∀ u ∈ (List.range t).map vs, u.oneCell' = true := by
   intro u hu
   obtain ⟨j, hj, rfl⟩ := List.mem_map.1 hu
   have hj' := List.mem_range.1 hj
   obtain ⟨aj, cj, h⟩ := (Reads.of_owns (HL5.out j (by omega))).shape
   rw [h]; rfl
  have HONE := hide hone
  clear hone
  go_wp2_with fail
  refine (Clone_rows _ ((List.range t).map vs) _ HRD.out HONE.out (by simp; omega)).mono ?_
  rintro e w6 ⟨v6, rfl, hown6, hb6⟩
  have hz6 := hb6.size
  have HL6 := hide (HL5.out.below hb6)
  have HRN6 := hide (HRN5.out.below hb6 HRN5.out.2.1)
  have HB6 : Hid (Below w.heap.size w w6) := HB5.out.trans (hb6.mono (by omega))
  have hlr : ((List.range t).map vs).length = t := by simp
  rw [hlr] at hown6
  obtain ⟨a6, c6, rfl⟩ := (Reads.of_owns hown6).shape
  have HOF := hide hown6
  have HO6 := hide (owns_mono (base' := w.heap.size) hown6 (by omega))
  clear hown6 hb6 hlr
  go_wp2_with (at_builtin; go_must (refine wpList_append_own_at _ rfl _ _ 35 rfl w.heap.size 83 i1 (.slice none 0 0) 1 24 Tryz.underlying35 ki kz0 kz1 kz2 rfl (by decide) _ _ _ rfl (HO6.out.alloc _) ⟨w6.heap.size, 0, none⟩ 1 1 [.slice an N.length cn] rfl rfl news_one (by intro u hu; simp at hu; subst hu; rfl) (by unfold maxLen; omega) (by omega) (by simp; omega) ?_))
  intro v7 w7 hown7 hgr7 _ hat7
  have hz7 := hgr7.size
  have hb7 : ∀ g, g < W5.heap.size → w7.heap[g]? = w6.heap[g]? := fun g hg => (hgr7.block g (by simp; omega) (fun h => by have := (HOF.out.lt g h.symm).1; omega)).trans (heap_alloc_old w6 _ (by omega))
  have hz76 : w6.heap.size ≤ w7.heap.size := by simp at hz7; omega
  have HANS : Hid (ListsRd w7 v7 (stands lns (t : Int) false N)) := by
   refine lists_of (B := w2.heap.size) (vs := vs) (vn := .slice an N.length cn) HT.out ht4 (Reads.of_owns hown7) ?_ ?_
   ·intro j hj
    have h := HL6.out j hj
    rw [HE.out]
    exact ownsRow_same h (fun g hg => hb7 g ((HL5.out j hj).lt g hg).2)
   ·exact HRN6.out.of_blocks hz76 (fun g hg => hb7 g (HRN5.out.2.1 g hg))
  have HBF : Hid (Below w.heap.size w w7) := (HB6.out.alloc (by omega) _).grown hgr7 (by simp; omega) (fun j hj => (HO6.out.lt j hj).1)
  obtain ⟨a7, c7, rfl⟩ := (Reads.of_owns hown7).shape
  clear hown7 hgr7 hat7 hb7
  go_wp2
  go_ret
  exact ⟨_, rfl, HANS.out, HBF.out⟩
 ·have HR5 := hide (HR3.out.below HBX.out HR3.out.2.1)
  go_wp2_with fail
  refine (shiftedLevelsOf_any _ E _ HR5.out (by omega) (by rw [← HE.out]; exact Tm.elements_var HH.out N)).mono ?_
  rintro e w8 ⟨us, rfl, hl8, hb8⟩
  have hz8 := hb8.size
  have p0 : w8.cell? ⟨w3.heap.size, 0, none⟩ = some (.slice a0 (Tm.level false E 0).length k0) := by rw [hb8.cell (p := ⟨w3.heap.size, 0, none⟩) (by simp only; omega)]; exact q0
  have p1 : w8.cell? ⟨w3.heap.size, 1, none⟩ = some (.slice a1 (Tm.level false E 1).length k1) := by rw [hb8.cell (p := ⟨w3.heap.size, 1, none⟩) (by simp only; omega)]; exact q1
  have p2 : w8.cell? ⟨w3.heap.size, 2, none⟩ = some (.slice a2 (Tm.level false E 2).length k2) := by rw [hb8.cell (p := ⟨w3.heap.size, 2, none⟩) (by simp only; omega)]; exact q2
  have p3 : w8.cell? ⟨w3.heap.size, 3, none⟩ = some (.slice a3 (Tm.level false E 3).length k3) := by rw [hb8.cell (p := ⟨w3.heap.size, 3, none⟩) (by simp only; omega)]; exact q3
  have pf : ∀ o, w8.frozen? ⟨w3.heap.size, o, none⟩ = false := fun o => by rw [hb8.frozen (p := ⟨w3.heap.size, o, none⟩) (by simp only; omega)]; exact qf o
  have pf0 := pf 0
  have pf1 := pf 1
  have pf2 := pf 2
  have pf3 := pf 3
  have hshape : ∀ j, j < 4 → ∃ aj cj, us j = .slice aj (Tm.level true E j).length cj := fun j hj => (Reads.of_owns (hl8 j hj)).shape
  obtain ⟨b0, m0, g0⟩ := hshape 0 (by omega)
  obtain ⟨b1, m1, g1⟩ := hshape 1 (by omega)
  obtain ⟨b2, m2, g2⟩ := hshape 2 (by omega)
  obtain ⟨b3, m3, g3⟩ := hshape 3 (by omega)
  have hC8 := HC5.out.below hb8
  have hRN8 := (HRN3.out.below HBX.out HRN3.out.2.1).below hb8 (HRN3.out.below HBX.out HRN3.out.2.1).2.1
  have hB8 : Below w.heap.size w w8 := (HB3.out.trans (HBX.out.mono (by omega))).trans (hb8.mono (by omega))
  obtain ⟨W9, hW9⟩ : ∃ W9, put4c w8 w3.heap.size (.slice b0 (Tm.level true E 0).length m0) (.slice b1 (Tm.level true E 1).length m1) (.slice b2 (Tm.level true E 2).length m2) (.slice b3 (Tm.level true E 3).length m3) = W9 := ⟨_, rfl⟩
  have hz9 : W9.heap.size = w8.heap.size := by rw [← hW9, put4c_size]
  have hoth : ∀ g, g ≠ w3.heap.size → W9.heap[g]? = w8.heap[g]? := fun g hg => by rw [← hW9]; exact put4c_other hg
  have z := put4c_cell (v0 := .slice b0 (Tm.level true E 0).length m0) (v1 := .slice b1 (Tm.level true E 1).length m1) (v2 := .slice b2 (Tm.level true E 2).length m2) (v3 := .slice b3 (Tm.level true E 3).length m3) p0 p1 p2 p3
  rw [hW9] at z
  have HRD : Hid (Reads W9 (.slice (some ⟨w3.heap.size, 0, none⟩) t 4) 1 ((List.range t).map us).length ((List.range t).map us)) := reads_four ht4 (by omega) (four_cases (by rw [g0]; exact z.1) (by rw [g1]; exact z.2.1) (by rw [g2]; exact z.2.2.1) (by rw [g3]; exact z.2.2.2))
  have HL9 : Hid (Lev4 W9 W5.heap.size us (fun k => Tm.level true E k)) := fun j hj => ownsRow_same (hl8 j hj) (fun g hg => hoth g (by have := ((hl8 j hj).lt g hg).1; omega))
  have HRN9 : Hid (Reads W9 (.slice an N.length cn) 1 N.length (ints N)) := hRN8.of_blocks (by omega) (fun g hg => hoth g (by have := HRN3.out.2.1 g hg; omega))
  have HB9 : Hid (Below w.heap.size w W9) := by unfold Hid; rw [← hW9]; exact put4c_below hB8 (by omega)
  have d19 : W9.cell? ⟨bc, 1, none⟩ = some (.int .i64 (t : Int)) := by rw [World.cell?_of_block (w := w8) (hoth bc (by omega))]; exact hC8.c1
  rw [g0, g1, g2, g3]
  unfold put4c at hW9
  have HW9 := hide hW9
  clear hl8 hb8 z hoth hC8 hRN8 hB8 hW9 hshape q0 q1 q2 q3 qf pf g0 g1 g2 g3 d15 d25
  go_upto_region 6 with fail
  rw [HW9.out]
  clear p0 p1 p2 p3 pf0 pf1 pf2 pf3
  have hone : ∀ u ∈ (List.range t).map us, u.oneCell' = true := by
   intro u hu
   obtain ⟨j, hj, rfl⟩ := List.mem_map.1 hu
   have hj' := List.mem_range.1 hj
   obtain ⟨aj, cj, h⟩ := (Reads.of_owns (HL9.out j (by omega))).shape
   rw [h]; rfl
  have HONE := hide hone
  clear hone
  go_wp2_with fail
  refine (Clone_rows _ ((List.range t).map us) _ HRD.out HONE.out (by simp; omega)).mono ?_
  rintro e w6 ⟨v6, rfl, hown6, hb6⟩
  have hz6 := hb6.size
  have HL6 := hide (HL9.out.below hb6)
  have HRN6 := hide (HRN9.out.below hb6 HRN9.out.2.1)
  have HB6 : Hid (Below w.heap.size w w6) := HB9.out.trans (hb6.mono (by omega))
  have hlr : ((List.range t).map us).length = t := by simp
  rw [hlr] at hown6
  obtain ⟨a6, c6, rfl⟩ := (Reads.of_owns hown6).shape
  have HOF := hide hown6
  have HO6 := hide (owns_mono (base' := w.heap.size) hown6 (by omega))
  clear hown6 hb6 hlr
  go_wp2_with (at_builtin; go_must (refine wpList_append_own_at _ rfl _ _ 35 rfl w.heap.size 83 i1 (.slice none 0 0) 1 24 Tryz.underlying35 ki kz0 kz1 kz2 rfl (by decide) _ _ _ rfl (HO6.out.alloc _) ⟨w6.heap.size, 0, none⟩ 1 1 [.slice an N.length cn] rfl rfl news_one (by intro u hu; simp at hu; subst hu; rfl) (by unfold maxLen; omega) (by omega) (by simp; omega) ?_))
  intro v7 w7 hown7 hgr7 _ hat7
  have hz7 := hgr7.size
  have hb7 : ∀ g, g < W9.heap.size → w7.heap[g]? = w6.heap[g]? := fun g hg => (hgr7.block g (by simp; omega) (fun h => by have := (HOF.out.lt g h.symm).1; omega)).trans (heap_alloc_old w6 _ (by omega))
  have hz76 : w6.heap.size ≤ w7.heap.size := by simp at hz7; omega
  have HANS : Hid (ListsRd w7 v7 (stands lns (t : Int) true N)) := by
   refine lists_of (B := W5.heap.size) (vs := us) (vn := .slice an N.length cn) HT.out ht4 (Reads.of_owns hown7) ?_ ?_
   ·intro j hj
    have h := HL6.out j hj
    rw [HE.out]
    exact ownsRow_same h (fun g hg => hb7 g ((HL9.out j hj).lt g hg).2)
   ·exact HRN6.out.of_blocks hz76 (fun g hg => hb7 g (HRN9.out.2.1 g hg))
  have HBF : Hid (Below w.heap.size w w7) := (HB6.out.alloc (by omega) _).grown hgr7 (by simp; omega) (fun j hj => (HO6.out.lt j hj).1)
  obtain ⟨a7, c7, rfl⟩ := (Reads.of_owns hown7).shape
  clear hown7 hgr7 hat7 hb7
  go_wp2
  go_ret
  exact ⟨_, rfl, HANS.out, HBF.out⟩
namespace Tm
theorem cmpL_step {a b : List Int} {k : Nat} (ha : k < a.length) (hb : k < b.length) : cmpL (a.drop k) (b.drop k) = if a[k] < b[k] then -1 else if b[k] < a[k] then 1 else cmpL (a.drop (k + 1)) (b.drop (k + 1)) := by
 rw [List.drop_eq_getElem_cons ha, List.drop_eq_getElem_cons hb, cmpL]
theorem cmpL_more {a b : List Int} {k : Nat} (ha : k < a.length) (hb : b.length ≤ k) : cmpL (a.drop k) (b.drop k) = 1 := by
 rw [List.drop_eq_getElem_cons ha, List.drop_of_length_le hb, cmpL]
theorem cmpL_end {a b : List Int} {k : Nat} (ha : a.length ≤ k) : cmpL (a.drop k) (b.drop k) = if k < b.length then -1 else 0 := by
 rw [List.drop_of_length_le ha]
 split
 ·rename_i h; rw [List.drop_eq_getElem_cons h, cmpL]
 ·rename_i h; rw [List.drop_of_length_le (by omega), cmpL]
theorem cmpLL_step {a b : List (List Int)} {k : Nat} (ha : k < a.length) (hb : k < b.length) : cmpLL (a.drop k) (b.drop k) = if cmpL a[k] b[k] = 0 then cmpLL (a.drop (k + 1)) (b.drop (k + 1)) else cmpL a[k] b[k] := by
 rw [List.drop_eq_getElem_cons ha, List.drop_eq_getElem_cons hb, cmpLL]
end Tm
theorem ListsRd.shape {w : World} {v : Value} {ls : List (List Int)} (h : ListsRd w v ls) : ∃ a cap, v = .slice a ls.length cap := by
 obtain ⟨vs, _, h2, _⟩ := h
 exact h2.shape
theorem ListsRd.at {w : World} {a : Option Addr} {m cap : Nat} {ls : List (List Int)} (h : ListsRd w (.slice a m cap) ls) {k : Nat} (hk : k < ls.length) : ∃ g off x, a = some ⟨g, off, none⟩ ∧ g < w.heap.size ∧ w.cell? ⟨g, off + k, none⟩ = some x ∧ Reads w x 1 ls[k].length (ints ls[k]) := by
 obtain ⟨vs, h1, h2, h3⟩ := h
 obtain ⟨g, off, cap', he, hg, hc⟩ := h2.form (by omega)
 cases he
 exact ⟨g, off, vs[k]'(by omega), rfl, hg, hc k _ (by simp [h1, hk]), h3 k _ _ (by simp [h1, hk]) (by simp [hk])⟩
def byteCells (l : List UInt8) : List Value := l.map fun c => .int .u8 (c.toNat : Int)
theorem byteCells_length (l : List UInt8) : (byteCells l).length = l.length := by simp [byteCells]
theorem byteCells_append (a b : List UInt8) : byteCells (a ++ b) = byteCells a ++ byteCells b := by simp [byteCells]
theorem num3_cells {x : Int} (h1 : 0 ≤ x) (h2 : x < 16777216) : byteCells (Tm.num3 x) = [.int .u8 (x / 65536), .int .u8 (x / 256 % 256), .int .u8 (x % 256)] := by
 obtain ⟨n, rfl⟩ : ∃ n : Nat, x = n := ⟨x.toNat, by omega⟩
 have hn : n < 16777216 := by omega
 have e1 : (n / 65536) % 256 = n / 65536 := Nat.mod_eq_of_lt (by omega)
 simp only [Tm.num3, byteCells, List.map_cons, List.map_nil, Int.toNat_natCast, UInt8.toNat_ofNat', Nat.reducePow]
 rw [e1]
 simp
set_option maxRecDepth 100000 in
set_option maxHeartbeats 2000000 in
theorem appendNumber_any (v : Value) (l : List UInt8) (x : Int) (B : Nat) (w : World) (hown : w.ownsRow B 5 1 v l.length (byteCells l)) (hB : B ≤ w.heap.size) (hx : 0 ≤ x ∧ x < 16777216) (hl : l.length ≤ 100000000) :
  Calls Tryz.prog 149 #[v, .int .i64 x] w fun e w' => ∃ v', e = .returned v' ∧ w'.ownsRow B 5 1 v' (l ++ Tm.num3 x).length (byteCells (l ++ Tm.num3 x)) ∧ Below B w w' := by
 obtain ⟨i0, hi, hz0, hz1, hz2⟩ := info_parts (show (Tryz.prog.info? 5).map (fun i => (i.zero, i.size, i.bytes)) = some (some (.int .u8 0), 1, 1) by kernel_rfl)
 obtain ⟨av, cv, rfl⟩ := (Reads.of_owns hown).shape
 have HO := hide hown
 obtain ⟨h1, h2⟩ := hx
 clear hown
 go_enter Tryz.func149, Tryz.ntmps149
 have HN3 := hide (num3_cells h1 h2)
 go_wp2_with (at_builtin; go_must (refine wpList_append_own_at _ rfl _ _ 177 rfl B 5 i0 (.int .u8 0) 1 1 Tryz.underlying177 hi hz0 hz1 hz2 rfl (by decide) _ _ _ rfl (HO.out.alloc _) ⟨w.heap.size, 0, none⟩ 3 3 [.int .u8 (x / 65536), .int .u8 (x / 256 % 256), .int .u8 (x % 256)] rfl rfl (news_three rfl) (by intro u hu; simp at hu; rcases hu with rfl | rfl | rfl <;> rfl) (by unfold maxLen; omega) (by omega) (by simp; omega) ?_))
 intro v' w' hown' hgr' _ _
 have HO' : Hid (w'.ownsRow B 5 1 v' (l ++ Tm.num3 x).length (byteCells (l ++ Tm.num3 x))) := by
  unfold Hid
  rw [byteCells_append, HN3.out, List.length_append]
  exact hown'
 have HB' : Hid (Below B w w') := ((Below.refl _ _).alloc hB _).grown hgr' (by simp; omega) (fun k hk => (HO.out.lt k hk).1)
 obtain ⟨a', c', rfl⟩ := (Reads.of_owns hown').shape
 clear hown' hgr'
 go_wp2
 go_ret
 exact ⟨_, rfl, HO'.out, HB'.out⟩
namespace Tm
theorem num3_length (x : Int) : (num3 x).length = 3 := rfl
theorem flat3_length (l : List Int) : (l.flatMap num3).length = 3 * l.length := by
 induction l with
 | nil => rfl
 | cons x r ih => simp only [List.flatMap_cons, List.length_append, ih, num3_length, List.length_cons]; omega
theorem keyLL_short : ∀ {ls : List (List Int)}, (∀ l ∈ ls, l.length ≤ 10000) → (keyLL ls).length ≤ 30003 * ls.length
 | [], _ => by simp [keyLL]
 | l :: r, h => by
  have ih := keyLL_short (ls := r) (fun l hl => h l (by simp [hl]))
  have h1 := h l (by simp)
  simp only [keyLL, List.flatMap_cons, List.length_append, List.length_cons] at ih ⊢
  simp only [keyL, List.length_append, flat3_length, num3_length]
  omega
theorem keyLL_snoc {ls : List (List Int)} {k : Nat} (h : k < ls.length) : keyLL (ls.take (k + 1)) = keyLL (ls.take k) ++ keyL ls[k] := by
 rw [List.take_succ_eq_append_getElem h, keyLL, List.flatMap_append]
 simp only [List.flatMap_cons, List.flatMap_nil, List.append_nil, keyLL]
theorem flat3_snoc {l : List Int} {k : Nat} (h : k < l.length) : (l.take (k + 1)).flatMap num3 = (l.take k).flatMap num3 ++ num3 l[k] := by
 rw [List.take_succ_eq_append_getElem h, List.flatMap_append]
 simp only [List.flatMap_cons, List.flatMap_nil, List.append_nil]
end Tm
set_option maxRecDepth 100000 in
set_option maxHeartbeats 4000000 in
theorem keyOf_any (v : Value) (ls : List (List Int)) (w : World) (hr : ListsRd w v ls) (hl : ls.length ≤ 100) (hlen : ∀ l ∈ ls, l.length ≤ 10000) (hsm : ∀ l ∈ ls, Tm.Small l) (hne : ls ≠ []) :
  Calls Tryz.prog 109 #[v] w fun e w' => ∃ s : ByteArray, s.data.toList = Tm.keyLL ls ∧ e = .returned (.string s) ∧ Below w.heap.size w w' := by
 obtain ⟨a, cap, rfl⟩ := hr.shape
 have HR := hide hr
 have HLEN := hide hlen
 have HSM := hide hsm
 obtain ⟨n, hn⟩ : ∃ n, ls.length = n := ⟨_, rfl⟩
 have HN := hide hn
 rw [hn] at hl HR
 rw [hn]
 have HKL : Hid (∀ k, (Tm.keyLL (ls.take k)).length ≤ 3000300) := fun k => by
  have h1 := Tm.keyLL_short (ls := ls.take k) (fun l hl => hlen l (List.mem_of_mem_take hl))
  have h2 : (ls.take k).length ≤ n := by rw [List.length_take, HN.out]; omega
  have h3 := Nat.mul_le_mul_left 30003 h2
  omega
 have HPOS : Hid (0 < (Tm.keyLL ls).length) := by
  cases ls with
  | nil => exact absurd rfl hne
  | cons x r => unfold Hid; simp only [Tm.keyLL, List.flatMap_cons, Tm.keyL, List.length_append, Tm.num3_length]; omega
 clear hr hlen hsm hn hne
 go_enter Tryz.func109, Tryz.ntmps109
 go_wp2_with fail
 go_loopw [3, 10] (fun vk i wr => ∃ k : Nat, k ≤ n ∧ i = .int .i64 k ∧ wr.ownsRow w.heap.size 5 1 vk (Tm.keyLL (ls.take k)).length (byteCells (Tm.keyLL (ls.take k))) ∧ Below w.heap.size w wr) (fun _ i _ => n - (intOf i).toNat)
 case atStart => exact ⟨0, Nat.zero_le _, rfl, World.ownsRow_nil _ _ _ _, Below.refl _ _⟩
 case round =>
  obtain ⟨k, hk, rfl, hown, hb⟩ := hrel
  have HO := hide hown
  have HB := hide hb
  have hz := hb.size
  clear hown hb
  by_cases hlt : k < n
  ·have hlt' : k < ls.length := by rw [HN.out]; exact hlt
   obtain ⟨g, off, x, rfl, hg, ck, hx⟩ := HR.out.at hlt'
   rw [← HB.out.cell (p := ⟨g, off + k, none⟩) hg] at ck
   have hxl := HLEN.out _ (List.getElem_mem hlt')
   have hxs := HSM.out _ (List.getElem_mem hlt')
   have HSN := hide (Tm.keyLL_snoc hlt')
   obtain ⟨l, hl'⟩ : ∃ l, ls[k] = l := ⟨_, rfl⟩
   rw [hl'] at hx hxl hxs HSN
   obtain ⟨ax, cx, rfl⟩ := hx.shape
   have HX := hide hx
   have HXS := hide hxs
   have hkl := HKL.out k
   obtain ⟨m, hm⟩ : ∃ m, l.length = m := ⟨_, rfl⟩
   have HM := hide hm
   rw [hm] at hxl ck HX
   obtain ⟨K, hK⟩ : ∃ K, Tm.keyLL (ls.take k) = K := ⟨_, rfl⟩
   rw [hK] at HO HSN hkl
   have i1 : (0 : Int) ≤ (k : Int) := by omega
   have i2 : (k : Int) < (n : Int) := by omega
   obtain ⟨wo, hwo⟩ : ∃ wo : World, wo = wr := ⟨_, rfl⟩
   rw [← hwo] at HO HB hz ck ⊢
   clear hx hxs hl' hm hK hwo
   go_wp2_with fail
   go_loopw [3, 16] (fun vk i wr => ∃ j : Nat, j ≤ m ∧ i = .int .i64 j ∧ wr.ownsRow w.heap.size 5 1 vk (K ++ (l.take j).flatMap Tm.num3).length (byteCells (K ++ (l.take j).flatMap Tm.num3)) ∧ Below w.heap.size wo wr) (fun _ i _ => m - (intOf i).toNat)
   case atStart => exact ⟨0, Nat.zero_le _, rfl, by simpa using HO.out, Below.refl _ _⟩
   case round =>
    obtain ⟨j, hj, rfl, hown2, hb2⟩ := hrel
    have HO2 := hide hown2
    have HB2 := hide hb2
    have hz2 := hb2.size
    clear hown2 hb2
    have HB2' : Hid (Below w.heap.size w wr) := HB.out.trans HB2.out
    have hfl : ((l.take j).flatMap Tm.num3).length ≤ 30000 := by rw [Tm.flat3_length, List.length_take, HM.out]; omega
    have hll : (K ++ (l.take j).flatMap Tm.num3).length ≤ 100000000 := by rw [List.length_append]; omega
    by_cases hjl : j < m
    ·have hjl' : j < l.length := by rw [HM.out]; exact hjl
     obtain ⟨gx, ox, rfl, hgx, cx'⟩ := Reads.at (by rw [HM.out]; exact HX.out.below HB2'.out HX.out.2.1) hjl'
     have hyr := HXS.out _ (List.getElem_mem hjl')
     have HFS := hide (Tm.flat3_snoc hjl')
     have i3 : (0 : Int) ≤ (j : Int) := by omega
     have i4 : (j : Int) < (m : Int) := by omega
     generalize l[j] = y at *
     go_wp2_with fail
     refine (appendNumber_any _ (K ++ (l.take j).flatMap Tm.num3) y w.heap.size _ HO2.out (by omega) hyr hll).mono ?_
     rintro e w3 ⟨v3, rfl, hown3, hb3⟩
     have HO3 : Hid (w3.ownsRow w.heap.size 5 1 v3 (K ++ (l.take (j + 1)).flatMap Tm.num3).length (byteCells (K ++ (l.take (j + 1)).flatMap Tm.num3))) := by
      unfold Hid; rw [HFS.out, ← List.append_assoc]; exact hown3
     have HB3 := hide (HB2.out.trans hb3)
     clear hown3 hb3
     go_wp2
     go_roundw
     case rel => exact ⟨j + 1, by omega, by go_num, HO3.out, HB3.out⟩
     case measure => simp [intOf]; omega
    ·have hfull : l.take j = l := List.take_of_length_le (by rw [HM.out]; omega)
     rw [hfull] at HO2 hll
     clear hfull
     go_wp2_with fail
     refine (appendNumber_any _ (K ++ l.flatMap Tm.num3) 0 w.heap.size _ HO2.out (by omega) ⟨by omega, by omega⟩ hll).mono ?_
     rintro e w3 ⟨v3, rfl, hown3, hb3⟩
     have HO3 : Hid (w3.ownsRow w.heap.size 5 1 v3 (Tm.keyLL (ls.take (k + 1))).length (byteCells (Tm.keyLL (ls.take (k + 1))))) := by
      unfold Hid; rw [HSN.out, Tm.keyL, ← List.append_assoc]; exact hown3
     have HB3 : Hid (Below w.heap.size w w3) := HB.out.trans (HB2.out.trans hb3)
     clear hown3 hb3
     go_wp2
     go_roundw
     case rel => exact ⟨k + 1, by omega, by go_num, HO3.out, HB3.out⟩
     case measure => simp [intOf]; omega
  ·have HE : Hid (Tm.keyLL (ls.take k) = Tm.keyLL ls) := by unfold Hid; rw [List.take_of_length_le (by rw [HN.out]; omega)]
   rw [HE.out] at HO
   obtain ⟨a2, c2, h2⟩ := (Reads.of_owns HO.out).shape
   subst h2
   obtain ⟨g2, o2, c3, he, hg2, hc2⟩ := (Reads.of_owns HO.out).form (by rw [byteCells_length]; exact HPOS.out)
   cases he
   have hconv := run_convert_bytes_back (P := Tryz.prog) wr 177 9 5 ⟨g2, o2, none⟩ c2 (Tm.keyLL ls) Tryz.underlying177 Tryz.underlying5 Tryz.underlying9 (fun j hj => by rw [addr_add]; exact hc2 j _ (by simp [byteCells, hj]))
   clear hc2
   go_wp2
   go_ret
   exact ⟨_, by simp, rfl, HB.out⟩
structure TableOk (st : Int) (lns : List Tm.Ln) : Prop where
 ends : ∀ r, Tm.ends lns 4 r = true
 heavy : Tm.Heavy lns
 st : 1 ≤ st ∧ st ≤ 4
theorem TableOk.of {s : List UInt8} {st : Int} {lns : List Tm.Ln} (h : Tm.newTable s st = (lns, 0, 0)) (he : ∀ r, Tm.ends lns 4 r = true) : TableOk st lns := ⟨he, (Tm.newTable_heavy h).1, (Tm.newTable_heavy h).2⟩
theorem stands_short {lns : List Tm.Ln} (hf : ∀ o ∈ lns, Tm.Fit o) {st : Int} {sh : Bool} {s : ByteArray} (hs : s.size ≤ 64) : ∀ l ∈ stands lns st sh (normOf lns s), l.length ≤ 10000 := by
 have h1 := norm_short' hf hs
 have h2 := Tm.elements_length hf (normOf lns s)
 intro l hl
 rcases List.mem_append.1 hl with hl | hl
 ·obtain ⟨k, _, rfl⟩ := List.mem_map.1 (List.mem_of_mem_take hl)
  have : (Tm.level sh (Tm.elements lns (normOf lns s)) k).length ≤ (Tm.elements lns (normOf lns s)).length := Tm.lev_length sh k _ _
  omega
 ·rw [List.mem_singleton.1 hl]; omega
theorem stands_length {lns : List Tm.Ln} {st : Int} {sh : Bool} {n : List Int} (h : 1 ≤ st ∧ st ≤ 4) : (stands lns st sh n).length ≤ 5 := by
 unfold stands; rw [List.length_append, levels_length h]; simp; omega
theorem stands_small {lns : List Tm.Ln} (hf : ∀ o ∈ lns, Tm.Fit o) {st : Int} {sh : Bool} {s : ByteArray} : ∀ l ∈ stands lns st sh (normOf lns s), Tm.Small l := by
 intro l hl
 rcases List.mem_append.1 hl with hl | hl
 ·exact (levels_weights hf (norm_range hf s) l hl).small
 ·rw [List.mem_singleton.1 hl]
  intro x hx
  have := norm_range hf s x hx
  omega
theorem stands_ne {lns : List Tm.Ln} {st : Int} {sh : Bool} {n : List Int} : stands lns st sh n ≠ [] := by simp [stands]
def cmpOf (lns : List Tm.Ln) (st : Int) (sh : Bool) (a b : ByteArray) : Int := Tm.cmpLL (stands lns st sh (normOf lns a)) (stands lns st sh (normOf lns b))
def keyBytes (lns : List Tm.Ln) (st : Int) (sh : Bool) (s : ByteArray) : List UInt8 := Tm.keyLL (stands lns st sh (normOf lns s))
set_option maxRecDepth 100000 in
set_option maxHeartbeats 2000000 in
theorem CodeKey_any (lns : List Tm.Ln) (bc bm : Nat) (st : Int) (sh : Bool) (s : ByteArray) (w : World) (hc : Coll w bc bm st sh lns) (hok : TableOk st lns) :
  Calls Tryz.prog 65 #[.pointer (some ⟨bc, 0, none⟩), .string s] w fun e w' => e = .returned (if s.size ≤ 64 then .tuple #[.string ⟨(keyBytes lns st sh s).toArray⟩, .int .i64 0] else .tuple #[.string ⟨#[]⟩, .int .i64 7]) ∧ Below w.heap.size w w' := by
 have HC := hide hc
 have HOK := hide hok
 have HF := hide hc.fit
 clear hc hok
 by_cases hs : s.size ≤ 64
 ·have hd : decide (64 < (s.size : Int)) = false := by simp <;> omega
  rw [if_pos hs]
  go_enter Tryz.func65, Tryz.ntmps65
  go_wp2_with fail
  refine (isLong_any s _).mono ?_
  rintro e w0 ⟨rfl, rfl⟩
  rw [hd]
  go_wp2_with fail
  refine (standing_any lns bc bm st sh s _ HC.out HOK.out.ends HOK.out.heavy HOK.out.st hs).mono ?_
  rintro e w1 ⟨v1, rfl, hr1, hb1⟩
  have HR1 := hide hr1
  have HB1 := hide hb1
  have hz1 := hb1.size
  clear hr1 hb1
  go_wp2_with fail
  refine (keyOf_any _ _ _ HR1.out (by have := stands_length (lns := lns) (sh := sh) (n := normOf lns s) HOK.out.st; omega) (stands_short HF.out hs) (stands_small HF.out) stands_ne).mono ?_
  rintro e w2 ⟨k, hk, rfl, hb2⟩
  have HK : Hid (k = ⟨(keyBytes lns st sh s).toArray⟩) := by
   unfold Hid keyBytes
   rw [← hk]
  have HB2 := hide (HB1.out.trans (hb2.mono hz1))
  clear hk hb2
  go_wp2
  go_ret2
  exact ⟨by rw [HK.out]; rfl, HB2.out⟩
 ·have hd : decide (64 < (s.size : Int)) = true := by simp <;> omega
  rw [if_neg hs]
  go_enter Tryz.func65, Tryz.ntmps65
  go_wp2_with fail
  refine (isLong_any s _).mono ?_
  rintro e w0 ⟨rfl, rfl⟩
  rw [hd]
  go_wp2
  go_ret2
  exact ⟨rfl, Below.refl _ _⟩
end Go.Proofs.YtmnjjjhmnhfapaaGreatDoor
