import Derived.Test.YtmnjjjhmnhfapaaGreatDoorMCodeLevs2
import Derived.Test.YtmnjjjhmnhfapaaGreatDoorMCodeNorm
import Derived.Test.YtmnjjjhmnhfapaaGreatDoorMCodeNew
namespace Go.Proofs.YtmnjjjhmnhfapaaGreatDoor
open Go.RowKit

theorem norm_short' {lns : List Tm.Ln} (hf : ∀ o ∈ lns, Tm.Fit o) {s : ByteArray} (hs : s.size ≤ 64) : (normOf lns s).length ≤ 1024 := by
  have h1 := Tm.flat_short (lns := lns) (fun q => parts_few hf q) 4 (runesOf s)
  have h2 := runesFrom_short (s := s) (f := s.size) (pos := 0)
  have h3 : (runesOf s).length ≤ 64 := by unfold runesOf; omega
  have h4 := Nat.mul_le_mul_right (2 ^ 4) h3
  rw [normOf, Tm.ord_length]
  omega
theorem norm_range {lns : List Tm.Ln} (hf : ∀ o ∈ lns, Tm.Fit o) (s : ByteArray) : ∀ r ∈ normOf lns s, 0 ≤ r ∧ r ≤ 1114111 := by
  intro r hr
  have := Tm.ord_mem hr
  obtain ⟨y, hy, hx⟩ := List.mem_flatMap.1 this
  exact expand_range hf 4 y (runesFrom_range y hy) r hx
theorem norm_calm (lns : List Tm.Ln) (s : ByteArray) : Tm.Calm (Tm.classOf lns) (normOf lns s) := Tm.ord_is_calm _

/-- A slice of slices of numbers reads as lists. -/
def ListsRd (w : World) (v : Value) (ls : List (List Int)) : Prop :=
  ∃ vs : List Value, vs.length = ls.length ∧ Reads w v 1 ls.length vs ∧ ∀ (k : Nat) (x : Value) (l : List Int), vs[k]? = some x → ls[k]? = some l → Reads w x 1 l.length (ints l)
theorem ListsRd.below {w w' : World} {v : Value} {ls : List (List Int)} (h : ListsRd w v ls) (hb : Below w.heap.size w w') : ListsRd w' v ls := by
  obtain ⟨vs, h1, h2, h3⟩ := h
  exact ⟨vs, h1, h2.below hb h2.2.1, fun k x l hx hl => (h3 k x l hx hl).below hb (h3 k x l hx hl).2.1⟩

set_option maxRecDepth 100000 in
set_option maxHeartbeats 1000000 in
theorem Clone_rows (v : Value) (xs : List Value) (w : World) (hr : Reads w v 1 xs.length xs) (h1 : ∀ u ∈ xs, u.oneCell' = true) (hl : xs.length ≤ 1000000) :
    Calls Tryz.prog 134 #[v] w fun e w' => ∃ v', e = .returned v' ∧ w'.ownsRow w.heap.size 83 1 v' xs.length xs ∧ Below w.heap.size w w' := by
  obtain ⟨i1, ki, kz0, kz1, kz2⟩ := info_parts (show (Tryz.prog.info? 83).map (fun i => (i.zero, i.size, i.bytes)) = some (some (.slice none 0 0), 1, 24) by kernel_rfl)
  have hnil := fun (w : World) (a : Option Addr) (n c : Nat) => Lib.run_eql_slice_nil (P := Tryz.prog) w 35 83 a n c 0 0 Tryz.underlying35
  have hr' := hr
  obtain ⟨hlen, hlt, a, cap, rfl, hcap, hc⟩ := hr'
  cases a with
  | none =>
    have h0 : xs = [] := by
      cases xs with
      | nil => rfl
      | cons x r =>
        obtain ⟨g, off, he, _⟩ := hc 0 x (by simp)
        cases he
    subst h0
    clear hr hc hlt h1 hlen
    go_enter Tryz.func134, Tryz.ntmps134
    go_wp2
    go_ret
    exact ⟨_, rfl, World.ownsRow_nil _ _ _ _, Below.refl _ _⟩
  | some ad =>
    obtain ⟨g, off, sp⟩ := ad
    have HC : Hid (∀ j u, xs[j]? = some u → (w.alloc (.cells #[] 83)).cell? ((⟨g, off, sp⟩ : Addr).add j) = some u) := fun j u hu => by
      obtain ⟨g', off', he, hcell⟩ := hc j u hu
      cases he
      rw [addr_add]
      rw [cell_old (hlt _ rfl)]
      exact hcell
    have HO : Hid ((w.alloc (.cells #[] 83)).ownsRow w.heap.size 83 1 (.slice (some ⟨w.heap.size, 0, none⟩) 0 0) 0 []) := World.ownsRow_made w #[] 0 (Nat.le_refl _) (Nat.zero_le _) rfl
    have H1 := hide h1
    clear hr hc hlt h1 hlen
    go_enter Tryz.func134, Tryz.ntmps134
    go_wp2_with (at_builtin; go_must (refine wpList_append_keep rfl _ _ 35 rfl w.heap.size 83 i1 (.slice none 0 0) 24 Tryz.underlying35 ki kz0 kz1 kz2 rfl _ _ _ rfl HO.out ⟨g, off, sp⟩ xs.length cap xs rfl (Nat.mul_one _).symm HC.out H1.out (by unfold maxLen; omega) (by omega) (by simp) ?_))
    intro v' w' hown hgr _ _
    have HO' := hide hown
    have HB : Hid (Below w.heap.size w w') := ((Below.refl _ _).alloc (Nat.le_refl _) _).grown hgr (by simp) (fun k hk => by simp [Value.ownBlock] at hk; omega)
    obtain ⟨a', cap', rfl⟩ := (Reads.of_owns hown).shape
    clear hown hgr
    go_wp2
    go_ret
    refine ⟨_, rfl, ?_, HB.out⟩
    have := HO'.out
    simpa using this
end Go.Proofs.YtmnjjjhmnhfapaaGreatDoor
namespace Go.Proofs.YtmnjjjhmnhfapaaGreatDoor
open Go.RowKit

theorem lev_in (lns : List Tm.Ln) (st : Int) (sh : Bool) (n : List Int) {k : Nat} (hk : k < st.toNat) (h4 : k < 4) : (levels lns st sh n)[k]? = some (Tm.level sh (Tm.elements lns n) k) := by
  unfold levels
  rw [List.getElem?_take, if_pos hk]
  rcases (show k = 0 ∨ k = 1 ∨ k = 2 ∨ k = 3 by omega) with rfl | rfl | rfl | rfl <;> rfl

/-- The lists, out of four values, the first ones of which were cloned, and the normal form behind them. -/
theorem lists_of {w : World} {v : Value} {B : Nat} {vs : Nat → Value} {vn : Value} {lns : List Tm.Ln} {st : Int} {sh : Bool} {n : List Int} {t : Nat} (ht : st.toNat = t) (h4 : t ≤ 4)
    (hown : Reads w v 1 (t + 1) (((List.range t).map vs) ++ [vn])) (hl : Lev4 w B vs (fun k => Tm.level sh (Tm.elements lns n) k)) (hn : Reads w vn 1 n.length (ints n)) : ListsRd w v (stands lns st sh n) := by
  have hll : (levels lns st sh n).length = t := by unfold levels; rw [List.length_take, ht]; simp; omega
  have hlen : (stands lns st sh n).length = t + 1 := by unfold stands; rw [List.length_append, hll]; rfl
  have hvl : ((List.range t).map vs).length = t := by simp
  refine ⟨((List.range t).map vs) ++ [vn], by rw [hlen, List.length_append, hvl]; rfl, by rw [hlen]; exact hown, fun k x l hx hl' => ?_⟩
  unfold stands at hl'
  by_cases hk : k < t
  · rw [List.getElem?_append_left (by rw [hvl]; exact hk), List.getElem?_map, List.getElem?_range hk] at hx
    rw [List.getElem?_append_left (by rw [hll]; exact hk), lev_in lns st sh n (by omega) (by omega)] at hl'
    have e1 : vs k = x := by simpa using hx
    have e2 : Tm.level sh (Tm.elements lns n) k = l := by simpa using hl'
    subst e1 e2
    exact Reads.of_owns (hl k (by omega))
  · have hkl := (List.getElem?_eq_some_iff.1 hx).1
    rw [List.length_append, hvl] at hkl
    have hkt : k = t := by simp at hkl; omega
    subst hkt
    rw [List.getElem?_append_right (by rw [hvl]; exact Nat.le_refl _), hvl] at hx
    rw [List.getElem?_append_right (by omega), hll] at hl'
    have e1 : vn = x := by simpa using hx
    have e2 : n = l := by simpa using hl'
    subst e1 e2
    exact hn
theorem range_vs (vs : Nat → Value) {t : Nat} (h : t ≤ 4) : (List.range t).map vs = [vs 0, vs 1, vs 2, vs 3].take t := by
  rcases (show t = 0 ∨ t = 1 ∨ t = 2 ∨ t = 3 ∨ t = 4 by omega) with rfl | rfl | rfl | rfl | rfl <;> rfl

theorem reads_four {w : World} {bl t : Nat} {vs : Nat → Value} (h4 : t ≤ 4) (hlt : bl < w.heap.size) (c : ∀ k, k < 4 → w.cell? ⟨bl, k, none⟩ = some (vs k)) : Reads w (.slice (some ⟨bl, 0, none⟩) t 4) 1 ((List.range t).map vs).length ((List.range t).map vs) := by
  refine ⟨by simp, fun g hg => by simp [Value.ownBlock] at hg; subst hg; exact hlt, some ⟨bl, 0, none⟩, 4, by simp, ⟨by simpa using h4, by unfold maxLen; omega⟩, fun j u hu => ⟨bl, 0, rfl, ?_⟩⟩
  have hj := (List.getElem?_eq_some_iff.1 hu).1
  simp at hj
  rw [List.getElem?_map, List.getElem?_range hj] at hu
  have e : vs j = u := by simpa using hu
  subst e
  rw [Nat.zero_add]
  exact c j (by omega)

set_option maxRecDepth 100000 in
set_option maxHeartbeats 4000000 in
theorem standing_any (lns : List Tm.Ln) (bc bm : Nat) (st : Int) (sh : Bool) (s : ByteArray) (w : World) (hc : Coll w bc bm st sh lns) (hends : ∀ r, Tm.ends lns 4 r = true) (hh : Tm.Heavy lns) (hst : 1 ≤ st ∧ st ≤ 4) (hs : s.size ≤ 64) :
    Calls Tryz.prog 92 #[.pointer (some ⟨bc, 0, none⟩), .string s] w fun e w' => ∃ v, e = .returned v ∧ ListsRd w' v (stands lns st sh (normOf lns s)) ∧ Below w.heap.size w w' := by
  obtain ⟨i1, ki, kz0, kz1, kz2⟩ := info_parts (show (Tryz.prog.info? 83).map (fun i => (i.zero, i.size, i.bytes)) = some (some (.slice none 0 0), 1, 24) by kernel_rfl)
  have hsl : ∀ (t b : Nat) (w : World), t ≤ 4 → (Instr.sliceAt 213 (.pointer (some ⟨b, 0, none⟩)) none (some (.int .i64 t)) none).run Tryz.prog w = .ok (.slice (some ⟨b, 0, none⟩) t 4) w := by
    intro t b w h
    rcases (show t = 0 ∨ t = 1 ∨ t = 2 ∨ t = 3 ∨ t = 4 by omega) with rfl | rfl | rfl | rfl | rfl <;> kernel_rfl
  have HC := hide hc
  have HENDS := hide hends
  have HH := hide hh
  have hlt := hc.lt
  have c0 := hc.c0
  have hfew := hc.few
  have hnl := norm_short' hc.fit hs
  have hel := Tm.elements_length hc.fit (normOf lns s)
  obtain ⟨t, ht⟩ : ∃ t : Nat, st.toNat = t := ⟨_, rfl⟩
  have ht4 : t ≤ 4 := by omega
  have ht0 : 1 ≤ t := by omega
  have hstt : st = (t : Int) := by omega
  have HT := hide ht
  have hsl := fun b w => hsl t b w ht4
  clear hc hends hh ht
  subst hstt
  clear hst
  obtain ⟨N, hN⟩ : ∃ N, normOf lns s = N := ⟨_, rfl⟩
  have HNN := hide hN
  rw [hN] at hnl hel
  rw [hN]
  obtain ⟨E, hE⟩ : ∃ E, Tm.elements lns N = E := ⟨_, rfl⟩
  have HE := hide hE
  rw [hE] at hel
  clear hN hE
  go_enter Tryz.func92, Tryz.ntmps92
  go_wp2_with fail
  refine (normalForm_any lns HC.out.fit HENDS.out bm s _ hs HC.out.rd).mono ?_
  rintro e w1 ⟨v1, rfl, hown1, hb1⟩
  rw [HNN.out] at hown1
  have HR1 := hide (Reads.of_owns hown1)
  obtain ⟨an, cn, rfl⟩ := (Reads.of_owns hown1).shape
  have HB1 := hide hb1
  have hz1 := hb1.size
  have HC1 := hide (HC.out.below hb1)
  have c01 := HC1.out.c0
  clear hown1 hb1 c0
  go_wp2_with fail
  refine (elements_any lns bm _ N _ HC1.out.rd HR1.out (by rw [← HNN.out]; exact norm_calm lns s) (by rw [← HNN.out]; exact norm_range HC.out.fit s) (by omega) hfew HC.out.fit).mono ?_
  rintro e w2 ⟨v2, rfl, hown2, hb2⟩
  rw [HE.out] at hown2
  have HR2 := hide (Reads.of_owns hown2)
  obtain ⟨ae, ce, rfl⟩ := (Reads.of_owns hown2).shape
  have HB2 : Hid (Below w.heap.size w w2) := HB1.out.trans (hb2.mono hz1)
  have hz2 := hb2.size
  have HRN2 := hide (HR1.out.below hb2 HR1.out.2.1)
  have HC2 := hide (HC1.out.below hb2)
  clear hown2 hb2 c01
  go_wp2_with fail
  refine (levelsOf_any _ E _ HR2.out (by omega)).mono ?_
  rintro e w3 ⟨vs, rfl, hl3, hb3⟩
  have HL3 := hide hl3
  have HB3 : Hid (Below w.heap.size w w3) := HB2.out.trans (hb3.mono (by omega))
  have hz3 := hb3.size
  have HRN3 := hide (HRN2.out.below hb3 HRN2.out.2.1)
  have HR3 := hide (HR2.out.below hb3 HR2.out.2.1)
  have HC3 := hide (HC2.out.below hb3)
  have hshape : ∀ j, j < 4 → ∃ aj cj, vs j = .slice aj (Tm.level false E j).length cj := fun j hj => (Reads.of_owns (hl3 j hj)).shape
  obtain ⟨a0, k0, h0⟩ := hshape 0 (by omega)
  obtain ⟨a1, k1, h1⟩ := hshape 1 (by omega)
  obtain ⟨a2, k2, h2⟩ := hshape 2 (by omega)
  obtain ⟨a3, k3, h3⟩ := hshape 3 (by omega)
  have HV := hide (And.intro h0 (And.intro h1 (And.intro h2 h3)))
  rw [h0, h1, h2, h3]
  clear hshape hl3 hb3
  have hbx : Below w3.heap.size w3 (w3.alloc (.cells #[.slice a0 (Tm.level false E 0).length k0, .slice a1 (Tm.level false E 1).length k1, .slice a2 (Tm.level false E 2).length k2, .slice a3 (Tm.level false E 3).length k3] 213)) := (Below.refl _ _).alloc (Nat.le_refl _) _
  have HBX := hide hbx
  have hltx : bc < w3.heap.size := by omega
  have d2 := HC3.out.c2
  have d1 := HC3.out.c1
  clear hbx h0 h1 h2 h3
  obtain ⟨W5, hW5⟩ : ∃ W5, w3.alloc (.cells #[.slice a0 (Tm.level false E 0).length k0, .slice a1 (Tm.level false E 1).length k1, .slice a2 (Tm.level false E 2).length k2, .slice a3 (Tm.level false E 3).length k3] 213) = W5 := ⟨_, rfl⟩
  rw [hW5] at HBX
  have hz5 : W5.heap.size = w3.heap.size + 1 := by rw [← hW5]; simp
  have q0 : W5.cell? ⟨w3.heap.size, 0, none⟩ = some (.slice a0 (Tm.level false E 0).length k0) := by rw [← hW5, cell_new rfl]; rfl
  have q1 : W5.cell? ⟨w3.heap.size, 1, none⟩ = some (.slice a1 (Tm.level false E 1).length k1) := by rw [← hW5, cell_new rfl]; rfl
  have q2 : W5.cell? ⟨w3.heap.size, 2, none⟩ = some (.slice a2 (Tm.level false E 2).length k2) := by rw [← hW5, cell_new rfl]; rfl
  have q3 : W5.cell? ⟨w3.heap.size, 3, none⟩ = some (.slice a3 (Tm.level false E 3).length k3) := by rw [← hW5, cell_new rfl]; rfl
  have qf : ∀ o, W5.frozen? ⟨w3.heap.size, o, none⟩ = false := fun o => by rw [← hW5, frozen_new rfl]
  have HC5 := hide (HC3.out.below HBX.out)
  have d25 := HC5.out.c2
  have d15 := HC5.out.c1
  clear d1 d2
  cases sh
  · have HRD : Hid (Reads W5 (.slice (some ⟨w3.heap.size, 0, none⟩) t 4) 1 ((List.range t).map vs).length ((List.range t).map vs)) := reads_four ht4 (by omega) (four_cases (by rw [HV.out.1]; exact q0) (by rw [HV.out.2.1]; exact q1) (by rw [HV.out.2.2.1]; exact q2) (by rw [HV.out.2.2.2]; exact q3))
    have HL5 := hide (HL3.out.below HBX.out)
    have HRN5 := hide (HRN3.out.below HBX.out HRN3.out.2.1)
    have HB5 : Hid (Below w.heap.size w W5) := HB3.out.trans (HBX.out.mono (by omega))
    clear q0 q1 q2 q3 qf
    have hone : ∀ u ∈ (List.range t).map vs, u.oneCell' = true := by
      intro u hu
      obtain ⟨j, hj, rfl⟩ := List.mem_map.1 hu
      have hj' := List.mem_range.1 hj
      obtain ⟨aj, cj, h⟩ := (Reads.of_owns (HL5.out j (by omega))).shape
      rw [h]; rfl
    have HONE := hide hone
    clear hone
    go_wp2_with fail
    refine (Clone_rows _ ((List.range t).map vs) _ HRD.out HONE.out (by simp; omega)).mono ?_
    rintro e w6 ⟨v6, rfl, hown6, hb6⟩
    have hz6 := hb6.size
    have HL6 := hide (HL5.out.below hb6)
    have HRN6 := hide (HRN5.out.below hb6 HRN5.out.2.1)
    have HB6 : Hid (Below w.heap.size w w6) := HB5.out.trans (hb6.mono (by omega))
    have hlr : ((List.range t).map vs).length = t := by simp
    rw [hlr] at hown6
    obtain ⟨a6, c6, rfl⟩ := (Reads.of_owns hown6).shape
    have HOF := hide hown6
    have HO6 := hide (owns_mono (base' := w.heap.size) hown6 (by omega))
    clear hown6 hb6 hlr
    go_wp2_with (at_builtin; go_must (refine wpList_append_own_at _ rfl _ _ 35 rfl w.heap.size 83 i1 (.slice none 0 0) 1 24 Tryz.underlying35 ki kz0 kz1 kz2 rfl (by decide) _ _ _ rfl (HO6.out.alloc _) ⟨w6.heap.size, 0, none⟩ 1 1 [.slice an N.length cn] rfl rfl news_one (by intro u hu; simp at hu; subst hu; rfl) (by unfold maxLen; omega) (by omega) (by simp; omega) ?_))
    intro v7 w7 hown7 hgr7 _ hat7
    have hz7 := hgr7.size
    have hb7 : ∀ g, g < W5.heap.size → w7.heap[g]? = w6.heap[g]? := fun g hg => (hgr7.block g (by simp; omega) (fun h => by have := (HOF.out.lt g h.symm).1; omega)).trans (heap_alloc_old w6 _ (by omega))
    have hz76 : w6.heap.size ≤ w7.heap.size := by simp at hz7; omega
    have HANS : Hid (ListsRd w7 v7 (stands lns (t : Int) false N)) := by
      refine lists_of (B := w2.heap.size) (vs := vs) (vn := .slice an N.length cn) HT.out ht4 (Reads.of_owns hown7) ?_ ?_
      · intro j hj
        have h := HL6.out j hj
        rw [HE.out]
        exact ownsRow_same h (fun g hg => hb7 g ((HL5.out j hj).lt g hg).2)
      · exact HRN6.out.of_blocks hz76 (fun g hg => hb7 g (HRN5.out.2.1 g hg))
    have HBF : Hid (Below w.heap.size w w7) := (HB6.out.alloc (by omega) _).grown hgr7 (by simp; omega) (fun j hj => (HO6.out.lt j hj).1)
    obtain ⟨a7, c7, rfl⟩ := (Reads.of_owns hown7).shape
    clear hown7 hgr7 hat7 hb7
    go_wp2
    go_ret
    exact ⟨_, rfl, HANS.out, HBF.out⟩
  · have HR5 := hide (HR3.out.below HBX.out HR3.out.2.1)
    go_wp2_with fail
    refine (shiftedLevelsOf_any _ E _ HR5.out (by omega) (by rw [← HE.out]; exact Tm.elements_var HH.out N)).mono ?_
    rintro e w8 ⟨us, rfl, hl8, hb8⟩
    have hz8 := hb8.size
    have p0 : w8.cell? ⟨w3.heap.size, 0, none⟩ = some (.slice a0 (Tm.level false E 0).length k0) := by rw [hb8.cell (p := ⟨w3.heap.size, 0, none⟩) (by simp only; omega)]; exact q0
    have p1 : w8.cell? ⟨w3.heap.size, 1, none⟩ = some (.slice a1 (Tm.level false E 1).length k1) := by rw [hb8.cell (p := ⟨w3.heap.size, 1, none⟩) (by simp only; omega)]; exact q1
    have p2 : w8.cell? ⟨w3.heap.size, 2, none⟩ = some (.slice a2 (Tm.level false E 2).length k2) := by rw [hb8.cell (p := ⟨w3.heap.size, 2, none⟩) (by simp only; omega)]; exact q2
    have p3 : w8.cell? ⟨w3.heap.size, 3, none⟩ = some (.slice a3 (Tm.level false E 3).length k3) := by rw [hb8.cell (p := ⟨w3.heap.size, 3, none⟩) (by simp only; omega)]; exact q3
    have pf : ∀ o, w8.frozen? ⟨w3.heap.size, o, none⟩ = false := fun o => by rw [hb8.frozen (p := ⟨w3.heap.size, o, none⟩) (by simp only; omega)]; exact qf o
    have pf0 := pf 0
    have pf1 := pf 1
    have pf2 := pf 2
    have pf3 := pf 3
    have hshape : ∀ j, j < 4 → ∃ aj cj, us j = .slice aj (Tm.level true E j).length cj := fun j hj => (Reads.of_owns (hl8 j hj)).shape
    obtain ⟨b0, m0, g0⟩ := hshape 0 (by omega)
    obtain ⟨b1, m1, g1⟩ := hshape 1 (by omega)
    obtain ⟨b2, m2, g2⟩ := hshape 2 (by omega)
    obtain ⟨b3, m3, g3⟩ := hshape 3 (by omega)
    have hC8 := HC5.out.below hb8
    have hRN8 := (HRN3.out.below HBX.out HRN3.out.2.1).below hb8 (HRN3.out.below HBX.out HRN3.out.2.1).2.1
    have hB8 : Below w.heap.size w w8 := (HB3.out.trans (HBX.out.mono (by omega))).trans (hb8.mono (by omega))
    obtain ⟨W9, hW9⟩ : ∃ W9, put4c w8 w3.heap.size (.slice b0 (Tm.level true E 0).length m0) (.slice b1 (Tm.level true E 1).length m1) (.slice b2 (Tm.level true E 2).length m2) (.slice b3 (Tm.level true E 3).length m3) = W9 := ⟨_, rfl⟩
    have hz9 : W9.heap.size = w8.heap.size := by rw [← hW9, put4c_size]
    have hoth : ∀ g, g ≠ w3.heap.size → W9.heap[g]? = w8.heap[g]? := fun g hg => by rw [← hW9]; exact put4c_other hg
    have z := put4c_cell (v0 := .slice b0 (Tm.level true E 0).length m0) (v1 := .slice b1 (Tm.level true E 1).length m1) (v2 := .slice b2 (Tm.level true E 2).length m2) (v3 := .slice b3 (Tm.level true E 3).length m3) p0 p1 p2 p3
    rw [hW9] at z
    have HRD : Hid (Reads W9 (.slice (some ⟨w3.heap.size, 0, none⟩) t 4) 1 ((List.range t).map us).length ((List.range t).map us)) := reads_four ht4 (by omega) (four_cases (by rw [g0]; exact z.1) (by rw [g1]; exact z.2.1) (by rw [g2]; exact z.2.2.1) (by rw [g3]; exact z.2.2.2))
    have HL9 : Hid (Lev4 W9 W5.heap.size us (fun k => Tm.level true E k)) := fun j hj => ownsRow_same (hl8 j hj) (fun g hg => hoth g (by have := ((hl8 j hj).lt g hg).1; omega))
    have HRN9 : Hid (Reads W9 (.slice an N.length cn) 1 N.length (ints N)) := hRN8.of_blocks (by omega) (fun g hg => hoth g (by have := HRN3.out.2.1 g hg; omega))
    have HB9 : Hid (Below w.heap.size w W9) := by unfold Hid; rw [← hW9]; exact put4c_below hB8 (by omega)
    have d19 : W9.cell? ⟨bc, 1, none⟩ = some (.int .i64 (t : Int)) := by rw [World.cell?_of_block (w := w8) (hoth bc (by omega))]; exact hC8.c1
    rw [g0, g1, g2, g3]
    unfold put4c at hW9
    have HW9 := hide hW9
    clear hl8 hb8 z hoth hC8 hRN8 hB8 hW9 hshape q0 q1 q2 q3 qf pf g0 g1 g2 g3 d15 d25
    go_upto_region 6 with fail
    rw [HW9.out]
    clear p0 p1 p2 p3 pf0 pf1 pf2 pf3
    have hone : ∀ u ∈ (List.range t).map us, u.oneCell' = true := by
      intro u hu
      obtain ⟨j, hj, rfl⟩ := List.mem_map.1 hu
      have hj' := List.mem_range.1 hj
      obtain ⟨aj, cj, h⟩ := (Reads.of_owns (HL9.out j (by omega))).shape
      rw [h]; rfl
    have HONE := hide hone
    clear hone
    go_wp2_with fail
    refine (Clone_rows _ ((List.range t).map us) _ HRD.out HONE.out (by simp; omega)).mono ?_
    rintro e w6 ⟨v6, rfl, hown6, hb6⟩
    have hz6 := hb6.size
    have HL6 := hide (HL9.out.below hb6)
    have HRN6 := hide (HRN9.out.below hb6 HRN9.out.2.1)
    have HB6 : Hid (Below w.heap.size w w6) := HB9.out.trans (hb6.mono (by omega))
    have hlr : ((List.range t).map us).length = t := by simp
    rw [hlr] at hown6
    obtain ⟨a6, c6, rfl⟩ := (Reads.of_owns hown6).shape
    have HOF := hide hown6
    have HO6 := hide (owns_mono (base' := w.heap.size) hown6 (by omega))
    clear hown6 hb6 hlr
    go_wp2_with (at_builtin; go_must (refine wpList_append_own_at _ rfl _ _ 35 rfl w.heap.size 83 i1 (.slice none 0 0) 1 24 Tryz.underlying35 ki kz0 kz1 kz2 rfl (by decide) _ _ _ rfl (HO6.out.alloc _) ⟨w6.heap.size, 0, none⟩ 1 1 [.slice an N.length cn] rfl rfl news_one (by intro u hu; simp at hu; subst hu; rfl) (by unfold maxLen; omega) (by omega) (by simp; omega) ?_))
    intro v7 w7 hown7 hgr7 _ hat7
    have hz7 := hgr7.size
    have hb7 : ∀ g, g < W9.heap.size → w7.heap[g]? = w6.heap[g]? := fun g hg => (hgr7.block g (by simp; omega) (fun h => by have := (HOF.out.lt g h.symm).1; omega)).trans (heap_alloc_old w6 _ (by omega))
    have hz76 : w6.heap.size ≤ w7.heap.size := by simp at hz7; omega
    have HANS : Hid (ListsRd w7 v7 (stands lns (t : Int) true N)) := by
      refine lists_of (B := W5.heap.size) (vs := us) (vn := .slice an N.length cn) HT.out ht4 (Reads.of_owns hown7) ?_ ?_
      · intro j hj
        have h := HL6.out j hj
        rw [HE.out]
        exact ownsRow_same h (fun g hg => hb7 g ((HL9.out j hj).lt g hg).2)
      · exact HRN6.out.of_blocks hz76 (fun g hg => hb7 g (HRN9.out.2.1 g hg))
    have HBF : Hid (Below w.heap.size w w7) := (HB6.out.alloc (by omega) _).grown hgr7 (by simp; omega) (fun j hj => (HO6.out.lt j hj).1)
    obtain ⟨a7, c7, rfl⟩ := (Reads.of_owns hown7).shape
    clear hown7 hgr7 hat7 hb7
    go_wp2
    go_ret
    exact ⟨_, rfl, HANS.out, HBF.out⟩
end Go.Proofs.YtmnjjjhmnhfapaaGreatDoor
