import Derived.Test.YtmnjjjhmnhfapaaDoorMTexts
import Derived.Test.YtmnjjjhmnhfapaaDoorMKeepWays
namespace Go.Proofs.YtmnjjjhmnhfapaaDoor
open Go.RowKit

def canons : List (List Int) := [[97], [98], [45], [97, 769], [97, 803], [97, 769, 803], [99, 104], [99, 769, 803], [100], [65], [65533]]
/-- Where the ways lie. -/
def WaysAt (lns : List Tm.Ln) (w : World) (b : Nat) : Prop :=
  ∀ k, k < 11 → ∃ g n, 0 < n ∧ n ≤ 5 ∧ g < w.heap.size ∧ w.cell? ⟨b, k, none⟩ = some (.slice (some ⟨g, 0, none⟩) n n) ∧ ∀ j, j < n → ∃ s : ByteArray, w.cell? ⟨g, j, none⟩ = some (.string s) ∧ Way lns (canons.getD k []) s.data.toList
def waysWorld (w : World) : World := (((((((((((w.alloc (.cells #[.string ⟨#[97]⟩] 9)).alloc (.cells #[.string ⟨#[98]⟩] 9)).alloc (.cells #[.string ⟨#[45]⟩] 9)).alloc (.cells #[.string ⟨#[195, 161]⟩, .string ⟨#[97, 204, 129]⟩] 9)).alloc (.cells #[.string ⟨#[225, 186, 161]⟩, .string ⟨#[97, 204, 163]⟩] 9)).alloc (.cells #[.string ⟨#[195, 162]⟩, .string ⟨#[97, 204, 129, 204, 163]⟩, .string ⟨#[97, 204, 163, 204, 129]⟩, .string ⟨#[195, 161, 204, 163]⟩, .string ⟨#[225, 186, 161, 204, 129]⟩] 9)).alloc (.cells #[.string ⟨#[99, 104]⟩] 9)).alloc (.cells #[.string ⟨#[99, 204, 129, 204, 163]⟩, .string ⟨#[99, 204, 163, 204, 129]⟩] 9)).alloc (.cells #[.string ⟨#[100]⟩] 9)).alloc (.cells #[.string ⟨#[65]⟩] 9)).alloc (.cells #[.string ⟨#[255]⟩, .string ⟨#[239, 191, 189]⟩] 9)).alloc (.cells #[.slice (some ⟨w.heap.size, 0, none⟩) 1 1, .slice (some ⟨w.heap.size + 1, 0, none⟩) 1 1, .slice (some ⟨w.heap.size + 1 + 1, 0, none⟩) 1 1, .slice (some ⟨w.heap.size + 1 + 1 + 1, 0, none⟩) 2 2, .slice (some ⟨w.heap.size + 1 + 1 + 1 + 1, 0, none⟩) 2 2, .slice (some ⟨w.heap.size + 1 + 1 + 1 + 1 + 1, 0, none⟩) 5 5, .slice (some ⟨w.heap.size + 1 + 1 + 1 + 1 + 1 + 1, 0, none⟩) 1 1, .slice (some ⟨w.heap.size + 1 + 1 + 1 + 1 + 1 + 1 + 1, 0, none⟩) 2 2, .slice (some ⟨w.heap.size + 1 + 1 + 1 + 1 + 1 + 1 + 1 + 1, 0, none⟩) 1 1, .slice (some ⟨w.heap.size + 1 + 1 + 1 + 1 + 1 + 1 + 1 + 1 + 1, 0, none⟩) 1 1, .slice (some ⟨w.heap.size + 1 + 1 + 1 + 1 + 1 + 1 + 1 + 1 + 1 + 1, 0, none⟩) 2 2] 32)
theorem waysWorld_size (w : World) : (waysWorld w).heap.size = w.heap.size + 12 := by simp [waysWorld]
theorem waysWorld_below (w : World) : Below w.heap.size w (waysWorld w) := by
  unfold waysWorld
  exact (((((((((((((Below.refl _ _).alloc (Nat.le_refl _) _).alloc (by simp <;> omega) _).alloc (by simp <;> omega) _).alloc (by simp <;> omega) _).alloc (by simp <;> omega) _).alloc (by simp <;> omega) _).alloc (by simp <;> omega) _).alloc (by simp <;> omega) _).alloc (by simp <;> omega) _).alloc (by simp <;> omega) _).alloc (by simp <;> omega) _).alloc (by simp <;> omega) _)
theorem waysWorld_at {lns : List Tm.Ln} (h : Tm.Ways lns) (w : World) : WaysAt lns (waysWorld w) (w.heap.size + 11) := by
  intro k hk
  have hz := waysWorld_size w
  have hk' : k = 0 ∨ k = 1 ∨ k = 2 ∨ k = 3 ∨ k = 4 ∨ k = 5 ∨ k = 6 ∨ k = 7 ∨ k = 8 ∨ k = 9 ∨ k = 10 := by omega
  rcases hk' with rfl | rfl | rfl | rfl | rfl | rfl | rfl | rfl | rfl | rfl | rfl
  · refine ⟨w.heap.size + 0, 1, by omega, by omega, by omega, by unfold waysWorld; rw [cell_new (by simp)]; rfl, fun j hj => ?_⟩
    have hj' : j = 0 := by omega
    unfold waysWorld
    iterate 11 rw [cell_old (by simp <;> omega)]
    rw [cell_new (by simp)]
    rcases hj' with rfl
    · exact ⟨_, rfl, way_0_0 h⟩
  · refine ⟨w.heap.size + 1, 1, by omega, by omega, by omega, by unfold waysWorld; rw [cell_new (by simp)]; rfl, fun j hj => ?_⟩
    have hj' : j = 0 := by omega
    unfold waysWorld
    iterate 10 rw [cell_old (by simp <;> omega)]
    rw [cell_new (by simp)]
    rcases hj' with rfl
    · exact ⟨_, rfl, way_1_0 h⟩
  · refine ⟨w.heap.size + 2, 1, by omega, by omega, by omega, by unfold waysWorld; rw [cell_new (by simp)]; rfl, fun j hj => ?_⟩
    have hj' : j = 0 := by omega
    unfold waysWorld
    iterate 9 rw [cell_old (by simp <;> omega)]
    rw [cell_new (by simp)]
    rcases hj' with rfl
    · exact ⟨_, rfl, way_2_0 h⟩
  · refine ⟨w.heap.size + 3, 2, by omega, by omega, by omega, by unfold waysWorld; rw [cell_new (by simp)]; rfl, fun j hj => ?_⟩
    have hj' : j = 0 ∨ j = 1 := by omega
    unfold waysWorld
    iterate 8 rw [cell_old (by simp <;> omega)]
    rw [cell_new (by simp)]
    rcases hj' with rfl | rfl
    · exact ⟨_, rfl, way_3_0 h⟩
    · exact ⟨_, rfl, way_3_1 h⟩
  · refine ⟨w.heap.size + 4, 2, by omega, by omega, by omega, by unfold waysWorld; rw [cell_new (by simp)]; rfl, fun j hj => ?_⟩
    have hj' : j = 0 ∨ j = 1 := by omega
    unfold waysWorld
    iterate 7 rw [cell_old (by simp <;> omega)]
    rw [cell_new (by simp)]
    rcases hj' with rfl | rfl
    · exact ⟨_, rfl, way_4_0 h⟩
    · exact ⟨_, rfl, way_4_1 h⟩
  · refine ⟨w.heap.size + 5, 5, by omega, by omega, by omega, by unfold waysWorld; rw [cell_new (by simp)]; rfl, fun j hj => ?_⟩
    have hj' : j = 0 ∨ j = 1 ∨ j = 2 ∨ j = 3 ∨ j = 4 := by omega
    unfold waysWorld
    iterate 6 rw [cell_old (by simp <;> omega)]
    rw [cell_new (by simp)]
    rcases hj' with rfl | rfl | rfl | rfl | rfl
    · exact ⟨_, rfl, way_5_0 h⟩
    · exact ⟨_, rfl, way_5_1 h⟩
    · exact ⟨_, rfl, way_5_2 h⟩
    · exact ⟨_, rfl, way_5_3 h⟩
    · exact ⟨_, rfl, way_5_4 h⟩
  · refine ⟨w.heap.size + 6, 1, by omega, by omega, by omega, by unfold waysWorld; rw [cell_new (by simp)]; rfl, fun j hj => ?_⟩
    have hj' : j = 0 := by omega
    unfold waysWorld
    iterate 5 rw [cell_old (by simp <;> omega)]
    rw [cell_new (by simp)]
    rcases hj' with rfl
    · exact ⟨_, rfl, way_6_0 h⟩
  · refine ⟨w.heap.size + 7, 2, by omega, by omega, by omega, by unfold waysWorld; rw [cell_new (by simp)]; rfl, fun j hj => ?_⟩
    have hj' : j = 0 ∨ j = 1 := by omega
    unfold waysWorld
    iterate 4 rw [cell_old (by simp <;> omega)]
    rw [cell_new (by simp)]
    rcases hj' with rfl | rfl
    · exact ⟨_, rfl, way_7_0 h⟩
    · exact ⟨_, rfl, way_7_1 h⟩
  · refine ⟨w.heap.size + 8, 1, by omega, by omega, by omega, by unfold waysWorld; rw [cell_new (by simp)]; rfl, fun j hj => ?_⟩
    have hj' : j = 0 := by omega
    unfold waysWorld
    iterate 3 rw [cell_old (by simp <;> omega)]
    rw [cell_new (by simp)]
    rcases hj' with rfl
    · exact ⟨_, rfl, way_8_0 h⟩
  · refine ⟨w.heap.size + 9, 1, by omega, by omega, by omega, by unfold waysWorld; rw [cell_new (by simp)]; rfl, fun j hj => ?_⟩
    have hj' : j = 0 := by omega
    unfold waysWorld
    iterate 2 rw [cell_old (by simp <;> omega)]
    rw [cell_new (by simp)]
    rcases hj' with rfl
    · exact ⟨_, rfl, way_9_0 h⟩
  · refine ⟨w.heap.size + 10, 2, by omega, by omega, by omega, by unfold waysWorld; rw [cell_new (by simp)]; rfl, fun j hj => ?_⟩
    have hj' : j = 0 ∨ j = 1 := by omega
    unfold waysWorld
    iterate 1 rw [cell_old (by simp <;> omega)]
    rw [cell_new (by simp)]
    rcases hj' with rfl | rfl
    · exact ⟨_, rfl, way_10_0 h⟩
    · exact ⟨_, rfl, way_10_1 h⟩

theorem WaysAt.below {lns : List Tm.Ln} {w w' : World} {b : Nat} (h : WaysAt lns w b) (hb : Below w.heap.size w w') (hl : b < w.heap.size) : WaysAt lns w' b := by
  intro k hk
  obtain ⟨g, n, h1, h2, h3, h4, h5⟩ := h k hk
  refine ⟨g, n, h1, h2, Nat.lt_of_lt_of_le h3 hb.size, (hb.cell (p := ⟨b, k, none⟩) hl).trans h4, fun j hj => ?_⟩
  obtain ⟨s, h6, h7⟩ := h5 j hj
  exact ⟨s, (hb.cell (p := ⟨g, j, none⟩) h3).trans h6, h7⟩

/-- Two texts that are made of the same. -/
structure Twin (lns : List Tm.Ln) (a b : List UInt8) : Prop where
  ca : Closed a
  cb : Closed b
  same : ∀ q, Tm.ord (Tm.classOf lns) (madeOf lns a ++ q) = Tm.ord (Tm.classOf lns) (madeOf lns b ++ q)
theorem madeOf_append {lns : List Tm.Ln} {a b : List UInt8} (h : Closed a) : madeOf lns (a ++ b) = madeOf lns a ++ madeOf lns b := by
  unfold madeOf; rw [h b, List.flatMap_append]
theorem Twin.nil (lns : List Tm.Ln) : Twin lns [] [] := ⟨closed_nil, closed_nil, fun _ => rfl⟩
theorem Twin.more {lns : List Tm.Ln} {a b p p' : List UInt8} {c : List Int} (h : Twin lns a b) (hp : Way lns c p) (hp' : Way lns c p') : Twin lns (a ++ p) (b ++ p') := by
  refine ⟨h.ca.append hp.closed, h.cb.append hp'.closed, fun q => ?_⟩
  rw [madeOf_append h.ca, madeOf_append h.cb, List.append_assoc, h.same, ← List.append_assoc, hp.alike, ← hp'.alike]
theorem tdiv_range {x d : Int} (hd : 0 < d) (h : -9223372036854775808 ≤ x ∧ x ≤ 9223372036854775807) : -9223372036854775808 ≤ x.tdiv d ∧ x.tdiv d ≤ 9223372036854775807 := by
  by_cases hx : 0 ≤ x
  · rw [Int.tdiv_eq_ediv_of_nonneg hx]
    have h1 := Int.ediv_nonneg hx (Int.le_of_lt hd)
    have h2 := Int.ediv_le_self d hx
    omega
  · obtain ⟨y, hy⟩ : ∃ y, x = -y := ⟨-x, by omega⟩
    subst hy
    have hy0 : 0 ≤ y := by omega
    rw [Int.neg_tdiv, Int.tdiv_eq_ediv_of_nonneg hy0]
    have h1 := Int.ediv_nonneg hy0 (Int.le_of_lt hd)
    have h2 := Int.ediv_le_self d hy0
    omega
theorem Twin.norm {lns : List Tm.Ln} {a b : ByteArray} (h : Twin lns a.data.toList b.data.toList) : normOf lns a = normOf lns b := by
  have := h.same []
  rw [List.append_nil, List.append_nil] at this
  unfold normOf
  rw [runesOf_list, runesOf_list]
  exact this

set_option maxRecDepth 100000 in
set_option maxHeartbeats 8000000 in
theorem Written_any (n st : Int) (sh : Bool) (vl : Value) (l : List Int) (w : World) (hn : -9223372036854775808 ≤ n ∧ n ≤ 9223372036854775807) (hst : -9223372036854775808 ≤ st ∧ st ≤ 9223372036854775807) (hv : ∃ a cap, vl = .slice a l.length cap ∧ (0 < l.length → Reads w vl 1 l.length (ints l))) (hl : ∀ x ∈ l, -9223372036854775808 ≤ x ∧ x ≤ 9223372036854775807) :
    Calls Tryd.prog 6 #[.int .i64 n, .int .i64 st, .bool sh, vl] w fun e w' => e = .returned (.bool true) ∧ Below w.heap.size w w' := by
  obtain ⟨al, capl, rfl, hrd⟩ := hv
  have HN := hide hn
  have HST := hide hst
  have HRD := hide hrd
  have HL := hide hl
  clear hn hst hrd hl
  go_enter Tryd.func6, Tryd.ntmps6
  go_wp2_with fail
  refine (opened_any n st sh _ HN.out HST.out).mono ?_
  rintro e w1 ⟨k, t, hk, bc, bm, lns, rfl, hc1, hok, hkt, hnt, hb1⟩
  have HWY : Hid (Tm.Ways lns) := by
    have h := Tm.keep_ways hk
    have hl : lns = Tm.keepLines k := by
      have hst := (Tm.newTable_heavy hnt).2
      unfold Tm.newTable at hnt
      rw [if_neg (by omega)] at hnt
      split at hnt
      · simp at hnt
      · unfold Tm.keepLines
        generalize Tm.readLines [] 1 (Tm.split 10 (Tm.keepTable k)) = p at hnt ⊢
        obtain ⟨l, o⟩ := p
        cases o with
        | none => simp at hnt; exact hnt.1.symm
        | some q => obtain ⟨m, e⟩ := q; simp at hnt; exact hnt.1.symm
    rw [hl]
    exact Tm.Ways.of h
  have HC1 := hide hc1
  have HOK := hide hok
  have HKT := hide hkt
  have HB1 := hide hb1
  have hz1 := hb1.size
  clear hc1 hok hkt hb1 hnt
  go_wp2_with fail
  refine (works_any lns bc bm t sh _ HC1.out HOK.out HKT.out).mono ?_
  rintro e w2 ⟨rfl, hb2⟩
  have hz2 := hb2.size
  have HB2 := hide (HB1.out.trans (hb2.mono hz1))
  have HC2 := hide (HC1.out.below hb2)
  clear hb2
  obtain ⟨W3, hW3⟩ : ∃ W3, waysWorld w2 = W3 := ⟨_, rfl⟩
  have HWA : Hid (WaysAt lns W3 (w2.heap.size + 11)) := by unfold Hid; rw [← hW3]; exact waysWorld_at HWY.out w2
  have hb3 : Below w2.heap.size w2 W3 := by rw [← hW3]; exact waysWorld_below w2
  have hz3 : W3.heap.size = w2.heap.size + 12 := by rw [← hW3]; exact waysWorld_size w2
  have HB3 := hide (HB2.out.trans (hb3.mono (by omega)))
  have HC3 := hide (HC2.out.below hb3)
  have HW3 := hide hW3
  unfold waysWorld at HW3
  clear hb3 hW3
  obtain ⟨ln, hln⟩ : ∃ ln, l.length = ln := ⟨_, rfl⟩
  have HLN := hide hln
  rw [hln] at HRD
  rw [hln]
  clear hln
  go_wp2_with fail
  rw [HW3.out]
  obtain ⟨bw, hbw⟩ : ∃ bw, w2.heap.size + 1 + 1 + 1 + 1 + 1 + 1 + 1 + 1 + 1 + 1 + 1 = bw := ⟨_, rfl⟩
  rw [hbw]
  rw [show w2.heap.size + 11 = bw by omega] at HWA
  clear hbw
  go_loopw [11, 12, 14] (fun o t i wr => ∃ (k : Nat) (a b : ByteArray), k ≤ ln ∧ k ≤ 12 ∧ o = .string a ∧ t = .string b ∧ i = .int .i64 k ∧ Twin lns a.data.toList b.data.toList ∧ a.size ≤ 5 * k ∧ b.size ≤ 5 * k ∧ wr = W3) (fun _ _ i _ => ln - (intOf i).toNat)
  case atStart => exact ⟨0, ⟨#[]⟩, ⟨#[]⟩, Nat.zero_le _, Nat.zero_le _, rfl, rfl, rfl, Twin.nil lns, Nat.le_refl _, Nat.le_refl _, rfl⟩
  case round =>
    obtain ⟨k, a, b, hkl, hk12, rfl, rfl, rfl, htw, hsa, hsb, rfl⟩ := hrel
    have HTW := hide htw
    clear htw
    by_cases hlt : k < ln
    · by_cases hlt12 : k < 12
      · have hlt' : k < l.length := by rw [HLN.out]; exact hlt
        obtain ⟨gl, ol, rfl, hgl, ck⟩ := Reads.at (by rw [HLN.out]; exact (HRD.out (by omega)).below HB3.out (HRD.out (by omega)).2.1) hlt'
        have hxr := HL.out _ (List.getElem_mem hlt')
        obtain ⟨x, hx⟩ : ∃ x, l[k] = x := ⟨_, rfl⟩
        rw [hx] at ck hxr
        have i1 : (0 : Int) ≤ (k : Int) := by omega
        have i2 : (k : Int) < (ln : Int) := by omega
        have i3 : (k : Int) < 12 := by omega
        clear hx
        go_wp2_with fail
        refine (pick_any x 11 _ hxr (by omega)).mono ?_
        rintro e w9 ⟨rfl, rfl⟩
        have hp := pickN_range (c := x) (n := 11) (by omega)
        obtain ⟨q, hq⟩ : ∃ q : Nat, pickN x 11 = q := ⟨(pickN x 11).toNat, by omega⟩
        rw [hq] at hp ⊢
        have hq11 : q < 11 := by omega
        obtain ⟨g, m, hm0, hm5, hgm, cq, hways⟩ := HWA.out q hq11
        have HWS := hide hways
        have j1 : (0 : Int) ≤ (q : Int) := by omega
        have j2 : (q : Int) < 11 := by omega
        clear hp hq hways
        go_wp2_with fail
        refine (pick_any (x.tdiv 16) m _ (tdiv_range (by omega) hxr) (by omega)).mono ?_
        rintro e w10 ⟨rfl, rfl⟩
        have hp := pickN_range (c := x.tdiv 16) (n := (m : Int)) (by omega)
        obtain ⟨r, hr⟩ : ∃ r : Nat, pickN (x.tdiv 16) m = r := ⟨(pickN (x.tdiv 16) m).toNat, by omega⟩
        rw [hr] at hp ⊢
        obtain ⟨s1, cs1, hw1⟩ := HWS.out r (by omega)
        have HW1 := hide hw1
        have hsz1 : s1.size ≤ 5 := by have := hw1.short; simpa using this
        have j3 : (0 : Int) ≤ (r : Int) := by omega
        have j4 : (r : Int) < (m : Int) := by omega
        have z1 : ¬ 9223372036854775807 < a.size + s1.size := by omega
        clear hp hr hw1
        go_wp2_with fail
        refine (pick_any (x.tdiv 128) m _ (tdiv_range (by omega) hxr) (by omega)).mono ?_
        rintro e w11 ⟨rfl, rfl⟩
        have hp := pickN_range (c := x.tdiv 128) (n := (m : Int)) (by omega)
        obtain ⟨r', hr⟩ : ∃ r : Nat, pickN (x.tdiv 128) m = r := ⟨(pickN (x.tdiv 128) m).toNat, by omega⟩
        rw [hr] at hp ⊢
        obtain ⟨s2, cs2, hw2⟩ := HWS.out r' (by omega)
        have HW2 := hide hw2
        have hsz2 : s2.size ≤ 5 := by have := hw2.short; simpa using this
        have j5 : (0 : Int) ≤ (r' : Int) := by omega
        have j6 : (r' : Int) < (m : Int) := by omega
        have z2 : ¬ 9223372036854775807 < b.size + s2.size := by omega
        have HT2 : Hid (Twin lns (a ++ s1).data.toList (b ++ s2).data.toList) := by
          have := HTW.out.more HW1.out HW2.out
          unfold Hid
          simpa using this
        have hs1 : (a ++ s1).size ≤ 5 * (k + 1) := by rw [ByteArray.size_append]; omega
        have hs2 : (b ++ s2).size ≤ 5 * (k + 1) := by rw [ByteArray.size_append]; omega
        clear hp hr hw2
        go_wp2
        go_roundw
        case rel => exact ⟨k + 1, a ++ s1, b ++ s2, by omega, by omega, rfl, rfl, by go_num, HT2.out, hs1, hs2, by first | rfl | trivial⟩
        case measure => simp [intOf]; omega
      · have hd : decide ((k : Int) < 12) = false := by simp; omega
        have HNM := hide HTW.out.norm
        have ha64 : a.size ≤ 64 := by omega
        have hb64 : b.size ≤ 64 := by omega
        have hzw : w.heap.size ≤ wr.heap.size := HB3.out.size
        go_wp2_with fail
        refine (CodeCompare_any lns bc bm t sh a b _ HC3.out HOK.out).mono ?_
        rw [if_pos ⟨ha64, hb64⟩, cmpOf_zero.2 HNM.out]
        rintro e u1 ⟨rfl, hu1⟩
        have hy1 := hu1.size
        have HU1 := hide (HB3.out.trans (hu1.mono hzw))
        have HD1 := hide (HC3.out.below hu1)
        clear hu1
        go_wp2_with fail
        refine (CodeKey_any lns bc bm t sh a _ HD1.out HOK.out).mono ?_
        rw [if_pos ha64]
        rintro e u2 ⟨rfl, hu2⟩
        have hy2 := hu2.size
        have HU2 := hide (HU1.out.trans (hu2.mono (by omega)))
        have HD2 := hide (HD1.out.below hu2)
        clear hu2
        go_wp2_with fail
        refine (CodeKey_any lns bc bm t sh b _ HD2.out HOK.out).mono ?_
        rw [if_pos hb64]
        rintro e u3 ⟨rfl, hu3⟩
        have hkk : keyBytes lns t sh b = keyBytes lns t sh a := by unfold keyBytes; rw [HNM.out]
        rw [hkk]
        have hy3 := hu3.size
        have HU3 := hide (HU2.out.trans (hu3.mono (by omega)))
        have HD3 := hide (HD2.out.below hu3)
        clear hu3 hkk
        go_wp2_with fail
        refine (CodeElements_any lns bc bm t sh a _ HD3.out HOK.out).mono ?_
        rintro e u4 hans
        rw [partsOfAns, if_pos ha64] at hans
        obtain ⟨v4, rfl, hown4, hu4⟩ := hans
        have HR4 := hide (Reads.of_owns hown4)
        have hy4 := hu4.size
        have HU4 := hide (HU3.out.trans (hu4.mono (by omega)))
        have HD4 := hide (HD3.out.below hu4)
        clear hown4 hu4
        go_wp2_with fail
        refine (CodeElements_any lns bc bm t sh b _ HD4.out HOK.out).mono ?_
        rintro e u5 hans
        rw [partsOfAns, if_pos hb64, ← HNM.out] at hans
        obtain ⟨v5, rfl, hown5, hu5⟩ := hans
        have HR5 := hide (Reads.of_owns hown5)
        have HR45 := hide (HR4.out.below hu5 HR4.out.2.1)
        have HU5 := hide (HU4.out.trans (hu5.mono (by omega)))
        have hel := Tm.elements_length HC3.out.fit (normOf lns a)
        have hnl := norm_short' HC3.out.fit ha64
        clear hown5 hu5
        generalize Tm.elements lns (normOf lns a) = E at *
        obtain ⟨m, hm⟩ : ∃ m, E.length = m := ⟨_, rfl⟩
        have HM := hide hm
        rw [hm] at hel HR45 HR5
        obtain ⟨a4, c4, rfl⟩ := HR45.out.shape
        obtain ⟨a5, c5, rfl⟩ := HR5.out.shape
        generalize (keyBytes lns t sh a).toArray = ky at *
        clear hm
        go_wp2_with fail
        go_loopw [26] (fun i wr => ∃ (k : Nat), k ≤ m ∧ i = .int .i64 k ∧ ∃ q, wr = u5.drewN q) (fun i _ => m - (intOf i).toNat)
        case atStart => exact ⟨0, Nat.zero_le _, rfl, 0, rfl⟩
        case round =>
          obtain ⟨k2, hk2, rfl, q, rfl⟩ := hrel
          by_cases hlt2 : k2 < m
          · have hlt2' : k2 < E.length := by rw [HM.out]; exact hlt2
            obtain ⟨g4, o4, rfl, hg4, x0, x1, x2, x3⟩ := els_at (by rw [HM.out]; exact HR45.out) hlt2'
            obtain ⟨g5, o5, rfl, hg5, z0, z1, z2, z3⟩ := els_at (by rw [HM.out]; exact HR5.out) hlt2'
            generalize E[k2] = el at *
            obtain ⟨ep, es, et, ev⟩ := el
            simp only at x0 x1 x2 x3 z0 z1 z2 z3
            have i5 : (0 : Int) ≤ (k2 : Int) := by omega
            have i6 : (k2 : Int) < (m : Int) := by omega
            go_wp2_with fail
            go_quiet (fail)
            go_wp2
            go_roundw
            case rel => exact ⟨k2 + 1, by omega, by go_num, _, rfl⟩
            case measure => simp [intOf]; omega
          · have HF : Hid (Below w.heap.size w (u5.drewN q)) := ⟨HU5.out.os, HU5.out.tape, HU5.out.output, HU5.out.size, HU5.out.block⟩
            go_wp2
            go_ret
            exact ⟨rfl, HF.out⟩
    · have hd : decide ((k : Int) < (ln : Int)) = false := by simp; omega
      have HNM := hide HTW.out.norm
      have ha64 : a.size ≤ 64 := by omega
      have hb64 : b.size ≤ 64 := by omega
      have hzw : w.heap.size ≤ wr.heap.size := HB3.out.size
      go_wp2_with fail
      refine (CodeCompare_any lns bc bm t sh a b _ HC3.out HOK.out).mono ?_
      rw [if_pos ⟨ha64, hb64⟩, cmpOf_zero.2 HNM.out]
      rintro e u1 ⟨rfl, hu1⟩
      have hy1 := hu1.size
      have HU1 := hide (HB3.out.trans (hu1.mono hzw))
      have HD1 := hide (HC3.out.below hu1)
      clear hu1
      go_wp2_with fail
      refine (CodeKey_any lns bc bm t sh a _ HD1.out HOK.out).mono ?_
      rw [if_pos ha64]
      rintro e u2 ⟨rfl, hu2⟩
      have hy2 := hu2.size
      have HU2 := hide (HU1.out.trans (hu2.mono (by omega)))
      have HD2 := hide (HD1.out.below hu2)
      clear hu2
      go_wp2_with fail
      refine (CodeKey_any lns bc bm t sh b _ HD2.out HOK.out).mono ?_
      rw [if_pos hb64]
      rintro e u3 ⟨rfl, hu3⟩
      have hkk : keyBytes lns t sh b = keyBytes lns t sh a := by unfold keyBytes; rw [HNM.out]
      rw [hkk]
      have hy3 := hu3.size
      have HU3 := hide (HU2.out.trans (hu3.mono (by omega)))
      have HD3 := hide (HD2.out.below hu3)
      clear hu3 hkk
      go_wp2_with fail
      refine (CodeElements_any lns bc bm t sh a _ HD3.out HOK.out).mono ?_
      rintro e u4 hans
      rw [partsOfAns, if_pos ha64] at hans
      obtain ⟨v4, rfl, hown4, hu4⟩ := hans
      have HR4 := hide (Reads.of_owns hown4)
      have hy4 := hu4.size
      have HU4 := hide (HU3.out.trans (hu4.mono (by omega)))
      have HD4 := hide (HD3.out.below hu4)
      clear hown4 hu4
      go_wp2_with fail
      refine (CodeElements_any lns bc bm t sh b _ HD4.out HOK.out).mono ?_
      rintro e u5 hans
      rw [partsOfAns, if_pos hb64, ← HNM.out] at hans
      obtain ⟨v5, rfl, hown5, hu5⟩ := hans
      have HR5 := hide (Reads.of_owns hown5)
      have HR45 := hide (HR4.out.below hu5 HR4.out.2.1)
      have HU5 := hide (HU4.out.trans (hu5.mono (by omega)))
      have hel := Tm.elements_length HC3.out.fit (normOf lns a)
      have hnl := norm_short' HC3.out.fit ha64
      clear hown5 hu5
      generalize Tm.elements lns (normOf lns a) = E at *
      obtain ⟨m, hm⟩ : ∃ m, E.length = m := ⟨_, rfl⟩
      have HM := hide hm
      rw [hm] at hel HR45 HR5
      obtain ⟨a4, c4, rfl⟩ := HR45.out.shape
      obtain ⟨a5, c5, rfl⟩ := HR5.out.shape
      generalize (keyBytes lns t sh a).toArray = ky at *
      clear hm
      go_wp2_with fail
      go_loopw [26] (fun i wr => ∃ (k : Nat), k ≤ m ∧ i = .int .i64 k ∧ ∃ q, wr = u5.drewN q) (fun i _ => m - (intOf i).toNat)
      case atStart => exact ⟨0, Nat.zero_le _, rfl, 0, rfl⟩
      case round =>
        obtain ⟨k2, hk2, rfl, q, rfl⟩ := hrel
        by_cases hlt2 : k2 < m
        · have hlt2' : k2 < E.length := by rw [HM.out]; exact hlt2
          obtain ⟨g4, o4, rfl, hg4, x0, x1, x2, x3⟩ := els_at (by rw [HM.out]; exact HR45.out) hlt2'
          obtain ⟨g5, o5, rfl, hg5, z0, z1, z2, z3⟩ := els_at (by rw [HM.out]; exact HR5.out) hlt2'
          generalize E[k2] = el at *
          obtain ⟨ep, es, et, ev⟩ := el
          simp only at x0 x1 x2 x3 z0 z1 z2 z3
          have i5 : (0 : Int) ≤ (k2 : Int) := by omega
          have i6 : (k2 : Int) < (m : Int) := by omega
          go_wp2_with fail
          go_quiet (fail)
          go_wp2
          go_roundw
          case rel => exact ⟨k2 + 1, by omega, by go_num, _, rfl⟩
          case measure => simp [intOf]; omega
        · have HF : Hid (Below w.heap.size w (u5.drewN q)) := ⟨HU5.out.os, HU5.out.tape, HU5.out.output, HU5.out.size, HU5.out.block⟩
          go_wp2
          go_ret
          exact ⟨rfl, HF.out⟩
end Go.Proofs.YtmnjjjhmnhfapaaDoor
