import Derived.Test.YtmnjjjhmnhfapaaGreatDoorMRefRunes
import Derived.Test.YtmnjjjhmnhfapaaGreatDoorMSortStable
import Derived.Test.YtmnjjjhmnhfapaaGreatDoorMNormPlain
namespace Go.Proofs.YtmnjjjhmnhfapaaGreatDoor
open Go.RowKit

/-- The nodes lie below a block number, and are read there as they were. -/
structure NB (lns : List Tm.Ln) (bm base : Nat) (w : World) : Prop where
  base : ∃ w0, NodesRd w0 bm lns ∧ Below w0.heap.size w0 w ∧ w0.heap.size ≤ base
theorem NB.below {lns : List Tm.Ln} {bm base : Nat} {w w' : World} (h : NB lns bm base w) (hb : Below base w w') : NB lns bm base w' := by
  obtain ⟨w0, h1, h2, h3⟩ := h.base
  exact ⟨w0, h1, h2.trans (hb.mono h3), h3⟩
theorem NB.rd {lns : List Tm.Ln} {bm base : Nat} {w : World} (h : NB lns bm base w) : NodesRd w bm lns := by
  obtain ⟨w0, h1, h2, h3⟩ := h.base
  exact h1.below h2

/-- What appendParts answers. -/
def partsAns (base : Nat) (ys : List Int) (w : World) (e : Ending) (w' : World) : Prop := ∃ v', e = .returned v' ∧ w'.ownsRow base 3 1 v' ys.length (ints ys) ∧ Below base w w'
theorem ints_snoc (l : List Int) (x : Int) : ints (l ++ [x]) = ints l ++ [.int .i64 x] := by simp [ints]

set_option maxRecDepth 100000 in
set_option maxHeartbeats 2000000 in
theorem appendParts_leaf (lns : List Tm.Ln) (bm base : Nat) (r : Int) (v : Value) (xs : List Int) (w : World) (h0 : (Tm.parts lns r).length = 0) (hr : 0 ≤ r ∧ r ≤ 1114111) (hN : NB lns bm base w) (hown : w.ownsRow base 3 1 v xs.length (ints xs)) (hbase : base ≤ w.heap.size) (hlen : xs.length + 1 ≤ 100000) :
    Calls Tryz.prog 129 #[.map (some bm), v, .int .i64 r] w fun e w' => partsAns base (xs ++ [r]) w e w' := by
  obtain ⟨f, vp, vs, hmap, hfv, hp, hs⟩ := hN.rd.at hr.1
  obtain ⟨i0, hi, hz0, hz1, hz2⟩ := info_parts Tryz.infoInt
  obtain ⟨av, cv, rfl⟩ := (Reads.of_owns hown).shape
  have HMAP := hide hmap
  have HOWN := hide hown
  obtain ⟨pa, pc, rfl⟩ := hp.shape
  obtain ⟨sa, sc, rfl⟩ := hs.shape
  have HP := hide hp
  generalize hpl : (Tm.parts lns r).length = pl at *
  clear hmap hp hs hown hN hpl
  subst h0
  go_enter Tryz.func129, Tryz.ntmps129
  go_wp2_with (at_lookup; go_must (refine wpList_look rfl _ _ rfl bm lns.length f rfl HMAP.out r rfl (wf_rune hr) _ hfv ?_))
  have hbw : Below w.heap.size w (w.alloc (.cells #[.int .i64 (Tm.classOf lns r), .slice pa 0 pc, .slice sa (Tm.seqsAt lns r).length sc] 251)) := (Below.refl _ _).alloc (Nat.le_refl _) _
  refine (hasParts_any _ 0 (ints (Tm.parts lns r)) _ (HP.out.below hbw HP.out.2.1)).mono ?_
  rintro e w1 ⟨rfl, hb1⟩
  have HB1 : Hid (Below w.heap.size w w1) := hbw.trans (hb1.mono (by simp))
  have hs1 := HB1.out.size
  have HO1 := hide (owns_below HOWN.out HB1.out)
  clear hbw hb1
  go_wp2_with (at_builtin; go_must (refine wpList_append_own _ rfl _ _ 83 rfl base 3 i0 (.int .i64 0) 1 8 Tryz.underlying83 hi hz0 hz1 hz2 rfl (by decide) _ _ _ rfl (HO1.out.alloc _) ⟨w1.heap.size, 0, none⟩ 1 1 [.int .i64 r] rfl rfl news_one (by intro u hu; simp at hu; subst hu; rfl) (by unfold maxLen; omega) (by omega) (by simp; omega) ?_))
  intro v' w2 hown2 hg2 _
  have HB2 : Hid (Below base w w2) := ((HB1.out.mono hbase).alloc (by omega) _).grown hg2 (by simp; omega) (fun j hj => (HO1.out.lt j hj).1)
  have HO2 : Hid (w2.ownsRow base 3 1 v' (xs ++ [r]).length (ints (xs ++ [r]))) := by unfold Hid; rw [ints_snoc, List.length_append]; exact hown2
  clear hown2 hg2
  go_wp2
  go_ret
  exact ⟨v', rfl, HO2.out, HB2.out⟩

set_option maxRecDepth 100000 in
set_option maxHeartbeats 2000000 in
theorem appendParts_any (lns : List Tm.Ln) (hfit : ∀ o ∈ lns, Tm.Fit o) (bm base : Nat) : ∀ (n : Nat) (r : Int) (v : Value) (xs : List Int) (w : World), Tm.ends lns n r = true → 0 ≤ r ∧ r ≤ 1114111 → NB lns bm base w → w.ownsRow base 3 1 v xs.length (ints xs) → base ≤ w.heap.size → xs.length + 2 ^ n ≤ 100000 →
    Calls Tryz.prog 129 #[.map (some bm), v, .int .i64 r] w fun e w' => partsAns base (xs ++ Tm.expand lns n r) w e w' := by
  intro n
  induction n with
  | zero =>
    intro r v xs w hends hr hN hown hbase hlen
    exact appendParts_leaf lns bm base r v xs w (by simpa [Tm.ends] using hends) hr hN hown hbase (by simpa using hlen)
  | succ n ih =>
    intro r v xs w hends hr hN hown hbase hlen
    by_cases h0 : (Tm.parts lns r).length = 0
    · rw [Tm.expand_leaf h0]
      exact appendParts_leaf lns bm base r v xs w h0 hr hN hown hbase (by have := Nat.one_le_two_pow (n := n + 1); omega)
    have hall : (Tm.parts lns r).all (Tm.ends lns n) = true := by
      rw [Tm.ends] at hends
      simpa [h0] using hends
    have hpf := parts_few hfit r
    have HEX := hide (Tm.expand_part (lns := lns) (n := n) h0)
    have HSH := hide (Tm.flat_short (lns := lns) (fun q => parts_few hfit q) n)
    have HALL := hide hall
    have HRG := hide (parts_range hfit r)
    have HIH := hide ih
    obtain ⟨w0, hw1, hw2, hw3⟩ := hN.base
    obtain ⟨f, vp, vs, hmap0, hfv, hp0, hs0⟩ := hw1.at hr.1
    have hmap : MapIs w bm lns.length f := hmap0.same (hw2.block bm hmap0.lt)
    have hp := hp0.below hw2 hp0.2.1
    have hs := hs0.below hw2
    have HMAP := hide hmap
    have HW2 := hide hw2
    have HP0 := hide hp0
    have HOWN := hide hown
    have HN := hide hN
    obtain ⟨pa, pc, rfl⟩ := hp.shape
    obtain ⟨sa, sc, rfl⟩ := hs.shape
    have HP := hide hp
    obtain ⟨pl, hpl⟩ : ∃ pl, (Tm.parts lns r).length = pl := ⟨_, rfl⟩
    rw [hpl] at hfv HP HP0 h0 hpf
    have HPL := hide hpl
    have hpow : 2 ^ (n + 1) = 2 ^ n + 2 ^ n := by rw [Nat.pow_succ]; omega
    have HLEN : Hid (xs.length + 2 ^ n + 2 ^ n ≤ 100000) := by unfold Hid; omega
    have hgt : decide (0 < pl) = true := by simp; omega
    clear hmap hp hs hown hN hpl ih hall hends hlen hpow hmap0 hp0 hs0 hw1 hw2
    go_enter Tryz.func129, Tryz.ntmps129
    go_wp2_with (at_lookup; go_must (refine wpList_look rfl _ _ rfl bm lns.length f rfl HMAP.out r rfl (wf_rune hr) _ hfv ?_))
    have hbw : Below w.heap.size w (w.alloc (.cells #[.int .i64 (Tm.classOf lns r), .slice pa pl pc, .slice sa (Tm.seqsAt lns r).length sc] 251)) := (Below.refl _ _).alloc (Nat.le_refl _) _
    have hnlt : w.heap.size < (w.alloc (.cells #[.int .i64 (Tm.classOf lns r), .slice pa pl pc, .slice sa (Tm.seqsAt lns r).length sc] 251)).heap.size := by simp
    refine (hasParts_any _ pl (ints (Tm.parts lns r)) _ (HP.out.below hbw HP.out.2.1)).mono ?_
    rintro e w1 ⟨rfl, hb1⟩
    have HB1 : Hid (Below w.heap.size w w1) := hbw.trans (hb1.mono (by simp))
    have hs1 := HB1.out.size
    have n1 : w1.cell? ⟨w.heap.size, 1, none⟩ = some (.slice pa pl pc) := by rw [hb1.cell (p := ⟨w.heap.size, 1, none⟩) hnlt, cell_new rfl]; rfl
    have HO1 := hide (owns_below HOWN.out HB1.out)
    have HN1 := hide (HN.out.below (HB1.out.mono hbase))
    have HP1 := hide (HP.out.below HB1.out HP.out.2.1)
    clear hbw hb1 hnlt
    go_wp2_with fail
    go_loopw [1, 25] (fun vv i wr => ∃ (k : Nat) (ys : List Int), k ≤ pl ∧ i = .int .i64 k ∧ ys = xs ++ ((Tm.parts lns r).take k).flatMap (Tm.expand lns n) ∧ wr.ownsRow base 3 1 vv ys.length (ints ys) ∧ Below base w1 wr) (fun _ i _ => pl - (intOf i).toNat)
    case atStart => exact ⟨0, xs, Nat.zero_le _, rfl, by simp, HO1.out, Below.refl _ _⟩
    case round =>
      obtain ⟨k, ys, hk, rfl, hys, hown2, hb2⟩ := hrel
      have HYS := hide hys
      have HO2 := hide hown2
      have HB2 := hide hb2
      have hz2 := hb2.size
      clear hys hown2 hb2
      by_cases hlt : k < pl
      · have hlt' : k < (Tm.parts lns r).length := by rw [HPL.out]; exact hlt
        have hall2 : Below w0.heap.size w0 wr := HW2.out.trans (((HB1.out.mono hbase).trans HB2.out).mono hw3)
        obtain ⟨g, off, rfl, hg, hc⟩ := Reads.at (k := k) (by rw [HPL.out]; exact HP0.out.below hall2 HP0.out.2.1) hlt'
        have hx := HRG.out _ (List.getElem_mem hlt')
        have hex := List.all_eq_true.1 HALL.out _ (List.getElem_mem hlt')
        have HSN := hide (Tm.flat_snoc (f := Tm.expand lns n) hlt')
        have hyl : ys.length + 2 ^ n ≤ 100000 := by
          have h1 := HSH.out ((Tm.parts lns r).take k)
          have h2 : ((Tm.parts lns r).take k).length ≤ 1 := by rw [List.length_take]; omega
          have h3 := Nat.mul_le_mul_right (2 ^ n) h2
          have h4 := HLEN.out
          rw [HYS.out, List.length_append]
          omega
        have HNr := hide (HN1.out.below HB2.out)
        have hcell : wr.cell? ⟨g, off + k, none⟩ = some (.int .i64 (Tm.parts lns r)[k]) := hc
        generalize (Tm.parts lns r)[k] = x at *
        clear hall2 hc
        go_wp2_with fail
        refine (HIH.out x _ ys wr hex hx HNr.out HO2.out (by omega) hyl).mono ?_
        rintro e w3 ⟨v3, rfl, hown3, hb3⟩
        have HO3 := hide hown3
        have HB3 : Hid (Below base w1 w3) := HB2.out.trans hb3
        have HYS3 : Hid (ys ++ Tm.expand lns n x = xs ++ ((Tm.parts lns r).take (k + 1)).flatMap (Tm.expand lns n)) := by unfold Hid; rw [HSN.out, ← List.append_assoc, ← HYS.out]
        clear hown3 hb3
        go_wp2
        go_roundw
        case rel => exact ⟨k + 1, ys ++ Tm.expand lns n x, by omega, by go_num, HYS3.out, HO3.out, HB3.out⟩
        case measure => simp [intOf]; omega
      · have HF : Hid (ys = xs ++ Tm.expand lns (n + 1) r) := by unfold Hid; rw [HYS.out, HEX.out, List.take_of_length_le (by rw [HPL.out]; omega)]
        have HBF : Hid (Below base w wr) := (HB1.out.mono hbase).trans HB2.out
        obtain ⟨a3, c3, rfl⟩ := (Reads.of_owns HO2.out).shape
        go_wp2
        go_ret
        refine ⟨_, rfl, ?_, HBF.out⟩
        rw [← HF.out]
        exact HO2.out
end Go.Proofs.YtmnjjjhmnhfapaaGreatDoor
namespace Go.Proofs.YtmnjjjhmnhfapaaGreatDoor
open Go.RowKit

/-- A row's cells as numbers. -/
theorem owns_ints {w : World} {base g n cap : Nat} {xs : List Int} (h : w.ownsRow base 3 1 (.slice (some ⟨g, 0, none⟩) n cap) n (ints xs)) : Ints w g 0 xs := by
  intro j x hj
  rcases h.2 with ⟨he, _⟩ | ⟨g', cap', cur, he, hb, hg, h1, h2, h3, h4⟩
  · cases he
  · cases he
    have hx : (ints xs)[j]? = some (.int .i64 x) := by simp [ints, hj]
    have hlen := h.1
    have hjl : j < n * 1 := by
      have := (List.getElem?_eq_some_iff.1 hx).1
      omega
    have hc : cur[j]? = some (.int .i64 x) := by
      rw [← h4, List.getElem?_take, if_pos (by omega)] at hx
      simpa using hx
    constructor
    · rw [cell_of_row _ _ _ cur _ (0, 0) hg]; simpa using hc
    · simp [World.frozen?, hg]
theorem owns_turned {w w' : World} {base g n cap off k : Nat} {xs ys : List Int} (h : w.ownsRow base 3 1 (.slice (some ⟨g, 0, none⟩) n cap) n (ints xs)) (ht : Turn g off k w w') (hi : Ints w' g 0 ys) (hl : ys.length = xs.length) : w'.ownsRow base 3 1 (.slice (some ⟨g, 0, none⟩) n cap) n (ints ys) := by
  have hlen := h.1
  refine ⟨by rw [ints_length] at hlen ⊢; omega, ?_⟩
  rcases h.2 with ⟨he, _⟩ | ⟨g', cap', cur, he, hb, hg, h1, h2, h3, h4⟩
  · cases he
  · cases he
    obtain ⟨cur', c1, c2, _⟩ := ht.cells cur _ _ hg
    refine .inr ⟨g, cap, cur', rfl, hb, c1, h1, h2, by rw [c2]; exact h3, ?_⟩
    apply List.ext_getElem?
    intro j
    rw [List.getElem?_take]
    split
    · rename_i hj
      have hjy : j < ys.length := by rw [ints_length] at hlen; omega
      have hc := (hi.at hjy).1
      rw [cell_of_row _ _ _ cur' _ (0, 0) c1] at hc
      rw [ints_get hjy]
      simpa using hc
    · rename_i hj
      rw [List.getElem?_eq_none (by rw [ints_length] at hlen ⊢; omega)]
theorem Ints.sub {w : World} {g : Nat} {p s r : List Int} (h : Ints w g 0 (p ++ s ++ r)) : Ints w g p.length s := by
  intro j x hj
  have hjl := (List.getElem?_eq_some_iff.1 hj).1
  have := h (p.length + j) x (by rw [List.append_assoc, List.getElem?_append_right (by omega), List.getElem?_append_left (by omega)]; rw [show p.length + j - p.length = j from by omega]; exact hj)
  rw [Nat.zero_add] at this
  exact this
theorem Ints.splice {w w' : World} {g : Nat} {p s s' r : List Int} {cur : Array Value} {e : TypeId} (hg : w.heap[g]? = some (.cells cur e (0, 0))) (h : Ints w g 0 (p ++ s ++ r)) (ht : Turn g p.length s.length w w') (hs : Ints w' g p.length s') (hl : s'.length = s.length) : Ints w' g 0 (p ++ s' ++ r) := by
  obtain ⟨cur', c1, c2, c3⟩ := ht.cells cur _ _ hg
  intro j x hj
  have hfz : w'.frozen? ⟨g, 0 + j, none⟩ = false := by simp [World.frozen?, c1]
  refine ⟨?_, hfz⟩
  by_cases h1 : j < p.length
  · rw [List.append_assoc, List.getElem?_append_left h1] at hj
    have h0 := (h j x (by rw [List.append_assoc, List.getElem?_append_left h1]; exact hj)).1
    rw [cell_of_row _ _ _ cur _ (0, 0) hg] at h0
    rw [cell_of_row _ _ _ cur' _ (0, 0) c1, c3 _ (by omega)]
    exact h0
  · by_cases h2 : j < p.length + s.length
    · rw [List.append_assoc, List.getElem?_append_right (by omega), List.getElem?_append_left (by omega)] at hj
      have h0 := (hs (j - p.length) x hj).1
      rw [show p.length + (j - p.length) = 0 + j from by omega] at h0
      exact h0
    · rw [List.getElem?_append_right (by simp; omega)] at hj
      have h0 := (h j x (by rw [List.getElem?_append_right (by simp; omega)]; rw [← hj]; simp [hl])).1
      rw [cell_of_row _ _ _ cur _ (0, 0) hg] at h0
      rw [cell_of_row _ _ _ cur' _ (0, 0) c1, c3 _ (by omega)]
      exact h0
theorem owns_obj {w : World} {base g n cap : Nat} {xs : List Value} (h : w.ownsRow base 3 1 (.slice (some ⟨g, 0, none⟩) n cap) n xs) : base ≤ g ∧ n ≤ cap ∧ cap ≤ maxLen ∧ ∃ cur, w.heap[g]? = some (.cells cur 3 (0, 0)) := by
  rcases h.2 with ⟨he, _⟩ | ⟨g', cap', cur, he, hb, hg, h1, h2, _⟩
  · cases he
  · cases he; exact ⟨hb, h1, h2, cur, hg⟩

theorem sort_seg (lns : List Tm.Ln) (bm base g n cap cap' : Nat) (p b c : List Int) (w : World) {F K : Nat} (hF : F = p.length) (hK : K = b.length) (hown : w.ownsRow base 3 1 (.slice (some ⟨g, 0, none⟩) n cap) n (ints (p ++ b ++ c))) (hm : ∀ x ∈ b, Tm.classOf lns x ≠ 0) (hR : ∀ x ∈ b, 0 ≤ x ∧ x ≤ 1114111) (hN : NB lns bm base w) (hlen : n ≤ 100000) :
    Calls Tryz.prog 165 #[.slice (some ⟨g, F, none⟩) K cap', byClassFn bm] w fun e w' => e = .returned (.tuple #[]) ∧ w'.ownsRow base 3 1 (.slice (some ⟨g, 0, none⟩) n cap) n (ints (p ++ Tm.ord (Tm.classOf lns) b ++ c)) ∧ Below base w w' := by
  subst hF hK
  obtain ⟨hbg, hnc, hcm, cur, hcur⟩ := owns_obj hown
  have hl := hown.1
  rw [ints_length] at hl
  have hbl : b.length ≤ 100000 := by simp at hl; omega
  have hC : Cmp lns bm g w := by
    obtain ⟨w0, h1, h2, h3⟩ := hN.base
    exact ⟨w0, h1, h2, by omega⟩
  refine (SortStableFunc_any lns bm b g p.length b.length cap' w rfl hbl hR (owns_ints hown).sub hC).mono ?_
  rintro e w' ⟨rfl, ⟨s, hso, hI⟩, hT⟩
  have hs := hso.ord_eq hm
  subst hs
  have hsl : (Tm.ord (Tm.classOf lns) b).length = b.length := Tm.ord_length _ _
  have hI2 := Ints.splice hcur (owns_ints hown) hT hI hsl
  exact ⟨rfl, owns_turned hown hT hI2 (by simp [hsl]), hT.below (Below.refl _ _) hbg⟩

set_option maxRecDepth 100000 in
set_option maxHeartbeats 4000000 in
theorem arrange_any (lns : List Tm.Ln) (hfit : ∀ o ∈ lns, Tm.Fit o) (bm base g cap : Nat) (xs : List Int) (w : World) (hR : ∀ x ∈ xs, 0 ≤ x ∧ x ≤ 1114111) (hN : NB lns bm base w) (hown : w.ownsRow base 3 1 (.slice (some ⟨g, 0, none⟩) xs.length cap) xs.length (ints xs)) (hbase : base ≤ w.heap.size) (hlen : xs.length ≤ 100000) :
    Calls Tryz.prog 130 #[.map (some bm), .slice (some ⟨g, 0, none⟩) xs.length cap] w fun e w' => e = .returned (.tuple #[]) ∧ w'.ownsRow base 3 1 (.slice (some ⟨g, 0, none⟩) xs.length cap) xs.length (ints (Tm.ord (Tm.classOf lns) xs)) ∧ Below base w w' := by
  have hmf : ∀ (fn : Fn) (first cap : Array Value) (w : World), (Instr.makeFunc fn first cap).run Tryz.prog w = .ok (.func fn first cap) w := fun _ _ _ _ => rfl
  obtain ⟨hbg, hnc, hcm, _⟩ := owns_obj hown
  unfold maxLen at hcm
  have hf1 := field_rank
  have HR := hide hR
  have HN := hide hN
  have HOWN := hide hown
  have HKN := hide (Tm.classOf_nonneg hfit)
  obtain ⟨n, hn⟩ : ∃ n, xs.length = n := ⟨_, rfl⟩
  rw [hn] at HOWN hnc hlen
  rw [hn]
  have HXN := hide hn
  have HBC : Hid (byClassFn bm = .func (.func 166) #[.map (some bm)] #[]) := rfl
  clear hR hN hown hn
  go_enter Tryz.func130, Tryz.ntmps130
  go_wp2
  go_loopw [4, 9] (fun vf vi wr => ∃ (a b c : List Int) (fi ii : Nat), vf = .int .i64 (fi : Int) ∧ vi = .int .i64 (ii : Int) ∧ a.length = fi ∧ fi + b.length = ii ∧ xs = a ++ b ++ c ∧ (∀ x ∈ b, Tm.classOf lns x ≠ 0) ∧ (∀ q, Tm.ord (Tm.classOf lns) (a ++ q) = Tm.ord (Tm.classOf lns) a ++ Tm.ord (Tm.classOf lns) q) ∧ wr.ownsRow base 3 1 (.slice (some ⟨g, 0, none⟩) n cap) n (ints (Tm.ord (Tm.classOf lns) a ++ b ++ c)) ∧ Below base w wr) (fun _ vi _ => n - (intOf vi).toNat)
  case atStart => exact ⟨[], [], xs, 0, 0, rfl, rfl, rfl, rfl, rfl, by simp, fun q => rfl, HOWN.out, Below.refl _ _⟩
  case round =>
    obtain ⟨a, b, c, fi, ii, rfl, rfl, hfi, hii, hx, hbm, hord, hown2, hb2⟩ := hrel
    have HX := hide hx
    have HBM := hide hbm
    have HORD := hide hord
    have HO2 := hide hown2
    have HB2 := hide hb2
    have HFI := hide hfi
    have hz2 := hb2.size
    have hnl : ii + c.length = n := by have h := HXN.out; rw [hx] at h; simp at h; omega
    have hal : (Tm.ord (Tm.classOf lns) a).length = fi := by rw [Tm.ord_length, hfi]
    have HAL := hide hal
    clear hx hbm hord hown2 hb2 hfi hal
    cases c with
    | nil =>
      have hin : ii = n := by simpa using hnl
      have hbb : Tm.ord (Tm.classOf lns) xs = Tm.ord (Tm.classOf lns) a ++ Tm.ord (Tm.classOf lns) b := by rw [HX.out, List.append_nil]; exact HORD.out b
      have HBB := hide hbb
      have hd : decide ((ii : Int) < (n : Int)) = false := by simp <;> omega
      clear hbb
      by_cases hcf : cap = fi
      · have hb0 : b = [] := List.eq_nil_of_length_eq_zero (by omega)
        subst hb0
        have hfn : fi = n := by simp at hii; omega
        have HF : Hid (wr.ownsRow base 3 1 (.slice (some ⟨g, 0, none⟩) n cap) n (ints (Tm.ord (Tm.classOf lns) xs))) := by unfold Hid; rw [HBB.out]; have h := HO2.out; simpa [Tm.ord] using h
        go_wp2_with fail
        refine (SortStableFunc_none _ _ _ _).mono ?_
        rintro e w3 ⟨rfl, rfl⟩
        go_wp2
        go_end0
        exact ⟨rfl, HF.out, HB2.out⟩
      · have hfc : fi ≤ cap := by omega
        have HCALL := hide (sort_seg lns bm base g n cap (cap - fi) (Tm.ord (Tm.classOf lns) a) b [] wr (F := fi) (K := n - fi) HAL.out.symm (by omega) HO2.out HBM.out (fun x hx => HR.out x (by rw [HX.out]; simp [hx])) (HN.out.below HB2.out) hlen)
        rw [HBC.out] at HCALL
        go_wp2_with fail
        refine HCALL.out.mono ?_
        rintro e w3 ⟨rfl, hown3, hb3⟩
        have HF : Hid (w3.ownsRow base 3 1 (.slice (some ⟨g, 0, none⟩) n cap) n (ints (Tm.ord (Tm.classOf lns) xs))) := by unfold Hid; rw [HBB.out]; have h := hown3; rw [List.append_nil] at h; exact h
        have HBF : Hid (Below base w w3) := HB2.out.trans hb3
        clear hown3 hb3
        go_wp2
        go_end0
        exact ⟨rfl, HF.out, HBF.out⟩
    | cons x c =>
      have hd : decide ((ii : Int) < (n : Int)) = true := by simp at hnl; simp <;> omega
      have hxr := HR.out x (by rw [HX.out]; simp)
      have hmi : (Tm.ord (Tm.classOf lns) a ++ b).length = ii := by have := HAL.out; simp; omega
      have cx := (owns_ints HO2.out) ii x (get_mid (a := Tm.ord (Tm.classOf lns) a ++ b) (c := c) hmi.symm)
      rw [Nat.zero_add] at cx
      obtain ⟨cx, _⟩ := cx
      have hil : (ii : Int) < (n : Int) := by simpa using hd
      obtain ⟨w0, hw1, hw2, hw3⟩ := (HN.out.below HB2.out).base
      obtain ⟨f, vp, vs, hmap, hfv, _, _⟩ := (hw1.below hw2).at hxr.1
      have HMAP := hide hmap
      clear hmap hw1 hw2 hmi
      go_wp2_with (at_lookup; go_must (refine wpList_look rfl _ _ rfl bm lns.length f rfl HMAP.out x rfl (wf_rune hxr) _ hfv ?_))
      refine (isMark_any _ _).mono ?_
      rintro e w2 ⟨rfl, hb3⟩
      have HB3 : Hid (Below base w w2) := HB2.out.trans (hb3.mono (by omega))
      have HO3 := hide (owns_below HO2.out hb3)
      have hz3 := hb3.size
      clear hb3
      cases hcl : (Tm.classOf lns x != 0)
      · have h0 : Tm.classOf lns x = 0 := by simpa using hcl
        have hcf : ¬ cap = fi := by omega
        have hfi2 : fi ≤ ii := by omega
        have HCALL := hide (sort_seg lns bm base g n cap (cap - fi) (Tm.ord (Tm.classOf lns) a) b (x :: c) w2 (F := fi) (K := ii - fi) HAL.out.symm (by omega) HO3.out HBM.out (fun y hy => HR.out y (by rw [HX.out]; simp [hy])) (HN.out.below HB3.out) hlen)
        rw [HBC.out] at HCALL
        have HST := hide (fun q => Tm.ord_stop HKN.out h0 b q)
        have HA2 : Hid (Tm.ord (Tm.classOf lns) (a ++ b ++ [x]) = Tm.ord (Tm.classOf lns) a ++ Tm.ord (Tm.classOf lns) b ++ [x]) := by
          unfold Hid
          have h := HST.out []
          rw [List.append_assoc, HORD.out, h]
          simp [Tm.ord, List.append_assoc]
        have HORD2 : Hid (∀ q, Tm.ord (Tm.classOf lns) ((a ++ b ++ [x]) ++ q) = Tm.ord (Tm.classOf lns) (a ++ b ++ [x]) ++ Tm.ord (Tm.classOf lns) q) := fun q => by
          have h := HST.out q
          rw [HA2.out, show a ++ b ++ [x] ++ q = a ++ (b ++ x :: q) from by simp, HORD.out, h]
          simp [List.append_assoc]
        clear hcl h0
        go_wp2_with fail
        refine HCALL.out.mono ?_
        rintro e w3 ⟨rfl, hown3, hb3⟩
        have HO4 : Hid (w3.ownsRow base 3 1 (.slice (some ⟨g, 0, none⟩) n cap) n (ints (Tm.ord (Tm.classOf lns) (a ++ b ++ [x]) ++ [] ++ c))) := by unfold Hid; rw [HA2.out]; have h := hown3; simpa [List.append_assoc] using h
        have HB4 : Hid (Below base w w3) := HB3.out.trans hb3
        clear hown3 hb3
        go_wp2
        go_roundw
        case rel => exact ⟨a ++ b ++ [x], [], c, ii + 1, ii + 1, by go_num, by go_num, by have := HFI.out; simp; omega, rfl, by rw [HX.out]; simp, by simp, HORD2.out, HO4.out, HB4.out⟩
        case measure => simp [intOf] <;> omega
      · have HBM2 : Hid (∀ y ∈ b ++ [x], Tm.classOf lns y ≠ 0) := fun y hy => by
          rcases List.mem_append.1 hy with h | h
          · exact HBM.out y h
          · simp at h; subst h; simpa using hcl
        have HO4 : Hid (w2.ownsRow base 3 1 (.slice (some ⟨g, 0, none⟩) n cap) n (ints (Tm.ord (Tm.classOf lns) a ++ (b ++ [x]) ++ c))) := by have h := HO3.out; unfold Hid; simpa [List.append_assoc] using h
        clear hcl
        go_wp2
        go_roundw
        case rel => exact ⟨a, b ++ [x], c, fi, ii + 1, rfl, by go_num, HFI.out, by simp; omega, by rw [HX.out]; simp, HBM2.out, HORD.out, HO4.out, HB3.out⟩
        case measure => simp [intOf] <;> omega
set_option maxRecDepth 100000 in
theorem arrange_none (bm : Nat) (w : World) : Calls Tryz.prog 130 #[.map (some bm), .slice none 0 0] w fun e w' => e = .returned (.tuple #[]) ∧ w' = w := by
  have hmf : ∀ (fn : Fn) (first cap : Array Value) (w : World), (Instr.makeFunc fn first cap).run Tryz.prog w = .ok (.func fn first cap) w := fun _ _ _ _ => rfl
  go_enter Tryz.func130, Tryz.ntmps130
  go_wp2
  go_loopw [4, 9] (fun vf vi wr => vf = .int .i64 0 ∧ vi = .int .i64 0 ∧ wr = w) (fun _ _ _ => 0)
  case atStart => exact ⟨rfl, rfl, rfl⟩
  case round =>
    obtain ⟨rfl, rfl, rfl⟩ := hrel
    go_wp2_with fail
    refine (SortStableFunc_none _ _ _ _).mono ?_
    rintro e w3 ⟨rfl, rfl⟩
    go_wp2
    go_end0
    exact ⟨rfl, rfl⟩
end Go.Proofs.YtmnjjjhmnhfapaaGreatDoor
namespace Go.Proofs.YtmnjjjhmnhfapaaGreatDoor
open Go.RowKit

/-- A row of numbers that is sorted in place; none: nothing is held. -/
def Held (w : World) (base : Nat) (a : Option Addr) (xs : List Int) : Prop :=
  (xs = [] ∧ a = none) ∨ ∃ g, a = some ⟨g, 0, none⟩ ∧ base ≤ g ∧ g < w.heap.size ∧ Ints w g 0 xs
theorem Held.of_owns {w : World} {base n cap : Nat} {a : Option Addr} {xs : List Int} (h : w.ownsRow base 3 1 (.slice a n cap) xs.length (ints xs)) : Held w base a xs := by
  have hn := (Reads.of_owns h).fits.1
  obtain ⟨m, hm⟩ : ∃ m, xs.length = m := ⟨_, rfl⟩
  rw [hm] at h hn
  subst hn
  rcases h.2 with ⟨h1, h2⟩ | ⟨g, c, cur, h1, hg, _⟩
  · cases h1
    exact .inl ⟨List.eq_nil_of_length_eq_zero hm, rfl⟩
  · cases h1
    exact .inr ⟨g, rfl, hg, (h.lt g rfl).2, owns_ints h⟩
theorem Held.reads {w : World} {base cap : Nat} {a : Option Addr} {xs : List Int} (h : Held w base a xs) (hc : xs.length ≤ cap) (hm : cap ≤ maxLen) : Reads w (.slice a xs.length cap) 1 xs.length (ints xs) := by
  refine ⟨by simp [ints], ?_, a, cap, rfl, ⟨hc, hm⟩, ?_⟩
  · rcases h with ⟨_, rfl⟩ | ⟨g, rfl, _, hg, _⟩
    · intro g hg; simp [Value.ownBlock] at hg
    · intro g' hg'; simp [Value.ownBlock] at hg'; omega
  · intro j u hu
    rcases h with ⟨rfl, _⟩ | ⟨g, rfl, _, _, hi⟩
    · simp [ints] at hu
    · simp only [ints, List.getElem?_map, Option.map_eq_some_iff] at hu
      obtain ⟨x, hx, rfl⟩ := hu
      exact ⟨g, 0, rfl, (hi j x hx).1⟩
theorem Ints.below {w w' : World} {g off B : Nat} {xs : List Int} (h : Ints w g off xs) (hb : Below B w w') (hg : g < B) : Ints w' g off xs := by
  intro j x hx
  obtain ⟨h1, h2⟩ := h j x hx
  refine ⟨?_, ?_⟩
  · rw [World.cell?_of_block (hb.block g hg)]; exact h1
  · rw [World.frozen?_of_block (hb.block g hg)]; exact h2
theorem Held.below {w w' : World} {base B : Nat} {a : Option Addr} {xs : List Int} (h : Held w base a xs) (hb : Below B w w') (hB : w.heap.size ≤ B) : Held w' base a xs := by
  rcases h with h | ⟨g, rfl, h1, h2, h3⟩
  · exact .inl h
  · exact .inr ⟨g, rfl, h1, Nat.lt_of_lt_of_le h2 hb.size, h3.below hb (by omega)⟩
theorem split_two {ys : List Int} {j : Nat} (h : j + 1 < ys.length) : ys = ys.take j ++ ys[j] :: ([] ++ ys[j + 1] :: ys.drop (j + 2)) := by
  have h1 : ys.drop j = ys[j] :: ys[j + 1] :: ys.drop (j + 2) := by
    rw [List.drop_eq_getElem_cons (by omega), List.drop_eq_getElem_cons (by omega)]
  rw [List.nil_append, ← h1, List.take_append_drop]

def stepsSt (lns : List Tm.Ln) (E l : List Int) (t : Bool) : Prop := if t then ∃ n, n ≤ 4 ∧ l.all (Tm.ends lns n) = true ∧ l.flatMap (Tm.expand lns n) = E else l = E
theorem stepsSt.go {lns : List Tm.Ln} {E l : List Int} (h : stepsSt lns E l true) : stepsSt lns E (Tm.stepAll lns l) (Tm.hasParts lns l) := by
  obtain ⟨n, hn, ha, he⟩ := h
  cases hp : Tm.hasParts lns l
  · show Tm.stepAll lns l = E
    rw [Tm.step_stop hp, ← he, Tm.flat_leaf hp]
  · exact Tm.depth_step ha hn he hp
theorem stepsSt.short {lns : List Tm.Ln} {E l : List Int} {t : Bool} (h : stepsSt lns E l t) : l.length ≤ E.length := by
  cases t
  · have : l = E := h
    rw [this]; exact Nat.le_refl _
  · obtain ⟨n, hn, ha, he⟩ := h
    rw [← he]; exact Tm.flat_long n l
/-- How many steps are left. -/
noncomputable def stepsLeft (lns : List Tm.Ln) (w : World) (v y : Value) : Nat := match y with
  | .bool true => Tm.depth lns (listOf w v) + 1
  | _ => 0
theorem stepsSt.less {lns : List Tm.Ln} {E l : List Int} {w w' : World} {v v' : Value} (h : stepsSt lns E l true) (h1 : listOf w v = l) (h2 : listOf w' v' = Tm.stepAll lns l) : stepsLeft lns w' v' (.bool (Tm.hasParts lns l)) < stepsLeft lns w v (.bool true) := by
  obtain ⟨n, hn, ha, he⟩ := h
  unfold stepsLeft
  rw [h1, h2]
  cases hp : Tm.hasParts lns l
  · exact Nat.succ_pos _
  · have := Tm.depth_less ha hn hp
    simp only; omega
/-- How much the passes have left. -/
noncomputable def passLeft (k : Int → Int) (w : World) (v y : Value) : Nat := 2 * Tm.inv k (listOf w v) + match y with
  | .bool true => 1
  | _ => 0
/-- A pass as far as j. -/
structure Pass (k : Int → Int) (E xs ys : List Int) (t : Bool) (j : Nat) : Prop where
  len : ys.length = xs.length
  same : Tm.ord k ys = Tm.ord k E
  still : t = false → ys = xs ∧ ∀ m, m < j → m + 1 < xs.length → Tm.wrong k (xs.getD m 0) (xs.getD (m + 1) 0) = false
  less : t = true → Tm.inv k ys < Tm.inv k xs
theorem getD_at {l : List Int} {j : Nat} (h : j < l.length) : l.getD j 0 = l[j] := by simp [List.getD, h]
theorem Pass.on {k : Int → Int} {E xs ys : List Int} {t : Bool} {j : Nat} (h : Pass k E xs ys t j) (hj : j + 1 < ys.length) (hw : Tm.wrong k ys[j] ys[j + 1] = false) : Pass k E xs ys t (j + 1) := by
  refine ⟨h.len, h.same, fun ht => ?_, h.less⟩
  obtain ⟨rfl, h2⟩ := h.still ht
  refine ⟨rfl, fun m hm hl => ?_⟩
  by_cases e : m = j
  · subst e
    rw [getD_at (by omega), getD_at hj]; exact hw
  · exact h2 m (by omega) hl
theorem Pass.swap {k : Int → Int} {E xs ys : List Int} {t : Bool} {j : Nat} (h : Pass k E xs ys t j) (hj : j + 1 < ys.length) (hw : Tm.wrong k ys[j] ys[j + 1] = true) : Pass k E xs (ys.take j ++ ys[j + 1] :: ([] ++ ys[j] :: ys.drop (j + 2))) true (j + 1) := by
  have hw' : k ys[j + 1] ≠ 0 ∧ k ys[j + 1] < k ys[j] := by simpa [Tm.wrong] using hw
  have e := split_two hj
  have hi : Tm.inv k ys = Tm.inv k (ys.take j ++ ys[j + 1] :: ys[j] :: ys.drop (j + 2)) + 1 := by
    rw [← Tm.inv_swap hw'.1 hw'.2]
    exact congrArg (Tm.inv k) e
  have ho : Tm.ord k ys = Tm.ord k (ys.take j ++ ys[j + 1] :: ys[j] :: ys.drop (j + 2)) := by
    rw [← Tm.ord_swap hw'.1 hw'.2]
    exact congrArg (Tm.ord k) e
  refine ⟨?_, ?_, fun ht => (by cases ht), fun _ => ?_⟩
  · have := h.len
    simp; omega
  · rw [List.nil_append, ← ho]; exact h.same
  · rw [List.nil_append]
    cases t
    · have := (h.still rfl).1
      subst this; omega
    · have := h.less rfl; omega
theorem Pass.calm {k : Int → Int} {E xs ys : List Int} {j : Nat} (h : Pass k E xs ys false j) (hj : xs.length ≤ j + 1) : Tm.Calm k ys := by
  obtain ⟨rfl, h2⟩ := h.still rfl
  exact Tm.calm_of fun m hm => h2 m (by omega) hm
theorem Pass.left {k : Int → Int} {E xs ys : List Int} {t : Bool} {j : Nat} {w w' : World} {v : Value} (h : Pass k E xs ys t j) (h1 : listOf w v = xs) (h2 : listOf w' v = ys) : passLeft k w' v (.bool t) < passLeft k w v (.bool true) := by
  unfold passLeft
  rw [h1, h2]
  cases t
  · have := (h.still rfl).1
    subst this
    simp
  · have := h.less rfl
    simp only; omega
end Go.Proofs.YtmnjjjhmnhfapaaGreatDoor
namespace Go.Proofs.YtmnjjjhmnhfapaaGreatDoor
open Go.RowKit

set_option maxRecDepth 100000 in
set_option maxHeartbeats 4000000 in
theorem RefNormal_new (vl : Value) (st : Int) (sh : Bool) (s : ByteArray) (lns : List Tm.Ln) (w : World) (ht : TableRd w vl lns) (hfit : ∀ o ∈ lns, Tm.Fit o) (hl : lns.length ≤ 1000000) (hends : ∀ r, Tm.ends lns 4 r = true) (hs : s.size ≤ 64) :
    Calls Tryz.prog 42 #[.agg #[vl, .int .i64 st, .bool sh], .string s] w fun e w' => ∃ v, e = .returned v ∧ Reads w' v 1 (normOf lns s).length (ints (normOf lns s)) ∧ Below w.heap.size w w' ∧ ∀ g, v.ownBlock = some g → w.heap.size ≤ g := by
  obtain ⟨a, cap, rfl⟩ := ht.shape
  have HT := hide ht
  have HF := hide hfit
  have HL3 : Hid (∀ o ∈ lns, o.runes.length ≤ 3) := fun o ho => (HF.out o ho).few
  have HNE : Hid (∀ o ∈ lns, o.runes ≠ []) := fun o ho => (HF.out o ho).some
  obtain ⟨E, hE⟩ : ∃ E, (runesOf s).flatMap (Tm.expand lns 4) = E := ⟨_, rfl⟩
  have HN : Hid (normOf lns s = Tm.ord (Tm.classOf lns) E) := by unfold Hid normOf; rw [hE]
  have hEl : E.length ≤ 1024 := by
    have h1 := Tm.flat_short (lns := lns) (parts_short HL3.out) 4 (runesOf s)
    have h2 := runesFrom_short (s := s) (f := s.size) (pos := 0)
    have h3 : (runesOf s).length ≤ 64 := by unfold runesOf; omega
    rw [hE] at h1
    have h4 := Nat.mul_le_mul_right (2 ^ 4) h3
    omega
  have HS0 : Hid (stepsSt lns E (runesOf s) true) := ⟨4, Nat.le_refl _, by rw [List.all_eq_true]; exact fun x _ => hends x, hE⟩
  clear ht hfit hends hE
  go_enter Tryz.func42, Tryz.ntmps42
  go_wp2_with fail
  refine (Runes_any s _ (by omega)).mono ?_
  rintro e w1 ⟨v1, rfl, hown1, hb1⟩
  have HO1 : Hid (w1.ownsRow (w.heap.size + 1) 3 1 v1 (runesOf s).length (ints (runesOf s))) := by unfold Hid; simpa using hown1
  have HB1 : Hid (Below (w.heap.size + 1) (w.alloc (.cells #[.slice a lns.length cap, .int .i64 st, .bool sh] 29)) w1) := by unfold Hid; simpa using hb1
  clear hown1 hb1
  go_wp2
  go_loopw [5, 6] (fun v y wr => ∃ (l : List Int) (t : Bool), y = .bool t ∧ wr.ownsRow (w.heap.size + 1) 3 1 v l.length (ints l) ∧ Below (w.heap.size + 1) (w.alloc (.cells #[.slice a lns.length cap, .int .i64 st, .bool sh] 29)) wr ∧ stepsSt lns E l t) (fun v y wr => stepsLeft lns wr v y)
  case atStart => exact ⟨runesOf s, true, rfl, HO1.out, HB1.out, HS0.out⟩
  case round =>
    obtain ⟨l, t, rfl, hown, hb, hst⟩ := hrel
    have hb0 : Below w.heap.size w wr := ((Below.refl _ _).alloc (Nat.le_refl _) _).trans (hb.mono (by omega))
    have HB := hide hb
    have HB0 := hide hb0
    have b0 : wr.cell? ⟨w.heap.size, 0, none⟩ = some (.slice a lns.length cap) := by rw [hb.cell (by simp)]; simp
    have b1 : wr.cell? ⟨w.heap.size, 1, none⟩ = some (.int .i64 st) := by rw [hb.cell (by simp)]; simp
    have b2 : wr.cell? ⟨w.heap.size, 2, none⟩ = some (.bool sh) := by rw [hb.cell (by simp)]; simp
    have hzr : w.heap.size + 1 ≤ wr.heap.size := by have := hb.size; simpa using this
    have HO := hide hown
    have HST := hide hst
    have hlen := hst.short
    clear hb hb0 hown hst
    cases t
    · have he : l = E := HST.out
      subst he
      obtain ⟨ao, capo, rfl⟩ := (Reads.of_owns HO.out).shape
      have hcapo := (Reads.of_owns HO.out).fits
      have HH0 := hide (Held.of_owns HO.out)
      have HNEW : Hid (∀ k, ∀ g, (Value.slice ao k capo).ownBlock = some g → w.heap.size ≤ g) := fun k g hg => by
        have := (HO.out.lt g (by cases ao with
          | none => simp [Value.ownBlock] at hg
          | some ad => simpa [Value.ownBlock] using hg)).1
        omega
      obtain ⟨n, hn⟩ : ∃ n, l.length = n := ⟨_, rfl⟩
      rw [hn] at hcapo hlen
      have HCAP : Hid (n ≤ capo ∧ capo ≤ maxLen) := hcapo.2
      have hcap2 : n ≤ capo := hcapo.2.1
      have hn9 : n ≤ 1024 := by omega
      clear HO HST hcapo
      rw [hn]
      go_wp2
      go_loopw [7] (fun y wr => ∃ (t : Bool) (xs : List Int), y = .bool t ∧ xs.length = n ∧ Held wr (w.heap.size + 1) ao xs ∧ Below (w.heap.size + 1) (w.alloc (.cells #[.slice a lns.length cap, .int .i64 st, .bool sh] 29)) wr ∧ Tm.ord (Tm.classOf lns) xs = Tm.ord (Tm.classOf lns) l ∧ (t = false → Tm.Calm (Tm.classOf lns) xs)) (fun y wr => passLeft (Tm.classOf lns) wr (.slice ao n capo) y)
      case atStart => exact ⟨true, l, rfl, hn, HH0.out, HB.out, rfl, fun h => by cases h⟩
      case round =>
        obtain ⟨t, xs, rfl, hxn, hheld, hb, hord, hcalm⟩ := hrel
        have HH := hide hheld
        have HB2 := hide hb
        have HORD := hide hord
        have HCALM := hide hcalm
        have HRD : Hid (Reads wr (.slice ao n capo) 1 xs.length (ints xs)) := by
          have h := HH.out.reads (cap := capo) (by rw [hxn]; exact HCAP.out.1) HCAP.out.2
          rw [hxn] at h ⊢; exact h
        have HLX := hide (listOf_eq HRD.out)
        clear hheld hb hord hcalm
        cases t
        · have HFIN : Hid (Reads wr (.slice ao n capo) 1 (normOf lns s).length (ints (normOf lns s))) := by
            unfold Hid
            rw [HN.out, ← HORD.out, Tm.ord_calm (HCALM.out rfl)]
            exact HRD.out
          have HBF : Hid (Below w.heap.size w wr) := ((Below.refl _ _).alloc (Nat.le_refl _) _).trans (HB2.out.mono (by omega))
          go_wp2
          go_ret
          exact ⟨_, rfl, HFIN.out, HBF.out, HNEW.out _⟩
        · have HP0 : Hid (Pass (Tm.classOf lns) l xs xs false 0) := ⟨rfl, HORD.out, fun _ => ⟨rfl, fun m hm => by omega⟩, fun h => by cases h⟩
          clear b0 b1 b2 hzr
          go_wp2
          go_loopw [7, 8] (fun y i wr => ∃ (t : Bool) (j : Nat) (ys : List Int), y = .bool t ∧ i = .int .i64 j ∧ j ≤ n ∧ Held wr (w.heap.size + 1) ao ys ∧ Below (w.heap.size + 1) (w.alloc (.cells #[.slice a lns.length cap, .int .i64 st, .bool sh] 29)) wr ∧ Pass (Tm.classOf lns) l xs ys t j) (fun _ i _ => n - (intOf i).toNat)
          case atStart => exact ⟨false, 0, xs, rfl, rfl, Nat.zero_le _, HH.out, HB2.out, HP0.out⟩
          case round =>
            obtain ⟨t, j, ys, rfl, rfl, hjn, hheld, hb, hpass⟩ := hrel
            have hyn : ys.length = n := hpass.len.trans hxn
            have HPASS := hide hpass
            have HHy := hide hheld
            have HBy := hide hb
            have HB0y : Hid (Below w.heap.size w wr) := ((Below.refl _ _).alloc (Nat.le_refl _) _).trans (hb.mono (by omega))
            have b0 : wr.cell? ⟨w.heap.size, 0, none⟩ = some (.slice a lns.length cap) := by rw [hb.cell (by simp)]; simp
            have b1 : wr.cell? ⟨w.heap.size, 1, none⟩ = some (.int .i64 st) := by rw [hb.cell (by simp)]; simp
            have b2 : wr.cell? ⟨w.heap.size, 2, none⟩ = some (.bool sh) := by rw [hb.cell (by simp)]; simp
            have hzr : w.heap.size + 1 ≤ wr.heap.size := by have := hb.size; simpa using this
            clear hpass hb
            by_cases hlt : j + 1 < n
            · have hj2 : j + 1 < ys.length := by omega
              rcases hheld with ⟨h0, _⟩ | ⟨g, rfl, hg1, hg2, hI⟩
              · rw [h0] at hyn; simp at hyn; omega
              have HI := hide hI
              have cx := hI.at (j := j) (by omega)
              have cy := hI.at (j := j + 1) hj2
              rw [Nat.zero_add] at cx cy
              obtain ⟨cx, fx⟩ := cx
              obtain ⟨cy, fy⟩ := cy
              have HON : Hid (Tm.wrong (Tm.classOf lns) ys[j] ys[j + 1] = false → Pass (Tm.classOf lns) l xs ys t (j + 1)) := fun h => HPASS.out.on hj2 h
              have HSW : Hid (Tm.wrong (Tm.classOf lns) ys[j] ys[j + 1] = true → Pass (Tm.classOf lns) l xs (ys.take j ++ ys[j + 1] :: ([] ++ ys[j] :: ys.drop (j + 2))) true (j + 1)) := fun h => HPASS.out.swap hj2 h
              have HI2 : Hid (Ints wr g 0 (ys.take j ++ ys[j] :: ([] ++ ys[j + 1] :: ys.drop (j + 2)))) := by unfold Hid; rw [← split_two hj2]; exact HI.out
              have HLJ : Hid (j = (ys.take j).length) := by unfold Hid; simp; omega
              have i1 : (0 : Int) ≤ (j : Int) := by omega
              have i2 : (j : Int) < (n : Int) := by omega
              have i3 : (0 : Int) ≤ (j : Int) + 1 := by omega
              have i4 : (j : Int) + 1 < (n : Int) := by omega
              generalize ys[j] = x at *
              generalize ys[j + 1] = y at *
              clear hI
              go_upto_region 11 with fail
              go_cut [9] from 22 to 34 (fun t wx => t = .int .i64 (Tm.classOf lns x) ∧ Below wr.heap.size wr wx)
              case first =>
                go_region_with (go_at_call 88; refine (Class_any _ st sh x lns _ (by exact (HT.out.below HB0y.out).below (Below.refl _ _).drew) HF.out hl).mono ?_; rintro e w2 ⟨rfl, hbp⟩)
                all_goals (go_wp2_with fail; go_meet; exact ⟨rfl, ((Below.refl _ _).drew).trans hbp⟩)
              case rest =>
                obtain ⟨rfl, hbp1⟩ := hcut
                have HBP1 := hide hbp1
                have hz1 := hbp1.size
                have b0' : wc.cell? ⟨w.heap.size, 0, none⟩ = some (.slice a lns.length cap) := by rw [hbp1.cell (by simp only; omega)]; exact b0
                have b1' : wc.cell? ⟨w.heap.size, 1, none⟩ = some (.int .i64 st) := by rw [hbp1.cell (by simp only; omega)]; exact b1
                have b2' : wc.cell? ⟨w.heap.size, 2, none⟩ = some (.bool sh) := by rw [hbp1.cell (by simp only; omega)]; exact b2
                have cx' : wc.cell? ⟨g, j, none⟩ = some (.int .i64 x) := by rw [hbp1.cell (by simp only; omega)]; exact cx
                have cy' : wc.cell? ⟨g, j + 1, none⟩ = some (.int .i64 y) := by rw [hbp1.cell (by simp only; omega)]; exact cy
                have HTC : Hid (TableRd wc (.slice a lns.length cap) lns) := (HT.out.below HB0y.out).below HBP1.out
                clear hbp1
                go_upto_region 12 with fail
                go_cut [10] from 22 to 41 (fun t wx => t = .int .i64 (Tm.classOf lns y) ∧ Below wr.heap.size wr wx)
                case first =>
                  have i5 : IntKind.i64.wrap ((j : Int) + 1) = (j : Int) + 1 := by rw [IntKind.wrap_i64]; omega
                  go_region_with (go_at_call 88; refine (Class_any _ st sh y lns _ (by exact HTC.out.below (Below.refl _ _).drew) HF.out hl).mono ?_; rintro e w2 ⟨rfl, hbp⟩)
                  all_goals (go_wp2_with fail; go_meet; exact ⟨rfl, HBP1.out.trans ((((Below.refl _ _).drew).trans hbp).mono hz1)⟩)
                case rest =>
                  obtain ⟨rfl, hbp2⟩ := hcut
                  have HBP2 := hide hbp2
                  have hz2 := hbp2.size
                  have HIC : Hid (Ints wc g 0 (ys.take j ++ x :: ([] ++ y :: ys.drop (j + 2)))) := HI2.out.below HBP2.out hg2
                  have HBC : Hid (Below (w.heap.size + 1) (w.alloc (.cells #[.slice a lns.length cap, .int .i64 st, .bool sh] 29)) wc) := HBy.out.trans (HBP2.out.mono hzr)
                  have HHC : Hid (Held wc (w.heap.size + 1) (some ⟨g, 0, none⟩) ys) := HHy.out.below HBP2.out (Nat.le_refl _)
                  have cx2 : wc.cell? ⟨g, j, none⟩ = some (.int .i64 x) := by rw [hbp2.cell (by simp only; omega)]; exact cx
                  have cy2 : wc.cell? ⟨g, j + 1, none⟩ = some (.int .i64 y) := by rw [hbp2.cell (by simp only; omega)]; exact cy
                  have fx2 : wc.frozen? ⟨g, j, none⟩ = false := by rw [World.frozen?_of_block (hbp2.block g hg2)]; exact fx
                  have fy2 : wc.frozen? ⟨g, j + 1, none⟩ = false := by rw [World.frozen?_of_block (hbp2.block g hg2)]; exact fy
                  have hgc : g < wc.heap.size := by omega
                  clear hbp2 b0 b1 b2 b0' b1' b2' cx cy cx' cy' fx fy
                  have HW : Hid (Tm.wrong (Tm.classOf lns) x y = decide (Tm.classOf lns y ≠ 0 ∧ Tm.classOf lns y < Tm.classOf lns x)) := rfl
                  generalize Tm.classOf lns x = kx at *
                  generalize Tm.classOf lns y = ky at *
                  by_cases hgt : ky < kx
                  · cases hz : (ky != 0)
                    · have HQ := hide (HON.out (by rw [HW.out]; simp at hz; simp [hz]))
                      go_wp2
                      go_roundw
                      case rel => exact ⟨t, j + 1, ys, rfl, by go_num, by omega, HHC.out, HBC.out, HQ.out⟩
                      case measure => simp [intOf]; omega
                    · have HQ := hide (HSW.out (by rw [HW.out]; simp at hz; simp [hz, hgt]))
                      have HM := hide (HIC.out.swap HLJ.out (j := j + 1) (by rw [← HLJ.out]; rfl))
                      go_wp2
                      go_roundw
                      case rel =>
                        refine ⟨true, j + 1, _, rfl, by go_num, by omega, .inr ⟨g, rfl, hg1, by simpa using hgc, ?_⟩, (HBC.out.setCell (p := ⟨g, j, none⟩) hg1 _).setCell (p := ⟨g, j + 1, none⟩) hg1 _, HQ.out⟩
                        have h := HM.out
                        rw [Nat.zero_add, Nat.zero_add] at h
                        exact h
                      case measure => simp [intOf]; omega
                  · have HQ := hide (HON.out (by rw [HW.out]; simp; omega))
                    go_wp2
                    go_roundw
                    case rel => exact ⟨t, j + 1, ys, rfl, by go_num, by omega, HHC.out, HBC.out, HQ.out⟩
                    case measure => simp [intOf]; omega
            · have HRY : Hid (Reads wr (.slice ao n capo) 1 ys.length (ints ys)) := by
                have h := HHy.out.reads (cap := capo) (by rw [hyn]; exact HCAP.out.1) HCAP.out.2
                rw [hyn] at h ⊢; exact h
              have HLEFT := hide (HPASS.out.left HLX.out (listOf_eq HRY.out))
              have hj9 : (n : Int) ≤ (j : Int) + 1 := by omega
              clear hheld
              go_wp2
              go_roundw
              case rel => exact ⟨t, ys, rfl, hyn, HHy.out, HBy.out, HPASS.out.same, fun h => by subst h; exact HPASS.out.calm (by omega)⟩
              case measure => exact HLEFT.out
    · go_wp2_with fail
      refine (steps_any _ st sh _ l lns _ (HT.out.below HB0.out) (Reads.of_owns HO.out) hl (by omega) HL3.out HNE.out).mono ?_
      rintro e w2 ⟨v2, rfl, hown2, hb2⟩
      have HO2 : Hid (w2.ownsRow (w.heap.size + 1) 3 1 v2 (Tm.stepAll lns l).length (ints (Tm.stepAll lns l))) := owns_mono hown2 (by omega)
      have HB2 : Hid (Below (w.heap.size + 1) (w.alloc (.cells #[.slice a lns.length cap, .int .i64 st, .bool sh] 29)) w2) := HB.out.trans (hb2.mono (by omega))
      have HGO := hide HST.out.go
      have HLESS := hide (HST.out.less (listOf_eq (Reads.of_owns HO.out)) (listOf_eq (Reads.of_owns HO2.out)))
      clear hown2 hb2
      generalize Tm.hasParts lns l = t2 at *
      go_wp2
      go_roundw
      case rel => exact ⟨_, t2, rfl, HO2.out, HB2.out, HGO.out⟩
      case measure => exact HLESS.out
theorem RefNormal_any (vl : Value) (st : Int) (sh : Bool) (s : ByteArray) (lns : List Tm.Ln) (w : World) (ht : TableRd w vl lns) (hfit : ∀ o ∈ lns, Tm.Fit o) (hl : lns.length ≤ 1000000) (hends : ∀ r, Tm.ends lns 4 r = true) (hs : s.size ≤ 64) :
    Calls Tryz.prog 42 #[.agg #[vl, .int .i64 st, .bool sh], .string s] w fun e w' => ∃ v, e = .returned v ∧ Reads w' v 1 (normOf lns s).length (ints (normOf lns s)) ∧ Below w.heap.size w w' :=
  (RefNormal_new vl st sh s lns w ht hfit hl hends hs).mono fun _ _ ⟨v, h1, h2, h3, _⟩ => ⟨v, h1, h2, h3⟩
end Go.Proofs.YtmnjjjhmnhfapaaGreatDoor
