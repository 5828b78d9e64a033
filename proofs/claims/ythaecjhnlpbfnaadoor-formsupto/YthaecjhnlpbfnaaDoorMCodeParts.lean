import Derived.Test.YthaecjhnlpbfnaaDoorMRefClass
import Derived.Test.YthaecjhnlpbfnaaDoorMSortStable
namespace Go.Proofs.YthaecjhnlpbfnaaDoor
open Go.RowKit

/-- The nodes lie below a block number, and are read there as they were. -/
structure NB (lns : List Tm.Ln) (bm base : Nat) (w : World) : Prop where
  base : ∃ w0, NodesRd w0 bm lns ∧ Below w0.heap.size w0 w ∧ w0.heap.size ≤ base
theorem NB.below {lns : List Tm.Ln} {bm base : Nat} {w w' : World} (h : NB lns bm base w) (hb : Below base w w') : NB lns bm base w' := by
  obtain ⟨w0, h1, h2, h3⟩ := h.base
  exact ⟨w0, h1, h2.trans (hb.mono h3), h3⟩
theorem NB.rd {lns : List Tm.Ln} {bm base : Nat} {w : World} (h : NB lns bm base w) : NodesRd w bm lns := by
  obtain ⟨w0, h1, h2, h3⟩ := h.base
  exact h1.below h2

/-- What appendParts answers. -/
def partsAns (base : Nat) (ys : List Int) (w : World) (e : Ending) (w' : World) : Prop := ∃ v', e = .returned v' ∧ w'.ownsRow base 3 1 v' ys.length (ints ys) ∧ Below base w w'
theorem ints_snoc (l : List Int) (x : Int) : ints (l ++ [x]) = ints l ++ [.int .i64 x] := by simp [ints]

set_option maxRecDepth 100000 in
set_option maxHeartbeats 2000000 in
theorem appendParts_leaf (lns : List Tm.Ln) (bm base : Nat) (r : Int) (v : Value) (xs : List Int) (w : World) (h0 : (Tm.parts lns r).length = 0) (hr : 0 ≤ r ∧ r ≤ 1114111) (hN : NB lns bm base w) (hown : w.ownsRow base 3 1 v xs.length (ints xs)) (hbase : base ≤ w.heap.size) (hlen : xs.length + 1 ≤ 100000) :
    Calls Tryd.prog 65 #[.map (some bm), v, .int .i64 r] w fun e w' => partsAns base (xs ++ [r]) w e w' := by
  obtain ⟨f, vp, vs, hmap, hfv, hp, hs⟩ := hN.rd.at hr.1
  obtain ⟨i0, hi, hz0, hz1, hz2⟩ := info_parts Tryd.infoInt
  obtain ⟨av, cv, rfl⟩ := (Reads.of_owns hown).shape
  have HMAP := hide hmap
  have HOWN := hide hown
  obtain ⟨pa, pc, rfl⟩ := hp.shape
  obtain ⟨sa, sc, rfl⟩ := hs.shape
  have HP := hide hp
  generalize hpl : (Tm.parts lns r).length = pl at *
  clear hmap hp hs hown hN hpl
  subst h0
  go_enter Tryd.func65, Tryd.ntmps65
  go_wp2_with (at_lookup; go_must (refine wpList_look rfl _ _ rfl bm lns.length f rfl HMAP.out r rfl (wf_rune hr) _ hfv ?_))
  have hbw : Below w.heap.size w (w.alloc (.cells #[.int .i64 (Tm.classOf lns r), .slice pa 0 pc, .slice sa (Tm.seqsAt lns r).length sc] 141)) := (Below.refl _ _).alloc (Nat.le_refl _) _
  refine (hasParts_any _ 0 (ints (Tm.parts lns r)) _ (HP.out.below hbw HP.out.2.1)).mono ?_
  rintro e w1 ⟨rfl, hb1⟩
  have HB1 : Hid (Below w.heap.size w w1) := hbw.trans (hb1.mono (by simp))
  have hs1 := HB1.out.size
  have HO1 := hide (owns_below HOWN.out HB1.out)
  clear hbw hb1
  go_wp2_with (at_builtin; go_must (refine wpList_append_own _ rfl _ _ 53 rfl base 3 i0 (.int .i64 0) 1 8 Tryd.underlying53 hi hz0 hz1 hz2 rfl (by decide) _ _ _ rfl (HO1.out.alloc _) ⟨w1.heap.size, 0, none⟩ 1 1 [.int .i64 r] rfl rfl news_one (by intro u hu; simp at hu; subst hu; rfl) (by unfold maxLen; omega) (by omega) (by simp; omega) ?_))
  intro v' w2 hown2 hg2 _
  have HB2 : Hid (Below base w w2) := ((HB1.out.mono hbase).alloc (by omega) _).grown hg2 (by simp; omega) (fun j hj => (HO1.out.lt j hj).1)
  have HO2 : Hid (w2.ownsRow base 3 1 v' (xs ++ [r]).length (ints (xs ++ [r]))) := by unfold Hid; rw [ints_snoc, List.length_append]; exact hown2
  clear hown2 hg2
  go_wp2
  go_ret
  exact ⟨v', rfl, HO2.out, HB2.out⟩

set_option maxRecDepth 100000 in
set_option maxHeartbeats 2000000 in
theorem appendParts_any (lns : List Tm.Ln) (hfit : ∀ o ∈ lns, Tm.Fit o) (bm base : Nat) : ∀ (n : Nat) (r : Int) (v : Value) (xs : List Int) (w : World), Tm.ends lns n r = true → 0 ≤ r ∧ r ≤ 1114111 → NB lns bm base w → w.ownsRow base 3 1 v xs.length (ints xs) → base ≤ w.heap.size → xs.length + 2 ^ n ≤ 100000 →
    Calls Tryd.prog 65 #[.map (some bm), v, .int .i64 r] w fun e w' => partsAns base (xs ++ Tm.expand lns n r) w e w' := by
  intro n
  induction n with
  | zero =>
    intro r v xs w hends hr hN hown hbase hlen
    exact appendParts_leaf lns bm base r v xs w (by simpa [Tm.ends] using hends) hr hN hown hbase (by simpa using hlen)
  | succ n ih =>
    intro r v xs w hends hr hN hown hbase hlen
    by_cases h0 : (Tm.parts lns r).length = 0
    · rw [Tm.expand_leaf h0]
      exact appendParts_leaf lns bm base r v xs w h0 hr hN hown hbase (by have := Nat.one_le_two_pow (n := n + 1); omega)
    have hall : (Tm.parts lns r).all (Tm.ends lns n) = true := by
      rw [Tm.ends] at hends
      simpa [h0] using hends
    have hpf := parts_few hfit r
    have HEX := hide (Tm.expand_part (lns := lns) (n := n) h0)
    have HSH := hide (Tm.flat_short (lns := lns) (fun q => parts_few hfit q) n)
    have HALL := hide hall
    have HRG := hide (parts_range hfit r)
    have HIH := hide ih
    obtain ⟨w0, hw1, hw2, hw3⟩ := hN.base
    obtain ⟨f, vp, vs, hmap0, hfv, hp0, hs0⟩ := hw1.at hr.1
    have hmap : MapIs w bm lns.length f := hmap0.same (hw2.block bm hmap0.lt)
    have hp := hp0.below hw2 hp0.2.1
    have hs := hs0.below hw2
    have HMAP := hide hmap
    have HW2 := hide hw2
    have HP0 := hide hp0
    have HOWN := hide hown
    have HN := hide hN
    obtain ⟨pa, pc, rfl⟩ := hp.shape
    obtain ⟨sa, sc, rfl⟩ := hs.shape
    have HP := hide hp
    obtain ⟨pl, hpl⟩ : ∃ pl, (Tm.parts lns r).length = pl := ⟨_, rfl⟩
    rw [hpl] at hfv HP HP0 h0 hpf
    have HPL := hide hpl
    have hpow : 2 ^ (n + 1) = 2 ^ n + 2 ^ n := by rw [Nat.pow_succ]; omega
    have HLEN : Hid (xs.length + 2 ^ n + 2 ^ n ≤ 100000) := by unfold Hid; omega
    have hgt : decide (0 < pl) = true := by simp; omega
    clear hmap hp hs hown hN hpl ih hall hends hlen hpow hmap0 hp0 hs0 hw1 hw2
    go_enter Tryd.func65, Tryd.ntmps65
    go_wp2_with (at_lookup; go_must (refine wpList_look rfl _ _ rfl bm lns.length f rfl HMAP.out r rfl (wf_rune hr) _ hfv ?_))
    have hbw : Below w.heap.size w (w.alloc (.cells #[.int .i64 (Tm.classOf lns r), .slice pa pl pc, .slice sa (Tm.seqsAt lns r).length sc] 141)) := (Below.refl _ _).alloc (Nat.le_refl _) _
    have hnlt : w.heap.size < (w.alloc (.cells #[.int .i64 (Tm.classOf lns r), .slice pa pl pc, .slice sa (Tm.seqsAt lns r).length sc] 141)).heap.size := by simp
    refine (hasParts_any _ pl (ints (Tm.parts lns r)) _ (HP.out.below hbw HP.out.2.1)).mono ?_
    rintro e w1 ⟨rfl, hb1⟩
    have HB1 : Hid (Below w.heap.size w w1) := hbw.trans (hb1.mono (by simp))
    have hs1 := HB1.out.size
    have n1 : w1.cell? ⟨w.heap.size, 1, none⟩ = some (.slice pa pl pc) := by rw [hb1.cell (p := ⟨w.heap.size, 1, none⟩) hnlt, cell_new rfl]; rfl
    have HO1 := hide (owns_below HOWN.out HB1.out)
    have HN1 := hide (HN.out.below (HB1.out.mono hbase))
    have HP1 := hide (HP.out.below HB1.out HP.out.2.1)
    clear hbw hb1 hnlt
    go_wp2_with fail
    go_loopw [1, 25] (fun vv i wr => ∃ (k : Nat) (ys : List Int), k ≤ pl ∧ i = .int .i64 k ∧ ys = xs ++ ((Tm.parts lns r).take k).flatMap (Tm.expand lns n) ∧ wr.ownsRow base 3 1 vv ys.length (ints ys) ∧ Below base w1 wr) (fun _ i _ => pl - (intOf i).toNat)
    case atStart => exact ⟨0, xs, Nat.zero_le _, rfl, by simp, HO1.out, Below.refl _ _⟩
    case round =>
      obtain ⟨k, ys, hk, rfl, hys, hown2, hb2⟩ := hrel
      have HYS := hide hys
      have HO2 := hide hown2
      have HB2 := hide hb2
      have hz2 := hb2.size
      clear hys hown2 hb2
      by_cases hlt : k < pl
      · have hlt' : k < (Tm.parts lns r).length := by rw [HPL.out]; exact hlt
        have hall2 : Below w0.heap.size w0 wr := HW2.out.trans (((HB1.out.mono hbase).trans HB2.out).mono hw3)
        obtain ⟨g, off, rfl, hg, hc⟩ := Reads.at (k := k) (by rw [HPL.out]; exact HP0.out.below hall2 HP0.out.2.1) hlt'
        have hx := HRG.out _ (List.getElem_mem hlt')
        have hex := List.all_eq_true.1 HALL.out _ (List.getElem_mem hlt')
        have HSN := hide (Tm.flat_snoc (f := Tm.expand lns n) hlt')
        have hyl : ys.length + 2 ^ n ≤ 100000 := by
          have h1 := HSH.out ((Tm.parts lns r).take k)
          have h2 : ((Tm.parts lns r).take k).length ≤ 1 := by rw [List.length_take]; omega
          have h3 := Nat.mul_le_mul_right (2 ^ n) h2
          have h4 := HLEN.out
          rw [HYS.out, List.length_append]
          omega
        have HNr := hide (HN1.out.below HB2.out)
        have hcell : wr.cell? ⟨g, off + k, none⟩ = some (.int .i64 (Tm.parts lns r)[k]) := hc
        generalize (Tm.parts lns r)[k] = x at *
        clear hall2 hc
        go_wp2_with fail
        refine (HIH.out x _ ys wr hex hx HNr.out HO2.out (by omega) hyl).mono ?_
        rintro e w3 ⟨v3, rfl, hown3, hb3⟩
        have HO3 := hide hown3
        have HB3 : Hid (Below base w1 w3) := HB2.out.trans hb3
        have HYS3 : Hid (ys ++ Tm.expand lns n x = xs ++ ((Tm.parts lns r).take (k + 1)).flatMap (Tm.expand lns n)) := by unfold Hid; rw [HSN.out, ← List.append_assoc, ← HYS.out]
        clear hown3 hb3
        go_wp2
        go_roundw
        case rel => exact ⟨k + 1, ys ++ Tm.expand lns n x, by omega, by go_num, HYS3.out, HO3.out, HB3.out⟩
        case measure => simp [intOf]; omega
      · have HF : Hid (ys = xs ++ Tm.expand lns (n + 1) r) := by unfold Hid; rw [HYS.out, HEX.out, List.take_of_length_le (by rw [HPL.out]; omega)]
        have HBF : Hid (Below base w wr) := (HB1.out.mono hbase).trans HB2.out
        obtain ⟨a3, c3, rfl⟩ := (Reads.of_owns HO2.out).shape
        go_wp2
        go_ret
        refine ⟨_, rfl, ?_, HBF.out⟩
        rw [← HF.out]
        exact HO2.out
end Go.Proofs.YthaecjhnlpbfnaaDoor
