import Derived.Test.YtmnjjjhmnhfapaaGreatDoorMKpFrozen
namespace Go.Proofs.YtmnjjjhmnhfapaaGreatDoor
open Go.RowKit

theorem told_in {c : ByteArray → ByteArray → Int} {fs : List Tm.Fact} {es : Tm.Ents} (h : Tm.FactsOk c fs es) (lo hi : ByteArray) : ∀ f ∈ fs, f.2.2 = true → Tm.within c lo hi (f.1, f.2.1) = true → (f.1, f.2.1) ∈ Tm.ixScan c es lo hi := by
  intro f hf h1 h2
  refine List.mem_filter.2 ⟨(h.same _ _).2 ?_, h2⟩
  have : (f.1, f.2.1, true) = f := by rw [← h1]
  rw [this]; exact hf

set_option maxRecDepth 100000 in
set_option maxHeartbeats 8000000 in
theorem Frozen_any (n st : Int) (sh : Bool) (ls : List Tm.Ents) (vp : Value) (last : Tm.Ents) (vl : Value) (rel : Int) (w : World) (hn : -9223372036854775808 ≤ n ∧ n ≤ 9223372036854775807) (hst : -9223372036854775808 ≤ st ∧ st ≤ 9223372036854775807) (hp : PartsRd w vp ls) (hl : EntsRd w vl last) :
    Calls Tryz.prog 7 #[.int .i64 n, .int .i64 st, .bool sh, vp, vl, .int .i64 rel] w fun e w' => e = .returned (.bool true) ∧ Below w.heap.size w w' := by
  obtain ⟨i0, hi0, hz0, hzs, hzb⟩ := info_parts Tryz.infoEnts
  have HN := hide hn
  have HST := hide hst
  obtain ⟨a, cap, rfl, hp⟩ := hp
  obtain ⟨a', cap', rfl, hl⟩ := hl
  have HL := hide hl
  obtain ⟨K, hK⟩ : ∃ K, ls.length = K := ⟨_, rfl⟩
  have HKK := hide hK
  have HP : Hid (0 < K → ∃ vals : List Value, vals.length = K ∧ Reads w (.slice a K cap) 1 K vals ∧ ∀ i (hi : i < ls.length) (hv : i < vals.length), EntsRd w vals[i] ls[i]) := fun h => by
    obtain ⟨vals, h1, h2, h3⟩ := hp (by omega)
    refine ⟨vals, by omega, ?_, h3⟩
    rw [hK] at h2
    exact h2
  rw [hK]
  have hKb : K ≤ 9223372036854775807 := by
    rw [← hK]
    by_cases h0 : 0 < ls.length
    · obtain ⟨vals, _, hr, _⟩ := hp h0
      have := hr.fits
      unfold maxLen at this
      omega
    · omega
  clear hn hst hp hl hK
  go_enter Tryz.func7, Tryz.ntmps7
  go_wp2_with fail
  refine (begin_any n st sh _ HN.out HST.out).mono ?_
  rintro e w1 ⟨X, F0, S0, bb, bx, bc, bm, t, lns, s0, rfl, hB, ⟨hn0, hh0, hg0⟩, hX, hb1⟩
  have hT := told_cmpOf lns t sh
  have HFZ0 : Hid (Fz w w1 X bb bx bc bm t sh lns 0 0 (.slice none 0 0) F0 S0 (.slice none 0 0) [] s0) := by
    refine ⟨hB, by rw [hn0]; exact Tm.FactsOk.nil _, by simp, by rw [hh0]; rfl, hg0, fun i hi => (by rw [hh0] at hi; simp at hi), hb1, ⟨[], by rw [hh0]; rfl, ?_, fun g e => (by cases e), fun i hi => (by rw [hh0] at hi; simp at hi)⟩⟩
    rw [hh0]
    exact World.ownsRow_nil _ _ _ _
  clear hB hn0 hh0 hg0 hb1
  go_wp2_with fail
  go_loopw [14, 15] (fun vw i wr => ∃ j : Nat, j ≤ 6 ∧ j ≤ K ∧ i = .int .i64 j ∧ (∃ aw cw, vw = .slice aw j cw) ∧ ∃ F S vf fs s, Hid (Fz w wr X bb bx bc bm t sh lns j (100 * j) vw F S vf fs s)) (fun _ i _ => 6 - (intOf i).toNat)
  case atStart => exact ⟨0, Nat.zero_le _, Nat.zero_le _, rfl, ⟨_, _, rfl⟩, F0, S0, _, [], s0, HFZ0.out⟩
  case round =>
    obtain ⟨j, hj6, hjK, rfl, ⟨aw, cw, rfl⟩, F, S, vf, fs, s, HFZ⟩ := hrel
    clear HFZ0
    by_cases hgo : j < K ∧ j < 6
    · obtain ⟨hjlt, hj⟩ := hgo
      · obtain ⟨vals, hvl, hrv, hev⟩ := HP.out (by omega)
        have hjl : j < ls.length := by rw [HKK.out]; exact hjlt
        have hjv : j < vals.length := by rw [hvl]; exact hjlt
        obtain ⟨g, off, cap9, he9, hg9, hc9⟩ := hrv.form (by omega)
        cases he9
        have x0 := hc9 j _ (List.getElem?_eq_getElem hjv)
        obtain ⟨ea, ec, hee, her⟩ := hev j hjl hjv
        rw [hee] at x0
        have x0' : wr.cell? ⟨g, off + j, none⟩ = some (.slice ea ls[j].length ec) := (HFZ.out.below.cell (p := ⟨g, off + j, none⟩) hg9).trans x0
        have HE : Hid (EntsRd wr (.slice ea ls[j].length ec) ls[j]) := ⟨ea, ec, rfl, fun h => by
          have := her h
          rw [hee] at this
          exact this.below HFZ.out.below this.2.1⟩
        have HVE : Hid (0 < ls[j].length → ∀ g, (Value.slice ea ls[j].length ec).ownBlock = some g → ¬ F g) := fun h0 g hg hF => by
          have h1 := her h0
          rw [hee] at h1
          have h2 := h1.2.1 g hg
          have h3 := (HFZ.out.bk.from_ g hF).1
          omega
        have hfl := HFZ.out.few
        have i1 : (0 : Int) ≤ (j : Int) := by omega
        have i2 : (j : Int) < (K : Int) := by omega
        have i3 : (j : Int) < 6 := by omega
        generalize ls[j] = lj at *
        clear x0 hev hrv hc9 her hee
        go_wp2_with fail
        refine (keepAll_any lj _ _ HFZ.out.bk.refl HFZ.out.facts (by omega) HE.out HVE.out).mono ?_
        rintro e w2 ⟨rfl, fs2, hst2, hfo2, hlen2⟩
        obtain ⟨F2, S2, vf2, hfz2⟩ := HFZ.out.played hX hst2 hfo2 hlen2
        have HFZ2 := hide hfz2
        have c1 := hfz2.bk.c1
        have hbb := (hfz2.bk.from_ bb hfz2.bk.own).2
        clear hst2 hfo2 hfz2 x0'
        generalize playAll (cmpOf lns t sh) s (lj.take 100) = s2 at *
        have HSA : Hid (snapAns s2 = .tuple #[.int .i64 (j + 1 : Nat), .int .i64 0]) := by
          unfold Hid snapAns
          rw [if_neg (by rw [HFZ2.out.len]; omega), HFZ2.out.given]
        obtain ⟨j1, hj1⟩ : ∃ j1, j + 1 = j1 := ⟨_, rfl⟩
        rw [hj1] at HSA
        have ij1 : (j : Int) + 1 = (j1 : Int) := by omega
        clear hj1
        go_wp2_with fail
        refine (IxSnapshot_any lns bc t sh X S2 bx s2 _ HFZ2.out.bk.ix HFZ2.out.bk.size (by rw [HFZ2.out.given]; omega)).mono ?_
        rw [HSA.out]
        rintro e w3 ⟨rfl, hst3⟩
        obtain ⟨F3, S3, hB3, hf3, hi3⟩ := HFZ2.out.bk.step hst3
        have CSC := hide (keepScanned_any 0 (snapSt s2).now w3 hB3 (by unfold shownOf; rw [if_pos rfl]))
        have hnow : (snapSt s2).now = s2.now := by unfold snapSt; rw [if_neg (by rw [HFZ2.out.len]; omega)]
        rw [hnow] at CSC
        have HB3 := hide hB3
        have HF3 := hide hf3
        have HI3 := hide hi3
        clear hst3 hB3 hf3 hi3 hnow c1
        go_wp2_with fail
        refine CSC.out.mono ?_
        rintro e w4 ⟨ua, uc, rfl, hown4, hB4, hft4⟩
        have hW4 := (HFZ2.out.was.step HF3.out (fun i e => e) HI3.out).step hft4 (fun i e => by rw [e]; exact HB3.out.own) (fun i e => .inl e)
        have HFIN : Hid (∀ (o : Obj) (w5 : World) (vw' : Value), (w4.alloc o).grownBy w5 (Value.slice aw j cw).ownBlock → (vw'.ownBlock = (Value.slice aw j cw).ownBlock ∨ vw'.ownBlock = some (w4.alloc o).heap.size) → (∀ vals, w4.ownsRow X 50 1 (.slice aw j cw) j vals → w5.ownsRow X 50 1 vw' (j + 1) (vals ++ [.slice ua s2.now.length uc])) → Fz w (w5.setCell ⟨bb, 3, none⟩ (.bool true)) X bb bx bc bm t sh lns (j + 1) (100 * j + 100) vw' F3 S3 vf2 fs2 (snapSt s2)) := fun o w5 vw' h1 h2 h3 =>
          HFZ2.out.snapped hX (by omega) HB3.out HF3.out HI3.out hB4 hft4 hown4 h1 h2 h3
        have HC3 := hide hB4.c3
        have HF4 := hide (hB4.free 3)
        have hb4 := (hB4.from_ bb hB4.own).2
        have hX4 := hB4.size
        obtain ⟨vals9, hv9, hrow9, hnF9, _⟩ := hW4
        have hl9 := HFZ2.out.len
        rw [hl9] at hrow9 hv9
        have hneb : (Value.slice aw j cw).ownBlock ≠ some bb := fun e => hnF9 bb e hB4.own
        have HUNI : Hid (∀ vals, w4.ownsRow X 50 1 (.slice aw j cw) j vals → vals = vals9) := fun vals hv => by
          rcases hv.2 with ⟨h1, h2⟩ | ⟨g1, cap1, cur1, h1, _, h3, _, _, _, h4⟩
          · have e1 := hv.1
            rw [h2, Nat.zero_mul] at e1
            rw [h2] at hv9
            rw [List.eq_nil_of_length_eq_zero e1, List.eq_nil_of_length_eq_zero hv9]
          · rcases hrow9.2 with ⟨k1, _⟩ | ⟨g2, cap2, cur2, k1, _, k3, _, _, _, k4⟩
            · rw [k1] at h1; cases h1
            · rw [k1] at h1
              cases h1
              rw [k3] at h3
              cases h3
              rw [← h4, ← k4]
        have HR9 := hide hrow9
        clear hown4 hB4 hft4 hnF9 hrow9 hl9 hv9
        go_wp2_with (at_builtin; refine wpList_append_row rfl _ _ 37 37 rfl X 50 50 i0 (.slice none 0 0) 1 24 Tryz.underlying37 Tryz.underlying37 hi0 hz0 hzs hzb rfl (by omega) _ _ _ rfl (HR9.out.alloc _) ⟨w4.heap.size, 0, none⟩ 1 1 [.slice ua s2.now.length uc] rfl rfl (fun k u hu => by rw [Addr.add_lit]; cases k with
          | zero => rw [cell_new rfl]; simpa using hu
          | succ k => simp at hu) (by intro u hu; simp at hu; subst hu; rfl) (by unfold maxLen; omega) (by omega) (by simp; omega) ?_)
        intro v5 w5 hown5 hgr5 hat5
        have HFZ5 := hide (HFIN.out _ w5 v5 hgr5 (by rw [World.size_alloc]; exact hat5) (fun vals hv => by rw [HUNI.out vals hv]; exact hown5))
        have hbk5 : w5.heap[bb]? = w4.heap[bb]? := by rw [hgr5.block bb (by simp; omega) (fun e => hneb e.symm), Below.heap_alloc _ _ _ hb4]
        have c35 : w5.cell? ⟨bb, 3, none⟩ = some (.bool true) := (World.cell?_of_block (a := ⟨bb, 3, none⟩) hbk5).trans HC3.out
        have f35 : w5.frozen? ⟨bb, 3, none⟩ = false := (World.frozen?_of_block (a := ⟨bb, 3, none⟩) hbk5).trans HF4.out
        have hb5 : bb < w5.heap.size := by have := hgr5.size; simp at this; omega
        obtain ⟨a5, c5, rfl⟩ := (Reads.of_owns hown5).shape
        clear hown5 hgr5 hat5 hbk5 hneb HFIN HUNI
        go_wp2
        go_roundw
        case rel => exact ⟨j + 1, by omega, by omega, by go_num, ⟨_, _, rfl⟩, F3, S3, vf2, fs2, snapSt s2, by rw [show 100 * (j + 1) = 100 * j + 100 by omega]; exact HFZ5.out⟩
        case measure => simp [intOf]; omega
    · go_upto_region 6 with fail
      go_cut [44] from 37 to 44 (fun x wx => x = .bool false ∧ wx = wr)
      case first =>
        by_cases hjlt : j < K
        · have i1 : ¬ ((j : Int) < 6) := by omega
          have i2 : (j : Int) < (K : Int) := by omega
          go_wp2_with fail
          go_meet
          exact ⟨rfl, rfl⟩
        · have i2 : ¬ ((j : Int) < (K : Int)) := by omega
          go_wp2_with fail
          go_meet
          exact ⟨rfl, rfl⟩
      case rest =>
        obtain ⟨rfl, h9⟩ := hcut
        subst h9
        have HE : Hid (EntsRd wc (.slice a' last.length cap') last) := ⟨a', cap', rfl, fun h => (HL.out h).below HFZ.out.below (HL.out h).2.1⟩
        have HVE : Hid (0 < last.length → ∀ g, (Value.slice a' last.length cap').ownBlock = some g → ¬ F g) := fun h0 g hg hF => by
          have h2 := (HL.out h0).2.1 g hg
          have h3 := (HFZ.out.bk.from_ g hF).1
          omega
        have hfl := HFZ.out.few
        go_wp2_with fail
        refine (keepAll_any last _ _ HFZ.out.bk.refl HFZ.out.facts (by omega) HE.out HVE.out).mono ?_
        rintro e w2 ⟨rfl, fs2, hst2, hfo2, hlen2⟩
        obtain ⟨F2, S2, vf2, hfz2⟩ := HFZ.out.played hX hst2 hfo2 hlen2
        have HFZ2 := hide hfz2
        clear hst2 hfo2 hfz2
        generalize playAll (cmpOf lns t sh) s (last.take 100) = s2 at *
        have CSC := hide (keepScanned_any 0 s2.now w2 HFZ2.out.bk (by unfold shownOf; rw [if_pos rfl]))
        go_wp2_with fail
        refine CSC.out.mono ?_
        rintro e w3 ⟨na, nc, rfl, hown3, hB3, hft3⟩
        obtain ⟨rl, hrlE⟩ : ∃ rl : Nat → Bool, rl = fun q => (bits BinOp.and IntKind.i64 (rel / 2 ^ q) 1 == 1) := ⟨_, rfl⟩
        have HRL := hide hrlE
        clear hrlE
        have HFY : Hid (Fy w w3 X bb bx bc bm t sh lns s2.held s2.now rl 0 (.slice aw j cw) (.slice na s2.now.length nc) F2 S2 vf2 fs2 s2) := by
          have hX2 := HFZ2.out.bk.size
          have hbX : X ≤ bb := (HFZ2.out.bk.from_ bb HFZ2.out.bk.own).1
          refine ⟨hB3, HFZ2.out.below.trans ((hft3.below (fun i e => by rw [e]; exact hbX) hX2).mono hX), HFZ2.out.was.step hft3 (fun i e => by rw [e]; exact HFZ2.out.bk.own) (fun i e => .inl e), ⟨by rw [Tm.entsOf_length]; exact Reads.of_owns hown3, fun g e hF => ?_⟩, rfl, fun g hg => ⟨hg, .inl ?_⟩, fun g hg _ => hg⟩
          · have h1 := (hown3.lt g e).1
            have h2 := (HFZ2.out.bk.from_ g hF).2
            omega
          · obtain ⟨q, hq, rfl⟩ := List.mem_iff_getElem.1 hg
            have := HFZ2.out.nums q hq
            omega
        clear hown3 hB3 hft3
        go_wp2_with fail
        go_loopw [20] (fun i wr => ∃ q : Nat, q ≤ j ∧ i = .int .i64 q ∧ ∃ F S s, Hid (Fy w wr X bb bx bc bm t sh lns s2.held s2.now rl q (.slice aw j cw) (.slice na s2.now.length nc) F S vf2 fs2 s)) (fun i _ => j - (intOf i).toNat)
        case atStart => exact ⟨0, Nat.zero_le _, rfl, F2, S2, s2, HFY.out⟩
        case round =>
          obtain ⟨q, hq, rfl, F4, S4, s4, HF4⟩ := hrel
          have hlen2 := HFZ2.out.len
          by_cases hqj : q < j
          · have i1 : (q : Int) < (j : Int) := by omega
            have hqh : q < s2.held.length := by omega
            have hnum := HFZ2.out.nums q hqh
            obtain ⟨q1, hq1⟩ : ∃ q1, q + 1 = q1 := ⟨_, rfl⟩
            have iq1 : (q : Int) + 1 = (q1 : Int) := by omega
            by_cases hbit : (bits BinOp.and IntKind.i64 (rel / 2 ^ q) 1 == 1) = true
            · have hrq : rl q = true := by rw [HRL.out]; exact hbit
              have hdm : s2.held[q] ∈ s4.held := HF4.out.sup _ (List.getElem_mem hqh) (.inl (by omega))
              have hok4 := HF4.out.bk.ix.ok
              have HAT : Hid (heldAt s4 (q1 : Int) < s4.held.length) := by
                obtain ⟨h1, _⟩ := held_at hok4 hdm
                unfold Hid
                rw [hnum, hq1] at h1
                exact h1
              have HMEM : Hid (∀ g, g ∈ (letSt s4 (q1 : Int)).held ↔ g ∈ s4.held ∧ g.1 ≠ q1) := fun g => by
                have h1 := let_mem hok4 hdm (g := g)
                rw [hnum, hq1] at h1
                exact h1
              have HNO : Hid (¬ heldAt (letSt s4 (q1 : Int)) (q1 : Int) < (letSt s4 (q1 : Int)).held.length) := held_not fun g hg e => ((HMEM.out g).1 hg).2 (by omega)
              have c1 := HF4.out.bk.c1
              have hbb := (HF4.out.bk.from_ bb HF4.out.bk.own).2
              go_wp2_with fail
              refine (IxRelease_any lns bc t sh X S4 bx s4 (q1 : Int) _ HF4.out.bk.ix).mono ?_
              rw [if_pos HAT.out]
              rintro e w5 ⟨rfl, hst5⟩
              obtain ⟨F5, S5, hB5, hf5, hi5⟩ := HF4.out.bk.step hst5
              have HF5 : Hid (Fy w w5 X bb bx bc bm t sh lns s2.held s2.now rl (q + 1) (.slice aw j cw) (.slice na s2.now.length nc) F5 S5 vf2 fs2 (letSt s4 (q1 : Int))) := HF4.out.turn hX hB5 hf5 (fun i e => e) hi5 HF4.out.snow (fun g hg => by
                obtain ⟨h1, h2⟩ := (HMEM.out g).1 hg
                obtain ⟨h3, h4⟩ := HF4.out.sub g h1
                exact ⟨h3, h4.imp (fun h => by omega) id⟩) (fun g hg h => (HMEM.out g).2 ⟨HF4.out.sup g hg (h.imp (fun h => by omega) id), fun e => by
                  rcases h with h | h
                  · omega
                  · rw [e, ← hq1, Nat.add_sub_cancel, hrq] at h; cases h⟩)
              have c15 := HF5.out.bk.c1
              have hbb5 := (HF5.out.bk.from_ bb HF5.out.bk.own).2
              obtain ⟨FF, BB, VV, vv, hh, hin5⟩ := HF5.out.bk.ix.mem
              have CS := hide (scanNo_any (q1 : Int) ⟨#[]⟩ ⟨#[]⟩ 5 w5 hin5 (HF5.out.bk.ix.from_ bx HF5.out.bk.ix.own).2 HF5.out.bk.ix.ok.held8 (by omega) HNO.out)
              clear hst5 hB5 hf5 hi5 hin5 c1 hdm hok4
              go_wp2_with fail
              refine CS.out.mono ?_
              rintro e w6 ⟨rfl, hb6⟩
              have HF6 : Hid (Fy w w6 X bb bx bc bm t sh lns s2.held s2.now rl (q + 1) (.slice aw j cw) (.slice na s2.now.length nc) F5 S5 vf2 fs2 (letSt s4 (q1 : Int))) := HF5.out.turn hX (HF5.out.bk.below hb6) (Foot.of (S := fun _ => False) hb6) (fun i e => e.elim) (fun i e => .inl e) HF5.out.snow HF5.out.sub HF5.out.sup
              have c16 := HF6.out.bk.c1
              have hbb6 := (HF6.out.bk.from_ bb HF6.out.bk.own).2
              clear hb6 c15
              go_wp2_with fail
              refine (IxRelease_any lns bc t sh X S5 bx (letSt s4 (q1 : Int)) (q1 : Int) _ HF6.out.bk.ix).mono ?_
              rw [if_neg HNO.out, let_no HNO.out]
              rintro e w7 ⟨rfl, hst7⟩
              obtain ⟨F7, S7, hB7, hf7, hi7⟩ := HF6.out.bk.step hst7
              have HF7 : Hid (Fy w w7 X bb bx bc bm t sh lns s2.held s2.now rl (q + 1) (.slice aw j cw) (.slice na s2.now.length nc) F7 S7 vf2 fs2 (letSt s4 (q1 : Int))) := HF6.out.turn hX hB7 hf7 (fun i e => e) hi7 HF6.out.snow HF6.out.sub HF6.out.sup
              have c37 := HF7.out.bk.c3
              have f37 := HF7.out.bk.free 3
              have hbb7 := (HF7.out.bk.from_ bb HF7.out.bk.own).2
              have HF8 : Hid (Fy w (w7.setCell ⟨bb, 3, none⟩ (.bool true)) X bb bx bc bm t sh lns s2.held s2.now rl (q + 1) (.slice aw j cw) (.slice na s2.now.length nc) F7 S7 vf2 fs2 (letSt s4 (q1 : Int))) := HF7.out.turn hX HF7.out.bk.set3 (Foot.setCell (S := fun i => i = bb) (p := ⟨bb, 3, none⟩) (Foot.refl _ _) (.inl rfl) _) (fun i e => by rw [e]; exact HF7.out.bk.own) (fun i e => .inl e) HF7.out.snow HF7.out.sub HF7.out.sup
              clear hst7 hB7 hf7 hi7 c16
              go_wp2
              go_roundw
              case rel => exact ⟨q + 1, by omega, by go_num, F7, S7, letSt s4 (q1 : Int), HF8.out⟩
              case measure => simp [intOf]; omega
            · have hrq : rl q = false := by rw [HRL.out]; simpa using hbit
              have HF5 : Hid (Fy w wr X bb bx bc bm t sh lns s2.held s2.now rl (q + 1) (.slice aw j cw) (.slice na s2.now.length nc) F4 S4 vf2 fs2 s4) := ⟨HF4.out.bk, HF4.out.below, HF4.out.was, HF4.out.nowO, HF4.out.snow, fun g hg => by
                obtain ⟨h3, h4⟩ := HF4.out.sub g hg
                refine ⟨h3, ?_⟩
                rcases h4 with h | h
                · by_cases h5 : g.1 = q + 1
                  · exact .inr (by rw [h5, Nat.add_sub_cancel]; exact hrq)
                  · exact .inl (by omega)
                · exact .inr h, fun g hg h => HF4.out.sup g hg (h.imp (fun h => by omega) id)⟩
              go_wp2
              go_roundw
              case rel => exact ⟨q + 1, by omega, by go_num, F4, S4, s4, HF5.out⟩
              case measure => simp [intOf]; omega
          · have i1 : ¬ (q : Int) < (j : Int) := by omega
            have hqe : q = j := by omega
            subst hqe
            have HRISE := hide HF4.out.bk.ix.rises
            have hfewn : s2.now.length ≤ 64 := by
              have := HF4.out.bk.ix.few
              rw [nowOf_length, HF4.out.snow] at this
              exact this
            have HNO : Hid (∀ wr, Fy w wr X bb bx bc bm t sh lns s2.held s2.now rl q (.slice aw q cw) (.slice na s2.now.length nc) F4 S4 vf2 fs2 s4 → nowOf s4 = Tm.entsOf s2.now) := fun wr h => by unfold nowOf; rw [h.snow]
            go_wp2_with fail
            go_loopw [25] (fun i wr => ∃ p : Nat, p ≤ q ∧ i = .int .i64 p ∧ Hid (Fy w wr X bb bx bc bm t sh lns s2.held s2.now rl q (.slice aw q cw) (.slice na s2.now.length nc) F4 S4 vf2 fs2 s4)) (fun i _ => q - (intOf i).toNat)
            case atStart => exact ⟨0, Nat.zero_le _, rfl, HF4.out⟩
            case round =>
              obtain ⟨p, hp, rfl, HF9⟩ := hrel
              by_cases hpq : p < q
              · have i2 : (p : Int) < (q : Int) := by omega
                have i3 : (0 : Int) ≤ (p : Int) := by omega
                have hph : p < s2.held.length := by omega
                have hnum := HFZ2.out.nums p hph
                obtain ⟨p1, hp1⟩ : ∃ p1, p + 1 = p1 := ⟨_, rfl⟩
                have ip1 : (p : Int) + 1 = (p1 : Int) := by omega
                by_cases hbit : (bits BinOp.and IntKind.i64 (rel / 2 ^ p) 1 == 0) = true
                · have hrp : rl p = false := by
                    rw [HRL.out]
                    have h0 : bits BinOp.and IntKind.i64 (rel / 2 ^ p) 1 = 0 := by simpa using hbit
                    show (bits BinOp.and IntKind.i64 (rel / 2 ^ p) 1 == 1) = false
                    rw [h0]; rfl
                  have hdm : s2.held[p] ∈ s4.held := HF9.out.sup _ (List.getElem_mem hph) (.inr (by rw [hnum, Nat.add_sub_cancel]; exact hrp))
                  have hshow : shownOf s4 (p1 : Int) = some s2.held[p].2 := by
                    obtain ⟨h1, h2⟩ := held_at HF9.out.bk.ix.ok hdm
                    have e9 : ((s2.held[p].1 : Nat) : Int) = (p1 : Int) := by rw [hnum, hp1]
                    rw [e9] at h1
                    unfold shownOf
                    rw [if_neg (by omega), List.getElem?_eq_getElem h1]
                    simp only [e9] at h2
                    rw [h2]
                    rfl
                  have CS := hide (keepScanned_any (p1 : Int) s2.held[p].2 wr HF9.out.bk hshow)
                  obtain ⟨vals, hvl, hrow, _, hvs⟩ := HF9.out.was
                  have hpv : p < vals.length := by rw [hvl]; exact hph
                  obtain ⟨⟨ua, uc, hue⟩, hout, _⟩ := hvs p hph hpv
                  obtain ⟨g, off, cap9, he9, hg9, hc9⟩ := (Reads.of_owns hrow).form (by omega)
                  rw [hlen2] at he9
                  cases he9
                  have x0 := hc9 p _ (List.getElem?_eq_getElem hpv)
                  rw [hue] at x0 hout
                  have HX0 := hide x0
                  have HOUT := hide hout
                  have HVW : Hid (¬ F4 g) := fun hF => by
                    obtain ⟨_, _, _, h3, _⟩ := HF9.out.was
                    exact h3 g rfl hF
                  have hl64 : s2.held[p].2.length ≤ 64 := (HF9.out.bk.ix.ok.heldOk _ hdm).2
                  generalize s2.held[p].2 = lp at *
                  clear hdm hshow hvs hrow hc9 x0 hout hue
                  go_wp2_with fail
                  refine CS.out.mono ?_
                  rintro e w5 ⟨ea, ec, rfl, hown5, hB5, hft5⟩
                  have HF5 : Hid (Fy w w5 X bb bx bc bm t sh lns s2.held s2.now rl q (.slice (some ⟨g, off, none⟩) q cw) (.slice na s2.now.length nc) F4 S4 vf2 fs2 s4) := HF9.out.turn hX hB5 hft5 (fun i e => by rw [e]; exact HF9.out.bk.own) (fun i e => .inl e) HF9.out.snow HF9.out.sub HF9.out.sup
                  have hgb : g ≠ bb := fun e => HVW.out (by rw [e]; exact HF9.out.bk.own)
                  have x5 : w5.cell? ⟨g, off + p, none⟩ = some (.slice ua lp.length uc) := (hft5.cell (p := ⟨g, off + p, none⟩) hg9 hgb).trans HX0.out
                  have hou5 := HOUT.out.step hft5 (fun i e => by rw [e]; exact HF9.out.bk.own) (fun i (e : F4 i) => .inl e)
                  have hlp : (Tm.entsOf lp).length = lp.length := Tm.entsOf_length lp
                  have CSE : Hid (Calls Tryz.prog 29 #[.slice ea lp.length ec, .slice ua lp.length uc] w5 fun e w' => e = .returned (.bool true) ∧ ∃ n, w' = w5.drewN n) := keepSameEnts_any _ _ (Tm.entsOf lp) w5 (by rw [hlp]; exact Reads.of_owns hown5) hou5.1 (by rw [hlp]; omega)
                  clear hown5 hB5 hft5 hou5
                  go_wp2_with fail
                  refine CSE.out.mono ?_
                  rintro e w6 ⟨rfl, k6, hw6⟩
                  have HF6 : Hid (Fy w w6 X bb bx bc bm t sh lns s2.held s2.now rl q (.slice (some ⟨g, off, none⟩) q cw) (.slice na s2.now.length nc) F4 S4 vf2 fs2 s4) := by
                    have hb6 : Below w5.heap.size w5 w6 := by rw [hw6]; exact ⟨rfl, rfl, rfl, Nat.le_refl _, fun _ _ => rfl⟩
                    exact HF5.out.turn hX (HF5.out.bk.below hb6) (Foot.of (S := fun _ => False) hb6) (fun i e => e.elim) (fun i e => .inl e) HF5.out.snow HF5.out.sub HF5.out.sup
                  clear hw6
                  go_wp2
                  go_roundw
                  case rel => exact ⟨p + 1, by omega, by go_num, HF6.out⟩
                  case measure => simp [intOf]; omega
                · go_wp2
                  go_roundw
                  case rel => exact ⟨p + 1, by omega, by go_num, HF9.out⟩
                  case measure => simp [intOf]; omega
              · have i2 : ¬ (p : Int) < (q : Int) := by omega
                have hnw := HNO.out wr HF9.out
                have CS := hide (keepScanned_any 0 s4.now wr HF9.out.bk (by unfold shownOf; rw [if_pos rfl]))
                rw [HF9.out.snow] at CS
                have hln : (Tm.entsOf s2.now).length = s2.now.length := Tm.entsOf_length _
                go_wp2_with fail
                refine CS.out.mono ?_
                rintro e w5 ⟨ea, ec, rfl, hown5, hB5, hft5⟩
                have HF5 : Hid (Fy w w5 X bb bx bc bm t sh lns s2.held s2.now rl q (.slice aw q cw) (.slice na s2.now.length nc) F4 S4 vf2 fs2 s4) := HF9.out.turn hX hB5 hft5 (fun i e => by rw [e]; exact HF9.out.bk.own) (fun i e => .inl e) HF9.out.snow HF9.out.sub HF9.out.sup
                have CSE : Hid (Calls Tryz.prog 29 #[.slice na s2.now.length nc, .slice ea s2.now.length ec] w5 fun e w' => e = .returned (.bool true) ∧ ∃ n, w' = w5.drewN n) := keepSameEnts_any _ _ (Tm.entsOf s2.now) w5 HF5.out.nowO.1 (by rw [hln]; exact Reads.of_owns hown5) (by rw [hln]; omega)
                clear hown5 hB5 hft5
                go_wp2_with fail
                refine CSE.out.mono ?_
                rintro e w6 ⟨rfl, k6, hw6⟩
                have HF6 : Hid (Fy w w6 X bb bx bc bm t sh lns s2.held s2.now rl q (.slice aw q cw) (.slice na s2.now.length nc) F4 S4 vf2 fs2 s4) := by
                  have hb6 : Below w5.heap.size w5 w6 := by rw [hw6]; exact ⟨rfl, rfl, rfl, Nat.le_refl _, fun _ _ => rfl⟩
                  exact HF5.out.turn hX (HF5.out.bk.below hb6) (Foot.of (S := fun _ => False) hb6) (fun i e => e.elim) (fun i e => .inl e) HF5.out.snow HF5.out.sub HF5.out.sup
                clear hw6
                have hwh := scan_whole (c := cmpOf lns t sh) (fun k => cmpOf_none lns HF6.out.bk.ok.st sh k) (Tm.entsOf s2.now)
                have hfo : Tm.FactsOk (cmpOf lns t sh) fs2 (Tm.entsOf s2.now) := HFZ2.out.facts
                have hfew2 := HFZ2.out.few
                have hrs : Tm.Rises (Tm.ByKey (cmpOf lns t sh)) (Tm.entsOf s2.now) := by have := HRISE.out; rwa [hnw] at this
                have CT := hide (keepTold_any (Tm.entsOf s2.now) (.slice na s2.now.length nc) ⟨#[]⟩ ⟨#[]⟩ w6 HF6.out.bk HF6.out.nowO.1 (by decide) (by decide) (fun f hf h1 h2 => by have := told_in hfo ⟨#[]⟩ ⟨#[]⟩ f hf h1 h2; rwa [hwh] at this) (by
                  have h9 := (hfo.count hT hrs (Tm.within (cmpOf lns t sh) ⟨#[]⟩ ⟨#[]⟩)).symm
                  rw [h9]
                  show (Tm.ixScan (cmpOf lns t sh) (Tm.entsOf s2.now) ⟨#[]⟩ ⟨#[]⟩).length = _
                  rw [hwh]) (by rw [hln]; omega) (by omega))
                clear hwh hfo hrs hnw
                go_wp2_with fail
                refine CT.out.mono ?_
                rintro e w7 ⟨rfl, hb7⟩
                have HB7 := hide (HF6.out.bk.below hb7)
                have c37 := HB7.out.c3
                have hbb7 := (HB7.out.from_ bb HB7.out.own).2
                have HFIN : Hid (Below w.heap.size w w7) := HF6.out.below.trans (hb7.mono HF6.out.below.size)
                clear hb7
                go_wp2
                go_ret
                exact ⟨rfl, HFIN.out⟩
end Go.Proofs.YtmnjjjhmnhfapaaGreatDoor
