import Derived.BigRegion
import Derived.Test.YtmnjjjhmnhfapaaGreatDoorMAppKeep
namespace Go.Proofs.YtmnjjjhmnhfapaaGreatDoor
open Go.RowKit
theorem Tryz.infoParted : (Tryz.prog.info? 234).map (fun i => (i.zero, i.size, i.bytes)) = some (some (.agg #[.int .i64 0, .int .i64 0]), 2, 16) := by kernel_rfl

theorem parse_makeup_count {n : Int} {ws : List (List UInt8)} (h2 : ws.length ≠ 2) (h3 : ws.length ≠ 3) : Tm.parseWords n ([100] :: ws) = none := by
  rw [Tm.parse_nosign (by simp)]
  have : Tm.fits [100] (ws.map Tm.num) 0 false = false := by
    simp [Tm.fits]
    exact ⟨h2, h3⟩
  rw [this]; simp
theorem parse_makeup {n : Int} {ws : List (List UInt8)} (h : ws.length = 2 ∨ ws.length = 3) : Tm.parseWords n ([100] :: ws) = if ws.all Tm.runeOk = true then some ⟨[100], ws.map Tm.num, [], n⟩ else none := by
  rw [Tm.parse_nosign (by simp)]
  have : Tm.fits [100] (ws.map Tm.num) 0 false = true := by
    simp [Tm.fits]
    exact h
  rw [this, Bool.and_true]

set_option maxRecDepth 100000 in
set_option maxHeartbeats 2000000 in
theorem readMakeup_any (vs : Value) (bs : List ByteArray) (col : Nat → Int) (base bd bm : Nat) (line : Int) (vp vw : Value) (lns : List Tm.Ln) (w : World) (hr : Reads w vs 1 bs.length (bs.map Value.string)) (hl : bs.length ≤ 8193) (hz : ∀ b ∈ bs, b.size ≤ 8192)
    (hrep : Rep w col base bd bm line vp vw lns) (hn : lns.length ≤ 8192) :
    Calls Tryz.prog 179 #[.pointer (some ⟨bd, 0, none⟩), vs] w fun e w' => lineAns (Tm.parseWords line ([100] :: lets bs)) lns base bd bm line w e w' := by
  have HR := hide hr
  have HZ := hide hz
  obtain ⟨i0, hi, hz0, hz1, hz2⟩ := info_parts Tryz.infoParted
  obtain ⟨va, vc, rfl⟩ := (Reads.of_owns hrep.pt.1).shape
  obtain ⟨a, cap, rfl⟩ := hr.shape
  clear hr hz
  by_cases hcount : bs.length ≠ 2 ∧ bs.length ≠ 3
  · obtain ⟨h2, h3⟩ := hcount
    have hd : ((bs.length : Int) != 2) = true := by simp; omega
    have hd' : ((bs.length : Int) != 3) = true := by simp; omega
    have HN := hide (parse_makeup_count (n := line) (ws := lets bs) (by rw [lets_length]; exact h2) (by rw [lets_length]; exact h3))
    clear h2 h3 hrep
    go_enter Tryz.func179, Tryz.ntmps179
    go_wp2_with fail
    refine (refuse_yes 1 _).mono ?_
    rintro e w' ⟨rfl, rfl⟩
    go_wp2
    exact ⟨rfl, lineAns_none HN.out rfl (Below.refl _ _)⟩
  have hcount' : bs.length = 2 ∨ bs.length = 3 := by omega
  have hcnt : bs.length = 2 ∨ bs.length = 3 := hcount'
  have HP := hide (parse_makeup (n := line) (ws := lets bs) (by rw [lets_length]; exact hcount'))
  have hdl := dLines_le lns
  have hwalk : ∀ Q : Prop, (((bs.length : Int) != 2) = false → Q) → (((bs.length : Int) != 2) = true → ((bs.length : Int) != 3) = false → Q) → Q := by
    intro Q h1 h2
    rcases hcnt with h | h
    · exact h1 (by rw [h]; rfl)
    · exact h2 (by rw [h]; rfl) (by rw [h]; rfl)
  refine hwalk _ (fun hd => ?_) (fun hd hd' => ?_)
  all_goals
    go_enter Tryz.func179, Tryz.ntmps179
    go_wp2_with fail
    refine (refuse_no 1 _).mono ?_
    rintro e w' ⟨rfl, rfl⟩
    go_wp2_with fail
    refine (readRunes_any _ bs _ HR.out hl HZ.out).mono ?_
    rintro e w1 ⟨hans, hb1⟩
    unfold runesAns at hans
    rw [all_lets, nums_lets] at hans
    cases ha : (lets bs).all Tm.runeOk
    · rw [ha] at hans
      obtain rfl : e = _ := hans
      have HN : Hid (Tm.parseWords line ([100] :: lets bs) = none) := by unfold Hid; rw [HP.out, if_neg (by rw [ha]; simp)]
      have HB1 := hide hb1
      clear hb1 hrep
      go_wp2
      exact ⟨rfl, lineAns_none HN.out rfl HB1.out⟩
    rw [ha] at hans
    obtain ⟨v1, rfl, hrd1, hbl1⟩ := hans
    have hnl : ((lets bs).map Tm.num).length = bs.length := by rw [List.length_map, lets_length]
    have hrng := Tm.all_range ha
    have HFIT : Hid (Tm.Fit ⟨[100], (lets bs).map Tm.num, [], line⟩) := Tm.fit_parts ha (by rw [lets_length]; exact hcount')
    have HN : Hid (Tm.parseWords line ([100] :: lets bs) = some ⟨[100], (lets bs).map Tm.num, [], line⟩) := by unfold Hid; rw [HP.out, if_pos ha]
    rw [← hnl] at hrd1
    obtain ⟨r, rs, hrs⟩ : ∃ r rs, (lets bs).map Tm.num = r :: rs := by
      cases h : (lets bs).map Tm.num with
      | nil => rw [h] at hnl; simp at hnl; omega
      | cons x y => exact ⟨x, y, rfl⟩
    rw [hrs] at hrd1 HN HFIT hrng hnl
    have hr0 := hrng r (by simp)
    have hrl : rs.length + 1 = bs.length := by simpa using hnl
    have HREP : Hid (Rep w1 (freshCol col w'.heap.size) base bd bm line (.slice va (Tm.dLines lns).length vc) vw lns) := hrep.fresh.below hb1
    have HB1 := hide hb1
    have HBW : Hid (base ≤ w'.heap.size) := by have h1 := hrep.dr.from_; have h2 := hrep.dr.lt; unfold Hid; omega
    have HT : Hid (Tm.twice lns ⟨[100], r :: rs, [], line⟩ = decide (0 < (Tm.parts lns r).length)) := Tm.twice_parts hrep.fit rfl
    clear hrep hb1 hrng ha hrs hnl HR HZ hd
    obtain ⟨g1, off1, cap1, rfl, hg1, hcells⟩ := hrd1.form (by simp [ints])
    have x0 := hcells 0 _ rfl
    rw [Nat.add_zero] at x0
    have hfit1 := hrd1.fits
    have HTL : Hid (Data w1 (freshCol col w'.heap.size) (.slice (some ⟨g1, off1 + 1, none⟩) (bs.length - 1) (cap1 - 1)) 1 rs.length (ints rs)) :=
      ⟨by have := hrd1.tail (by simp); rw [show (r :: rs).length - 1 = bs.length - 1 from by simp; omega] at this; exact this, fun g hg => by
        have hg' : g1 = g := by simpa [Value.ownBlock] using hg
        subst hg'
        exact freshCol_new (hbl1 g1 rfl)⟩
    have hcap1 : ¬ cap1 = 1 := by have := hfit1.2.1; simp at this; omega
    have hcap2 : 1 ≤ cap1 := by have := hfit1.2.1; simp at this; omega
    have hcap3 : cap1 ≤ 9223372036854775807 := by have := hfit1.2.2; unfold maxLen at this; omega
    have hcap4 := hfit1.2.1
    obtain ⟨f, pv, sv, hmap, hfv, hpd, hsr, hall⟩ := HREP.out.nd.look hr0.1
    have d0 := HREP.out.dr.c0
    have dl := HREP.out.dr.lt
    have HPD := hide hpd
    have HSR := hide hsr
    have HALL := hide hall
    have HMAP := hide hmap
    clear hpd hsr hall hmap hrd1 hbl1 hcells hfit1
    obtain ⟨pa, pc, rfl⟩ := HPD.out.1.shape
    obtain ⟨sa, sc, rfl⟩ := HSR.out.rd.shape
    generalize hpl : (Tm.parts lns r).length = pl at *
    have HPL := hide hpl
    clear hpl
    go_wp2_with (at_lookup; go_must (refine wpList_look rfl _ _ rfl bm lns.length f rfl HMAP.out r rfl (wf_rune hr0) _ hfv ?_))
    have hbw : Below w1.heap.size w1 (w1.alloc (.cells #[.int .i64 (Tm.classOf lns r), .slice pa pl pc, .slice sa (Tm.seqsAt lns r).length sc] 251)) := (Below.refl _ _).alloc (Nat.le_refl _) _
    refine (hasParts_any _ pl (ints (Tm.parts lns r)) _ (HPD.out.1.below hbw HPD.out.1.2.1)).mono ?_
    rintro e w2 ⟨rfl, hb2⟩
    have hs2 := hb2.size
    have hsz : w1.heap.size < (w1.alloc (.cells #[.int .i64 (Tm.classOf lns r), .slice pa pl pc, .slice sa (Tm.seqsAt lns r).length sc] 251)).heap.size := by simp
    have n0 : w2.cell? ⟨w1.heap.size, 0, none⟩ = some (.int .i64 (Tm.classOf lns r)) := by rw [hb2.cell (p := ⟨w1.heap.size, 0, none⟩) hsz, cell_new rfl]; rfl
    have n1 : w2.cell? ⟨w1.heap.size, 1, none⟩ = some (.slice pa pl pc) := by rw [hb2.cell (p := ⟨w1.heap.size, 1, none⟩) hsz, cell_new rfl]; rfl
    have n2 : w2.cell? ⟨w1.heap.size, 2, none⟩ = some (.slice sa (Tm.seqsAt lns r).length sc) := by rw [hb2.cell (p := ⟨w1.heap.size, 2, none⟩) hsz, cell_new rfl]; rfl
    have nf : ∀ o, w2.frozen? ⟨w1.heap.size, o, none⟩ = false := fun o => by rw [hb2.frozen (p := ⟨w1.heap.size, o, none⟩) hsz, frozen_new rfl]
    have HB2 : Hid (Below w1.heap.size w1 w2) := hbw.trans (hb2.mono (by simp))
    simp only [World.size_alloc] at hs2
    have e0 : w2.cell? ⟨bd, 0, none⟩ = some (.map (some bm)) := by rw [HB2.out.cell (p := ⟨bd, 0, none⟩) dl]; exact d0
    have hne : ¬ bd = w1.heap.size := by omega
    have hne' : ¬ w1.heap.size = bd := by omega
    have HSZ := hide HB1.out.size
    clear hb2 hsz hbw
    cases hpp : decide (0 < pl)
    case true =>
      have HT2 : Hid (Tm.twice lns ⟨[100], r :: rs, [], line⟩ = true) := by unfold Hid; rw [HT.out, hpp]
      go_wp2_with fail
      refine (refuse_yes 2 _).mono ?_
      rintro e w2' ⟨rfl, rfl⟩
      go_wp2
      exact ⟨rfl, lineAns_twice HN.out HT2.out rfl (HB1.out.trans (HB2.out.mono HSZ.out))⟩
    have HT2 : Hid (Tm.twice lns ⟨[100], r :: rs, [], line⟩ = false) := by unfold Hid; rw [HT.out, hpp]
    have HP0 : Hid ((Tm.parts lns r).length = 0) := by unfold Hid; rw [HPL.out]; simpa using hpp
    go_wp2_with fail
    refine (refuse_no 2 _).mono ?_
    rintro e w2' ⟨rfl, rfl⟩
    go_wp2_with fail
    have HWB : Hid (Below w1.heap.size w1 (w2'.setCell ⟨w1.heap.size, 1, none⟩ (.slice (some ⟨g1, off1 + 1, none⟩) (bs.length - 1) (cap1 - 1))).drew) := (HB2.out.setCell (p := ⟨w1.heap.size, 1, none⟩) (Nat.le_refl _) _).drew
    have HM1 : Hid (MapIs (w2'.setCell ⟨w1.heap.size, 1, none⟩ (.slice (some ⟨g1, off1 + 1, none⟩) (bs.length - 1) (cap1 - 1))).drew bm lns.length f) := HMAP.out.same (HWB.out.block bm HMAP.out.lt)
    obtain ⟨w3, hrun, hm3, hg3⟩ := HM1.out.put (by unfold maxLen; omega) (wf_rune hr0) (.agg #[.int .i64 (Tm.classOf lns r), .slice (some ⟨g1, off1 + 1, none⟩) (bs.length - 1) (cap1 - 1), .slice sa (Tm.seqsAt lns r).length sc])
    have HK3 : Hid (Keeps w1 w3 (freshCol col w'.heap.size) (freshCol col w'.heap.size) (· ≠ -2)) := (Keeps.below HWB.out).trans (Keeps.grown hg3 HREP.out.nd.hue)
    have HND3 : Hid (Nd w3 (freshCol col w'.heap.size) base bm (lns ++ [⟨[100], r :: rs, [], line⟩])) := HREP.out.nd.parts HALL.out HTL.out HSR.out hr0.1 hm3 HK3.out HP0.out HREP.out.fit
    have HDR3 : Hid (Dr w3 (freshCol col w'.heap.size) base bd bm line (.slice va (Tm.dLines lns).length vc) vw) := HREP.out.dr.keep HK3.out (by decide)
    have HPT3 : Hid (Pt w3 (freshCol col w'.heap.size) base (.slice va (Tm.dLines lns).length vc) lns) := HREP.out.pt.keep HK3.out (by decide)
    have HWT3 : Hid (Wt w3 (freshCol col w'.heap.size) base vw lns) := HREP.out.wt.keep HK3.out (by decide) (by decide)
    have HBF : Hid (Sole base bm w' w3) := by
      have hbd := HREP.out.dr.from_
      have h2 : Below base w1 (w2'.setCell ⟨w1.heap.size, 1, none⟩ (.slice (some ⟨g1, off1 + 1, none⟩) (bs.length - 1) (cap1 - 1))).drew := HWB.out.mono (by omega)
      have h3 : Sole base bm w1 w3 := (Sole.of h2).grown hg3 (by have := HWB.out.size; omega) (fun j hj => by cases hj; exact .inr rfl)
      exact (Sole.of (HB1.out.mono (HBW.out))).trans h3
    have y0 := HDR3.out.c0
    have y1 := HDR3.out.c1
    have y2 := HDR3.out.c2
    have hl3 := HDR3.out.lt
    clear hm3 hg3
    have HOWN : Hid ((w3.drew.alloc (.cells #[.int .i64 line, .int .i64 r] 234)).ownsRow base 234 2 (.slice va (Tm.dLines lns).length vc) (Tm.dLines lns).length (partCells (Tm.dLines lns))) := (ownsRow_same (w' := w3.drew) HPT3.out.1 (fun _ _ => rfl)).alloc _
    have HNEWS : Hid (∀ j u, [Value.int .i64 line, .int .i64 r][j]? = some u → (w3.drew.alloc (.cells #[.int .i64 line, .int .i64 r] 234)).cell? ((⟨w3.heap.size, 0, none⟩ : Addr).add j) = some u) := news_two rfl
    have HONE : Hid (∀ u ∈ [Value.int .i64 line, .int .i64 r], u.oneCell' = true) := by intro u hu; simp at hu; rcases hu with rfl | rfl <;> rfl
    have HNB : Hid ((Value.slice va (Tm.dLines lns).length vc).ownBlock ≠ some bd) := fun e => by have := HPT3.out.2 bd e; rw [HDR3.out.hue] at this; omega
    have HBA : Hid (base ≤ (w3.drew.alloc (.cells #[.int .i64 line, .int .i64 r] 234)).heap.size) := by have h1 := HDR3.out.from_; have h2 := HDR3.out.lt; unfold Hid; simp; omega
    have HC2 : Hid ((w3.drew.alloc (.cells #[.int .i64 line, .int .i64 r] 234)).cell? ⟨bd, 2, none⟩ = some (.slice va (Tm.dLines lns).length vc)) := by unfold Hid; rw [cell_old (by exact hl3)]; exact y2
    have HF2 : Hid ((w3.drew.alloc (.cells #[.int .i64 line, .int .i64 r] 234)).frozen? ⟨bd, 2, none⟩ = false) := by unfold Hid; rw [frozen_old (by exact hl3)]; exact HDR3.out.free 2
    have HL2 : Hid (bd < (w3.drew.alloc (.cells #[.int .i64 line, .int .i64 r] 234)).heap.size) := by unfold Hid; simp; omega
    have HBG : Hid (Sole base bm w' (w3.drew.alloc (.cells #[.int .i64 line, .int .i64 r] 234))) := HBF.out.drew.alloc (by have h1 := HDR3.out.from_; have h2 := HDR3.out.lt; simp; omega) _
    go_region
    all_goals go_wp2_with fail
    all_goals go_region_law (refine step_append_own rfl _ _ 199 rfl base 234 i0 (.agg #[.int .i64 0, .int .i64 0]) 2 16 Tryz.underlying199 hi hz0 hz1 hz2 rfl (by decide) _ _ _ (by simp [Act.eval]) HOWN.out ⟨w3.heap.size, 0, none⟩ 1 1 [.int .i64 line, .int .i64 r] (by simp [Act.eval]) rfl HNEWS.out HONE.out (by unfold maxLen; omega) (by omega) HBA.out ?_; intro v' w4 hown4 hg4 hat4; have HOWN4 := hide hown4; have HG4 := hide hg4; have HAT4 := hide hat4; have z2 := hg4.cell HC2.out (fun e => HNB.out e.symm); have zf : w4.frozen? ⟨bd, 2, none⟩ = false := (World.frozen?_of_block (hg4.block bd HL2.out (fun e => HNB.out e.symm))).trans HF2.out; obtain ⟨a4, c4, rfl⟩ := (Reads.of_owns hown4).shape; clear hown4 hg4 hat4)
    all_goals go_wp2
    all_goals go_end0
    all_goals exact lineAns_ok HN.out HT2.out rfl rfl ((HBG.out.grown HG4.out HBA.out (fun j hj => .inl (HPT3.out.1.lt j hj).1)).setCell (p := ⟨bd, 2, none⟩) HDR3.out.from_ _) ⟨_, _, _, Rep.parts HDR3.out HND3.out HPT3.out HWT3.out HREP.out.fit HREP.out.low HFIT.out rfl HOWN4.out HG4.out HAT4.out⟩
end Go.Proofs.YtmnjjjhmnhfapaaGreatDoor
