import Derived.BigRegion
import Derived.Test.YtmnjjjhmnhfapaaGreatDoorMRepW
import Derived.Test.YtmnjjjhmnhfapaaGreatDoorMCodeSeq
namespace Go.Proofs.YtmnjjjhmnhfapaaGreatDoor
open Go.RowKit
theorem Tryz.infoSeq : (Tryz.prog.info? 238).map (fun i => (i.zero, i.size, i.bytes)) = some (some (.agg #[.slice none 0 0, .slice none 0 0]), 2, 48) := by kernel_rfl
theorem Tryz.infoWeighed : (Tryz.prog.info? 240).map (fun i => (i.zero, i.size, i.bytes)) = some (some (.agg #[.int .i64 0, .slice none 0 0, .slice none 0 0]), 3, 56) := by kernel_rfl

theorem parse_weigh_fit {n : Int} {ws : List (List UInt8)} {l : Tm.Ln} (h : Tm.parseWords n ([119] :: ws) = some l) : Tm.Fit l ∧ l.kind = [119] ∧ l.num = n := by
  by_cases hs : [61] ∈ ws
  · obtain ⟨a, b, rfl, hb⟩ := Tm.at_sign hs
    rw [Tm.parse_weigh hb] at h
    split at h
    · rename_i hc
      cases he : Tm.elemsOf b with
      | none => rw [he] at h; cases h
      | some es =>
        rw [he] at h
        simp at h
        subst h
        exact ⟨Tm.fit_weigh hc.1 hc.2.1 hc.2.2.1 hc.2.2.2.1 hc.2.2.2.2 he, rfl, rfl⟩
    · cases h
  · rw [Tm.parse_unsigned hs] at h; cases h

set_option maxRecDepth 100000 in
set_option maxHeartbeats 4000000 in
theorem readWeighing_any (vs : Value) (bs : List ByteArray) (col : Nat → Int) (base bd bm : Nat) (line : Int) (vp vw : Value) (lns : List Tm.Ln) (w : World) (hr : Reads w vs 1 bs.length (bs.map Value.string)) (hl : bs.length ≤ 8193) (hz : ∀ b ∈ bs, b.size ≤ 8192)
    (hrep : Rep w col base bd bm line vp vw lns) (hn : lns.length ≤ 8192) :
    Calls Tryz.prog 180 #[.pointer (some ⟨bd, 0, none⟩), vs] w fun e w' => lineAns (Tm.parseWords line ([119] :: lets bs)) lns base bd bm line w e w' := by
  have HR := hide hr
  have HZ := hide hz
  obtain ⟨i0, hi, hz0, hz1, hz2⟩ := info_parts Tryz.infoSeq
  obtain ⟨i1, hi', hy0, hy1, hy2⟩ := info_parts Tryz.infoWeighed
  obtain ⟨a, cap, rfl⟩ := hr.shape
  clear hr hz
  go_enter Tryz.func180, Tryz.ntmps180
  go_wp2_with fail
  refine (readSequence_any _ bs line _ HR.out hl HZ.out).mono ?_
  rintro e w1 ⟨hans, hb1⟩
  cases hp : Tm.parseWords line ([119] :: lets bs) with
  | none =>
    rw [hp] at hans
    obtain rfl : e = _ := hans
    have HP := hide hp
    have HB1 := hide hb1
    clear hp hb1 hrep
    go_wp2
    exact ⟨rfl, lineAns_none HP.out rfl HB1.out⟩
  | some l =>
    rw [hp] at hans
    obtain ⟨v1, v2, rfl, hrd1, hbl1, hrd2, hbl2⟩ := hans
    obtain ⟨hfit, hkind, hnum⟩ := parse_weigh_fit hp
    have HFIT := hide hfit
    have HKIND := hide hkind
    have HNUM := hide hnum
    have HP := hide hp
    have HREP : Hid (Rep w1 (freshCol col w.heap.size) base bd bm line vp vw lns) := hrep.fresh.below hb1
    have HB1 := hide hb1
    have HBW : Hid (base ≤ w.heap.size) := by have h1 := hrep.dr.from_; have h2 := hrep.dr.lt; unfold Hid; omega
    obtain ⟨r, rs, hrs⟩ : ∃ r rs, l.runes = r :: rs := by
      cases h : l.runes with
      | nil => exact absurd h hfit.some
      | cons x y => exact ⟨x, y, rfl⟩
    have hr0 := hfit.rune r (by rw [hrs]; simp)
    have HHEAD : Hid (l.runes.getD 0 0 = r) := by unfold Hid; rw [hrs]; rfl
    have HT : Hid (Tm.twice lns l = (Tm.seqsAt lns r).any fun o => decide (o.runes = l.runes)) := by unfold Hid; rw [Tm.twice_weigh hkind, HHEAD.out]
    have HSEQ : Hid (SeqOk w1 (freshCol col w.heap.size) (v1, v2) l) := ⟨⟨hrd1, fun g hg => freshCol_new (hbl1 g hg)⟩, ⟨hrd2, fun g hg => freshCol_new (hbl2 g hg)⟩⟩
    have hlen := hfit.few
    have hlen2 := hfit.els
    obtain ⟨g1, off1, cap1, rfl, hg1, hcells⟩ := hrd1.form (by rw [ints_length]; rw [hrs]; simp)
    have x0 : w1.cell? ⟨g1, off1, none⟩ = some (.int .i64 r) := hcells 0 _ (by rw [hrs]; rfl)
    obtain ⟨a2, cap2, rfl⟩ := hrd2.shape
    have hpos : 0 < l.runes.length := by rw [hrs]; simp
    obtain ⟨f, pv, sv, hmap, hfv, hpd, hsr, hall⟩ := HREP.out.nd.look hr0.1
    have d0 := HREP.out.dr.c0
    have dl := HREP.out.dr.lt
    have HPD := hide hpd
    have HSR := hide hsr
    have HALL := hide hall
    have HMAP := hide hmap
    obtain ⟨pa, pc, rfl⟩ := HPD.out.1.shape
    obtain ⟨sa, sc, rfl⟩ := HSR.out.rd.shape
    clear hp hb1 hrep hrd1 hrd2 hbl1 hbl2 hfit hkind hnum hrs hcells hpd hsr hall hmap
    have g1n : ¬ g1 = w1.heap.size := by omega
    have bdn : ¬ bd = w1.heap.size := by omega
    have HMA : Hid (MapIs (w1.alloc (.cells #[.slice (some ⟨g1, off1, none⟩) l.runes.length cap1, .slice a2 l.els.length cap2] 238)) bm lns.length f) := HMAP.out.same (Below.heap_alloc _ _ _ HMAP.out.lt)
    go_wp2_with (at_lookup; go_must (refine wpList_look rfl _ _ rfl bm lns.length f rfl HMA.out r rfl (wf_rune hr0) _ hfv ?_))
    obtain ⟨sl, hsl⟩ : ∃ sl, (Tm.seqsAt lns r).length = sl := ⟨_, rfl⟩
    have hsle : sl ≤ 8192 := by have := seqsAt_le lns r; omega
    have HSL := hide hsl
    obtain ⟨pl, hpl⟩ : ∃ pl, (Tm.parts lns r).length = pl := ⟨_, rfl⟩
    have HPL := hide hpl
    rw [hsl, hpl]
    rw [hsl, hpl] at hfv
    rw [hsl] at HSR
    rw [hpl] at HPD
    clear hsl hpl
    have hbA : Below w1.heap.size w1 ((w1.alloc (.cells #[.slice (some ⟨g1, off1, none⟩) l.runes.length cap1, .slice a2 l.els.length cap2] 238)).alloc (.cells #[.int .i64 (Tm.classOf lns r), .slice pa pl pc, .slice sa sl sc] 251)) := ((Below.refl _ _).alloc (Nat.le_refl _) _).alloc (by simp) _
    refine (has_any _ _ (Tm.seqsAt lns r) l.runes _ (HSR.out.rd.below hbA) (HSEQ.out.1.1.below hbA HSEQ.out.1.1.2.1) (by rw [HSL.out]; omega) (fun o ho => by have := (HREP.out.fit o (List.mem_filter.1 ho).1).few; omega) (by omega) (seqs_els HREP.out.fit)).mono ?_
    rintro e wC ⟨rfl, hbC⟩
    have hsC := hbC.size
    simp only [World.size_alloc] at hsC
    have HBC : Hid (Below w1.heap.size w1 wC) := hbA.trans (hbC.mono (by simp; omega))
    have hlt0 : w1.heap.size < ((w1.alloc (.cells #[.slice (some ⟨g1, off1, none⟩) l.runes.length cap1, .slice a2 l.els.length cap2] 238)).alloc (.cells #[.int .i64 (Tm.classOf lns r), .slice pa pl pc, .slice sa sl sc] 251)).heap.size := by simp; omega
    have hlt1 : w1.heap.size + 1 < ((w1.alloc (.cells #[.slice (some ⟨g1, off1, none⟩) l.runes.length cap1, .slice a2 l.els.length cap2] 238)).alloc (.cells #[.int .i64 (Tm.classOf lns r), .slice pa pl pc, .slice sa sl sc] 251)).heap.size := by simp
    have s0 : wC.cell? ⟨w1.heap.size, 0, none⟩ = some (.slice (some ⟨g1, off1, none⟩) l.runes.length cap1) := by rw [hbC.cell (p := ⟨w1.heap.size, 0, none⟩) hlt0, cell_old (by simp), cell_new rfl]; rfl
    have s1 : wC.cell? ⟨w1.heap.size, 1, none⟩ = some (.slice a2 l.els.length cap2) := by rw [hbC.cell (p := ⟨w1.heap.size, 1, none⟩) hlt0, cell_old (by simp), cell_new rfl]; rfl
    have n0 : wC.cell? ⟨w1.heap.size + 1, 0, none⟩ = some (.int .i64 (Tm.classOf lns r)) := by rw [hbC.cell (p := ⟨w1.heap.size + 1, 0, none⟩) hlt1, cell_new (by simp)]; rfl
    have n1 : wC.cell? ⟨w1.heap.size + 1, 1, none⟩ = some (.slice pa pl pc) := by rw [hbC.cell (p := ⟨w1.heap.size + 1, 1, none⟩) hlt1, cell_new (by simp)]; rfl
    have n2 : wC.cell? ⟨w1.heap.size + 1, 2, none⟩ = some (.slice sa sl sc) := by rw [hbC.cell (p := ⟨w1.heap.size + 1, 2, none⟩) hlt1, cell_new (by simp)]; rfl
    have nf : ∀ o, wC.frozen? ⟨w1.heap.size + 1, o, none⟩ = false := fun o => by rw [hbC.frozen (p := ⟨w1.heap.size + 1, o, none⟩) hlt1, frozen_new (by simp)]
    clear hbC hbA hlt0 hlt1
    have HSZ := hide HB1.out.size
    cases hany : (Tm.seqsAt lns r).any fun o => decide (o.runes = l.runes)
    case true =>
      have HT2 : Hid (Tm.twice lns l = true) := by unfold Hid; rw [HT.out, hany]
      go_wp2_with fail
      refine (refuse_yes 2 _).mono ?_
      rintro e w2' ⟨rfl, rfl⟩
      go_wp2
      exact ⟨rfl, lineAns_twice HP.out HT2.out rfl (HB1.out.trans (HBC.out.mono HSZ.out))⟩
    have HT2 : Hid (Tm.twice lns l = false) := by unfold Hid; rw [HT.out, hany]
    clear hany
    go_wp2_with fail
    refine (refuse_no 2 _).mono ?_
    rintro e wC' ⟨rfl, rfl⟩
    go_wp2_with fail
    refine (ContainsFunc_light _ l.els _ (HSEQ.out.2.1.below HBC.out HSEQ.out.2.1.2.1) (by omega)).mono ?_
    rintro e wD ⟨rfl, hbD⟩
    have hsD := hbD.size
    have HBD : Hid (Below w1.heap.size w1 wD) := HBC.out.trans (hbD.mono (by omega))
    have k0 : w1.heap.size < wC'.heap.size := by omega
    have k1 : w1.heap.size + 1 < wC'.heap.size := by omega
    have t0 : wD.cell? ⟨w1.heap.size, 0, none⟩ = some (.slice (some ⟨g1, off1, none⟩) l.runes.length cap1) := by rw [hbD.cell (p := ⟨w1.heap.size, 0, none⟩) k0]; exact s0
    have t1 : wD.cell? ⟨w1.heap.size, 1, none⟩ = some (.slice a2 l.els.length cap2) := by rw [hbD.cell (p := ⟨w1.heap.size, 1, none⟩) k0]; exact s1
    have m0 : wD.cell? ⟨w1.heap.size + 1, 0, none⟩ = some (.int .i64 (Tm.classOf lns r)) := by rw [hbD.cell (p := ⟨w1.heap.size + 1, 0, none⟩) k1]; exact n0
    have m1 : wD.cell? ⟨w1.heap.size + 1, 1, none⟩ = some (.slice pa pl pc) := by rw [hbD.cell (p := ⟨w1.heap.size + 1, 1, none⟩) k1]; exact n1
    have m2 : wD.cell? ⟨w1.heap.size + 1, 2, none⟩ = some (.slice sa sl sc) := by rw [hbD.cell (p := ⟨w1.heap.size + 1, 2, none⟩) k1]; exact n2
    have mf : ∀ o, wD.frozen? ⟨w1.heap.size + 1, o, none⟩ = false := fun o => by rw [hbD.frozen (p := ⟨w1.heap.size + 1, o, none⟩) k1]; exact nf o
    clear hbD s0 s1 n0 n1 n2 nf
    cases hlight : l.els.any Tm.lightEl
    case true =>
      have HLT := hide hlight
      clear hlight
      go_wp2_with fail
      refine (refuse_yes 4 _).mono ?_
      rintro e w2' ⟨rfl, rfl⟩
      go_wp2
      exact ⟨rfl, lineAns_light HP.out HT2.out HLT.out rfl (HB1.out.trans (HBD.out.mono HSZ.out))⟩
    have HLT := hide hlight
    clear hlight
    obtain ⟨xs, hxl, hrow, hok⟩ := HSR.out
    rw [HSL.out] at hrow
    have HXL := hide hxl
    have HROW := hide hrow
    have HOK := hide hok
    have HOWD : Hid ((wD.alloc (.cells #[.slice (some ⟨g1, off1, none⟩) l.runes.length cap1, .slice a2 l.els.length cap2] 238)).ownsRow base 238 2 (.slice sa sl sc) sl (seqCells false xs (Tm.seqsAt lns r))) := (owns_below hrow.1 HBD.out).alloc _
    have hbsz : base ≤ wD.heap.size := by have h1 := HBW.out; have h2 := HSZ.out; omega
    clear hxl hrow hok
    go_wp2_with fail
    refine (refuse_no 4 _).mono ?_
    rintro e wD' ⟨rfl, rfl⟩
    go_wp2_with (at_builtin; go_must (refine wpList_append_own_at _ rfl _ _ 247 rfl base 238 i0 (.agg #[.slice none 0 0, .slice none 0 0]) 2 48 Tryz.underlying247 hi hz0 hz1 hz2 rfl (by decide) _ _ _ rfl HOWD.out ⟨wD'.heap.size, 0, none⟩ 1 1 [.slice (some ⟨g1, off1, none⟩) l.runes.length cap1, .slice a2 l.els.length cap2] rfl rfl (news_two rfl) (by intro u hu; simp at hu; rcases hu with rfl | rfl <;> rfl) (by unfold maxLen; omega) (by omega) (by simp; omega) ?_))
    intro sv' w5 hown5 hg5 _ hat5
    have HROWLT : Hid (∀ g, (Value.slice sa sl sc).ownBlock = some g → g < w1.heap.size) := fun g hg => (HROW.out.1.lt g hg).2
    have HBML := hide HMAP.out.lt
    have HBMR : Hid ((Value.slice sa sl sc).ownBlock ≠ some bm) := fun e => by have := HROW.out.2 bm e; rw [HREP.out.nd.hue] at this; omega
    have HBDR : Hid ((Value.slice sa sl sc).ownBlock ≠ some bd) := fun e => by have := HROW.out.2 bd e; rw [HREP.out.dr.hue] at this; omega
    have HSDD := hide hsD
    have q0 : w5.cell? ⟨w1.heap.size + 1, 0, none⟩ = some (.int .i64 (Tm.classOf lns r)) := hg5.cell (by rw [cell_old (by omega)]; exact m0) (fun e => by have := HROWLT.out _ e.symm; simp at this; omega)
    have q1 : w5.cell? ⟨w1.heap.size + 1, 1, none⟩ = some (.slice pa pl pc) := hg5.cell (by rw [cell_old (by omega)]; exact m1) (fun e => by have := HROWLT.out _ e.symm; simp at this; omega)
    have q2 : w5.cell? ⟨w1.heap.size + 1, 2, none⟩ = some (.slice sa sl sc) := hg5.cell (by rw [cell_old (by omega)]; exact m2) (fun e => by have := HROWLT.out _ e.symm; simp at this; omega)
    have qf : ∀ o, w5.frozen? ⟨w1.heap.size + 1, o, none⟩ = false := fun o => by
      rw [World.frozen?_of_block (w := wD'.alloc _) (a := ⟨w1.heap.size + 1, o, none⟩) (hg5.block (w1.heap.size + 1) (by simp; omega) (fun e => by have := HROWLT.out _ e.symm; omega)), frozen_old (by omega)]; exact mf o
    have u0 : w5.cell? ⟨w1.heap.size, 0, none⟩ = some (.slice (some ⟨g1, off1, none⟩) l.runes.length cap1) := hg5.cell (by rw [cell_old (by omega)]; exact t0) (fun e => by have := HROWLT.out _ e.symm; simp at this)
    have u1 : w5.cell? ⟨w1.heap.size, 1, none⟩ = some (.slice a2 l.els.length cap2) := hg5.cell (by rw [cell_old (by omega)]; exact t1) (fun e => by have := HROWLT.out _ e.symm; simp at this)
    have e0 : w5.cell? ⟨bd, 0, none⟩ = some (.map (some bm)) := hg5.cell (by rw [cell_old (by omega), HBD.out.cell (p := ⟨bd, 0, none⟩) dl]; exact d0) (fun e => HBDR.out e.symm)
    have hz5 := hg5.size
    simp only [World.size_alloc] at hz5
    have HOWN5 : Hid (w5.ownsRow base 238 2 sv' (sl + 1) (seqCells false xs (Tm.seqsAt lns r) ++ [.slice (some ⟨g1, off1, none⟩) l.runes.length cap1, .slice a2 l.els.length cap2])) := hown5
    have HG5 := hide hg5
    have HAT5 : Hid (sv'.ownBlock = (Value.slice sa sl sc).ownBlock ∨ sv'.ownBlock = some (wD'.alloc (.cells #[.slice (some ⟨g1, off1, none⟩) l.runes.length cap1, .slice a2 l.els.length cap2] 238)).heap.size) := hat5.imp id (fun h => h.trans (by simp))
    have bn1 : ¬ bd = w1.heap.size + 1 := by omega
    have bn2 : ¬ w1.heap.size + 1 = bd := by omega
    have bn3 : ¬ w1.heap.size = bd := by omega
    obtain ⟨a5, c5, rfl⟩ := (Reads.of_owns hown5).shape
    clear hown5 hg5 hat5 m0 m1 m2 mf t0 t1 d0 HOWD
    go_wp2_with fail
    have HM6 : Hid (MapIs (w5.setCell ⟨w1.heap.size + 1, 2, none⟩ (.slice a5 (sl + 1) c5)).drew bm lns.length f) := HMAP.out.same (by
      rw [show ((w5.setCell ⟨w1.heap.size + 1, 2, none⟩ (.slice a5 (sl + 1) c5)).drew).heap[bm]? = (w5.setCell ⟨w1.heap.size + 1, 2, none⟩ (.slice a5 (sl + 1) c5)).heap[bm]? from rfl, Below.heap_setCell _ _ _ _ (by have := HBML.out; simp; omega), HG5.out.block bm (by have := HBML.out; simp; omega) (fun e => HBMR.out e.symm), Below.heap_alloc _ _ _ (by have := HBML.out; omega)]
      exact HBD.out.block bm HBML.out)
    obtain ⟨w7, hrun, hm7, hg7⟩ := HM6.out.put (by unfold maxLen; omega) (wf_rune hr0) (.agg #[.int .i64 (Tm.classOf lns r), .slice pa pl pc, .slice a5 (sl + 1) c5])
    have HPD' : Hid (Data w1 (freshCol col w.heap.size) (.slice pa pl pc) 1 (Tm.parts lns r).length (ints (Tm.parts lns r))) := by unfold Hid; rw [HPL.out]; exact HPD.out
    have hnd7 := Nd.grown (o := .cells #[.slice (some ⟨g1, off1, none⟩) l.runes.length cap1, .slice a2 l.els.length cap2] 238) (nb := w1.heap.size + 1) HREP.out.nd HALL.out HKIND.out HHEAD.out hr0.1 HPD'.out HXL.out (by rw [HSL.out]; exact HROW.out) HOK.out HSEQ.out HBD.out ⟨by omega, by omega⟩ (by rw [HSL.out]; exact HOWN5.out) HG5.out HAT5.out rfl hg7 hm7
    have HND7 := hide hnd7.1
    have HK7 := hide hnd7.2
    have HDR7 : Hid (Dr w7 (recol (freshCol col w.heap.size) (wD'.alloc (.cells #[.slice (some ⟨g1, off1, none⟩) l.runes.length cap1, .slice a2 l.els.length cap2] 238)).heap.size r) base bd bm line vp vw) := HREP.out.dr.keep HK7.out ⟨by omega, by omega⟩
    have HPT7 : Hid (Pt w7 (recol (freshCol col w.heap.size) (wD'.alloc (.cells #[.slice (some ⟨g1, off1, none⟩) l.runes.length cap1, .slice a2 l.els.length cap2] 238)).heap.size r) base vp lns) := HREP.out.pt.keep HK7.out ⟨by omega, by omega⟩
    have HSEQ7 : Hid (SeqOk w7 (recol (freshCol col w.heap.size) (wD'.alloc (.cells #[.slice (some ⟨g1, off1, none⟩) l.runes.length cap1, .slice a2 l.els.length cap2] 238)).heap.size r) (.slice (some ⟨g1, off1, none⟩) l.runes.length cap1, .slice a2 l.els.length cap2) l) := ⟨HSEQ.out.1.keep HK7.out ⟨by omega, by omega⟩, HSEQ.out.2.keep HK7.out ⟨by omega, by omega⟩⟩
    obtain ⟨xs2, hxl2, hrow2, hok2⟩ := HREP.out.wt.keep HK7.out ⟨by omega, by omega⟩ ⟨by omega, by omega⟩
    have HXL2 := hide hxl2
    have HROW2 := hide hrow2
    have HOK2 := hide hok2
    obtain ⟨wl, hwl⟩ : ∃ wl, (Tm.wLines lns).length = wl := ⟨_, rfl⟩
    have hwle : wl ≤ 8192 := by have := wLines_le lns; omega
    have HWL := hide hwl
    have hrow2' := hrow2.1
    rw [hwl] at hrow2'
    obtain ⟨va, vc, rfl⟩ := (Reads.of_owns hrow2').shape
    have hz7 := hg7.size
    have hz6 : (w5.setCell ⟨w1.heap.size + 1, 2, none⟩ (.slice a5 (sl + 1) c5)).drew.heap.size = w5.heap.size := by simp [World.setCell, World.drew]
    have c60 : (w5.setCell ⟨w1.heap.size + 1, 2, none⟩ (.slice a5 (sl + 1) c5)).drew.cell? ⟨w1.heap.size, 0, none⟩ = some (.slice (some ⟨g1, off1, none⟩) l.runes.length cap1) := (World.cell?_setCell_other _ _ _ _ (by simp)).trans u0
    have c61 : (w5.setCell ⟨w1.heap.size + 1, 2, none⟩ (.slice a5 (sl + 1) c5)).drew.cell? ⟨w1.heap.size, 1, none⟩ = some (.slice a2 l.els.length cap2) := (World.cell?_setCell_other _ _ _ _ (by simp)).trans u1
    have HC0 := hide (hg7.cell c60 (by have := HBML.out; simp; omega))
    have HC1 := hide (hg7.cell c61 (by have := HBML.out; simp; omega))
    have HBF : Hid (Sole base bm w w7) := by
      have h1 : Below base w wD' := (HB1.out.mono HBW.out).trans (HBD.out.mono (by have := HBW.out; have := HSZ.out; omega))
      have h2 := (h1.alloc hbsz (.cells #[.slice (some ⟨g1, off1, none⟩) l.runes.length cap1, .slice a2 l.els.length cap2] 238)).grown HG5.out (by simp; omega) (fun j hj => (HROW.out.1.lt j hj).1)
      have h3 : Below base w (w5.setCell ⟨w1.heap.size + 1, 2, none⟩ (.slice a5 (sl + 1) c5)).drew := (h2.setCell (p := ⟨w1.heap.size + 1, 2, none⟩) (by have := HBW.out; have := HSZ.out; simp; omega) _).drew
      exact (Sole.of h3).grown hg7 (by rw [hz6]; omega) (fun j hj => by cases hj; exact .inr rfl)
    clear hm7 hg7 hnd7 hxl2 hrow2 hok2 hrow2' hwl c60 c61 hz6
    have y1 := HDR7.out.c1
    have y3 := HDR7.out.c3
    have hl7 := HDR7.out.lt
    have x70 := HC0.out
    have x71 := HC1.out
    have HOWN : Hid ((w7.drew.alloc (.cells #[.int .i64 line, .slice (some ⟨g1, off1, none⟩) l.runes.length cap1, .slice a2 l.els.length cap2] 240)).ownsRow base 240 3 (.slice va wl vc) wl (seqCells true xs2 (Tm.wLines lns))) := (ownsRow_same (w' := w7.drew) (by have := HROW2.out.1; rw [HWL.out] at this; exact this) (fun _ _ => rfl)).alloc _
    have HNEWS : Hid (∀ j u, [Value.int .i64 line, .slice (some ⟨g1, off1, none⟩) l.runes.length cap1, .slice a2 l.els.length cap2][j]? = some u → (w7.drew.alloc (.cells #[.int .i64 line, .slice (some ⟨g1, off1, none⟩) l.runes.length cap1, .slice a2 l.els.length cap2] 240)).cell? ((⟨w7.heap.size, 0, none⟩ : Addr).add j) = some u) := news_three rfl
    have HONE : Hid (∀ u ∈ [Value.int .i64 line, .slice (some ⟨g1, off1, none⟩) l.runes.length cap1, .slice a2 l.els.length cap2], u.oneCell' = true) := by intro u hu; simp at hu; rcases hu with rfl | rfl | rfl <;> rfl
    have HNB : Hid ((Value.slice va wl vc).ownBlock ≠ some bd) := fun e => by have := HROW2.out.2 bd e; rw [HDR7.out.hue] at this; omega
    have HBA : Hid (base ≤ (w7.drew.alloc (.cells #[.int .i64 line, .slice (some ⟨g1, off1, none⟩) l.runes.length cap1, .slice a2 l.els.length cap2] 240)).heap.size) := by have h1 := HDR7.out.from_; have h2 := HDR7.out.lt; unfold Hid; simp; omega
    have HC2 : Hid ((w7.drew.alloc (.cells #[.int .i64 line, .slice (some ⟨g1, off1, none⟩) l.runes.length cap1, .slice a2 l.els.length cap2] 240)).cell? ⟨bd, 3, none⟩ = some (.slice va wl vc)) := by unfold Hid; rw [cell_old (by exact hl7)]; exact y3
    have HF2 : Hid ((w7.drew.alloc (.cells #[.int .i64 line, .slice (some ⟨g1, off1, none⟩) l.runes.length cap1, .slice a2 l.els.length cap2] 240)).frozen? ⟨bd, 3, none⟩ = false) := by unfold Hid; rw [frozen_old (by exact hl7)]; exact HDR7.out.free 3
    have HL2 : Hid (bd < (w7.drew.alloc (.cells #[.int .i64 line, .slice (some ⟨g1, off1, none⟩) l.runes.length cap1, .slice a2 l.els.length cap2] 240)).heap.size) := by unfold Hid; simp; omega
    have HBG : Hid (Sole base bm w (w7.drew.alloc (.cells #[.int .i64 line, .slice (some ⟨g1, off1, none⟩) l.runes.length cap1, .slice a2 l.els.length cap2] 240))) := HBF.out.drew.alloc (by have h1 := HDR7.out.from_; have h2 := HDR7.out.lt; simp; omega) _
    go_region
    all_goals go_wp2_with fail
    all_goals go_region_law (refine step_append_own rfl _ _ 200 rfl base 240 i1 (.agg #[.int .i64 0, .slice none 0 0, .slice none 0 0]) 3 56 Tryz.underlying200 hi' hy0 hy1 hy2 rfl (by decide) _ _ _ (by simp [Act.eval]) HOWN.out ⟨w7.heap.size, 0, none⟩ 1 1 [.int .i64 line, .slice (some ⟨g1, off1, none⟩) l.runes.length cap1, .slice a2 l.els.length cap2] (by simp [Act.eval]) rfl HNEWS.out HONE.out (by unfold maxLen; omega) (by omega) HBA.out ?_; intro v' w4 hown4 hg4 hat4; have HOWN4 := hide hown4; have HG4 := hide hg4; have HAT4 := hide hat4; have z2 := hg4.cell HC2.out (fun e => HNB.out e.symm); have zf : w4.frozen? ⟨bd, 3, none⟩ = false := (World.frozen?_of_block (hg4.block bd HL2.out (fun e => HNB.out e.symm))).trans HF2.out; obtain ⟨a4, c4, rfl⟩ := (Reads.of_owns hown4).shape; clear hown4 hg4 hat4)
    all_goals go_wp2
    all_goals go_end0
    all_goals exact lineAns_ok HP.out HT2.out HLT.out rfl ((HBG.out.grown HG4.out HBA.out (fun j hj => .inl (HROW2.out.1.lt j hj).1)).setCell (p := ⟨bd, 3, none⟩) HDR7.out.from_ _) ⟨_, _, _, Rep.weigh (x := (.slice (some ⟨g1, off1, none⟩) l.runes.length cap1, .slice a2 l.els.length cap2)) HDR7.out HND7.out HPT7.out HXL2.out HROW2.out HOK2.out HSEQ7.out HREP.out.fit (fun q hq => by rw [HK7.out.same q (by have h1 := HREP.out.dr.from_; have h2 := HREP.out.dr.lt; omega)]; exact HREP.out.low q hq) HFIT.out HKIND.out (by rw [HWL.out, HNUM.out]; exact HOWN4.out) HG4.out HAT4.out⟩
end Go.Proofs.YtmnjjjhmnhfapaaGreatDoor
