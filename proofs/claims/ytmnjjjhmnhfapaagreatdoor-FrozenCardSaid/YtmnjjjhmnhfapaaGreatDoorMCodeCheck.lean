import Derived.BigRegion
import Derived.Test.YtmnjjjhmnhfapaaGreatDoorMRepW
import Derived.Test.YtmnjjjhmnhfapaaGreatDoorMCodeSeq
import Derived.Test.YtmnjjjhmnhfapaaGreatDoorMCodeSeqs
import Derived.Test.YtmnjjjhmnhfapaaGreatDoorMCodeEnds
namespace Go.Proofs.YtmnjjjhmnhfapaaGreatDoor
open Go.RowKit
theorem Tryz.infoSeq : (Tryz.prog.info? 238).map (fun i => (i.zero, i.size, i.bytes)) = some (some (.agg #[.slice none 0 0, .slice none 0 0]), 2, 48) := by kernel_rfl
theorem Tryz.infoWeighed : (Tryz.prog.info? 240).map (fun i => (i.zero, i.size, i.bytes)) = some (some (.agg #[.int .i64 0, .slice none 0 0, .slice none 0 0]), 3, 56) := by kernel_rfl

theorem parse_weigh_fit {n : Int} {ws : List (List UInt8)} {l : Tm.Ln} (h : Tm.parseWords n ([119] :: ws) = some l) : Tm.Fit l ∧ l.kind = [119] ∧ l.num = n := by
  by_cases hs : [61] ∈ ws
  · obtain ⟨a, b, rfl, hb⟩ := Tm.at_sign hs
    rw [Tm.parse_weigh hb] at h
    split at h
    · rename_i hc
      cases he : Tm.elemsOf b with
      | none => rw [he] at h; cases h
      | some es =>
        rw [he] at h
        simp at h
        subst h
        exact ⟨Tm.fit_weigh hc.1 hc.2.1 hc.2.2.1 hc.2.2.2.1 hc.2.2.2.2 he, rfl, rfl⟩
    · cases h
  · rw [Tm.parse_unsigned hs] at h; cases h

set_option maxRecDepth 100000 in
set_option maxHeartbeats 4000000 in
theorem readWeighing_any (vs : Value) (bs : List ByteArray) (col : Nat → Int) (base bd bm : Nat) (line : Int) (vp vw : Value) (lns : List Tm.Ln) (w : World) (hr : Reads w vs 1 bs.length (bs.map Value.string)) (hl : bs.length ≤ 8193) (hz : ∀ b ∈ bs, b.size ≤ 8192)
    (hrep : Rep w col base bd bm line vp vw lns) (hn : lns.length ≤ 8192) :
    Calls Tryz.prog 180 #[.pointer (some ⟨bd, 0, none⟩), vs] w fun e w' => lineAns (Tm.parseWords line ([119] :: lets bs)) lns base bd bm line w e w' := by
  have HR := hide hr
  have HZ := hide hz
  obtain ⟨i0, hi, hz0, hz1, hz2⟩ := info_parts Tryz.infoSeq
  obtain ⟨i1, hi', hy0, hy1, hy2⟩ := info_parts Tryz.infoWeighed
  obtain ⟨a, cap, rfl⟩ := hr.shape
  clear hr hz
  go_enter Tryz.func180, Tryz.ntmps180
  go_wp2_with fail
  refine (readSequence_any _ bs line _ HR.out hl HZ.out).mono ?_
  rintro e w1 ⟨hans, hb1⟩
  cases hp : Tm.parseWords line ([119] :: lets bs) with
  | none =>
    rw [hp] at hans
    obtain rfl : e = _ := hans
    have HP := hide hp
    have HB1 := hide hb1
    clear hp hb1 hrep
    go_wp2
    exact ⟨rfl, lineAns_none HP.out rfl HB1.out⟩
  | some l =>
    rw [hp] at hans
    obtain ⟨v1, v2, rfl, hrd1, hbl1, hrd2, hbl2⟩ := hans
    obtain ⟨hfit, hkind, hnum⟩ := parse_weigh_fit hp
    have HFIT := hide hfit
    have HKIND := hide hkind
    have HNUM := hide hnum
    have HP := hide hp
    have HREP : Hid (Rep w1 (freshCol col w.heap.size) base bd bm line vp vw lns) := hrep.fresh.below hb1
    have HB1 := hide hb1
    have HBW : Hid (base ≤ w.heap.size) := by have h1 := hrep.dr.from_; have h2 := hrep.dr.lt; unfold Hid; omega
    obtain ⟨r, rs, hrs⟩ : ∃ r rs, l.runes = r :: rs := by
      cases h : l.runes with
      | nil => exact absurd h hfit.some
      | cons x y => exact ⟨x, y, rfl⟩
    have hr0 := hfit.rune r (by rw [hrs]; simp)
    have HHEAD : Hid (l.runes.getD 0 0 = r) := by unfold Hid; rw [hrs]; rfl
    have HT : Hid (Tm.twice lns l = (Tm.seqsAt lns r).any fun o => decide (o.runes = l.runes)) := by unfold Hid; rw [Tm.twice_weigh hkind, HHEAD.out]
    have HSEQ : Hid (SeqOk w1 (freshCol col w.heap.size) (v1, v2) l) := ⟨⟨hrd1, fun g hg => freshCol_new (hbl1 g hg)⟩, ⟨hrd2, fun g hg => freshCol_new (hbl2 g hg)⟩⟩
    have hlen := hfit.few
    have hlen2 := hfit.els
    obtain ⟨g1, off1, cap1, rfl, hg1, hcells⟩ := hrd1.form (by rw [ints_length]; rw [hrs]; simp)
    have x0 : w1.cell? ⟨g1, off1, none⟩ = some (.int .i64 r) := hcells 0 _ (by rw [hrs]; rfl)
    obtain ⟨a2, cap2, rfl⟩ := hrd2.shape
    have hpos : 0 < l.runes.length := by rw [hrs]; simp
    obtain ⟨f, pv, sv, hmap, hfv, hpd, hsr, hall⟩ := HREP.out.nd.look hr0.1
    have d0 := HREP.out.dr.c0
    have dl := HREP.out.dr.lt
    have HPD := hide hpd
    have HSR := hide hsr
    have HALL := hide hall
    have HMAP := hide hmap
    obtain ⟨pa, pc, rfl⟩ := HPD.out.1.shape
    obtain ⟨sa, sc, rfl⟩ := HSR.out.rd.shape
    clear hp hb1 hrep hrd1 hrd2 hbl1 hbl2 hfit hkind hnum hrs hcells hpd hsr hall hmap
    have g1n : ¬ g1 = w1.heap.size := by omega
    have bdn : ¬ bd = w1.heap.size := by omega
    have HMA : Hid (MapIs (w1.alloc (.cells #[.slice (some ⟨g1, off1, none⟩) l.runes.length cap1, .slice a2 l.els.length cap2] 238)) bm lns.length f) := HMAP.out.same (Below.heap_alloc _ _ _ HMAP.out.lt)
    go_wp2_with (at_lookup; go_must (refine wpList_look rfl _ _ rfl bm lns.length f rfl HMA.out r rfl (wf_rune hr0) _ hfv ?_))
    obtain ⟨sl, hsl⟩ : ∃ sl, (Tm.seqsAt lns r).length = sl := ⟨_, rfl⟩
    have hsle : sl ≤ 8192 := by have := seqsAt_le lns r; omega
    have HSL := hide hsl
    obtain ⟨pl, hpl⟩ : ∃ pl, (Tm.parts lns r).length = pl := ⟨_, rfl⟩
    have HPL := hide hpl
    rw [hsl, hpl]
    rw [hsl, hpl] at hfv
    rw [hsl] at HSR
    rw [hpl] at HPD
    clear hsl hpl
    have hbA : Below w1.heap.size w1 ((w1.alloc (.cells #[.slice (some ⟨g1, off1, none⟩) l.runes.length cap1, .slice a2 l.els.length cap2] 238)).alloc (.cells #[.int .i64 (Tm.classOf lns r), .slice pa pl pc, .slice sa sl sc] 251)) := ((Below.refl _ _).alloc (Nat.le_refl _) _).alloc (by simp) _
    refine (has_any _ _ (Tm.seqsAt lns r) l.runes _ (HSR.out.rd.below hbA) (HSEQ.out.1.1.below hbA HSEQ.out.1.1.2.1) (by rw [HSL.out]; omega) (fun o ho => by have := (HREP.out.fit o (List.mem_filter.1 ho).1).few; omega) (by omega) (seqs_els HREP.out.fit)).mono ?_
    rintro e wC ⟨rfl, hbC⟩
    have hsC := hbC.size
    simp only [World.size_alloc] at hsC
    have HBC : Hid (Below w1.heap.size w1 wC) := hbA.trans (hbC.mono (by simp; omega))
    have hlt0 : w1.heap.size < ((w1.alloc (.cells #[.slice (some ⟨g1, off1, none⟩) l.runes.length cap1, .slice a2 l.els.length cap2] 238)).alloc (.cells #[.int .i64 (Tm.classOf lns r), .slice pa pl pc, .slice sa sl sc] 251)).heap.size := by simp; omega
    have hlt1 : w1.heap.size + 1 < ((w1.alloc (.cells #[.slice (some ⟨g1, off1, none⟩) l.runes.length cap1, .slice a2 l.els.length cap2] 238)).alloc (.cells #[.int .i64 (Tm.classOf lns r), .slice pa pl pc, .slice sa sl sc] 251)).heap.size := by simp
    have s0 : wC.cell? ⟨w1.heap.size, 0, none⟩ = some (.slice (some ⟨g1, off1, none⟩) l.runes.length cap1) := by rw [hbC.cell (p := ⟨w1.heap.size, 0, none⟩) hlt0, cell_old (by simp), cell_new rfl]; rfl
    have s1 : wC.cell? ⟨w1.heap.size, 1, none⟩ = some (.slice a2 l.els.length cap2) := by rw [hbC.cell (p := ⟨w1.heap.size, 1, none⟩) hlt0, cell_old (by simp), cell_new rfl]; rfl
    have n0 : wC.cell? ⟨w1.heap.size + 1, 0, none⟩ = some (.int .i64 (Tm.classOf lns r)) := by rw [hbC.cell (p := ⟨w1.heap.size + 1, 0, none⟩) hlt1, cell_new (by simp)]; rfl
    have n1 : wC.cell? ⟨w1.heap.size + 1, 1, none⟩ = some (.slice pa pl pc) := by rw [hbC.cell (p := ⟨w1.heap.size + 1, 1, none⟩) hlt1, cell_new (by simp)]; rfl
    have n2 : wC.cell? ⟨w1.heap.size + 1, 2, none⟩ = some (.slice sa sl sc) := by rw [hbC.cell (p := ⟨w1.heap.size + 1, 2, none⟩) hlt1, cell_new (by simp)]; rfl
    have nf : ∀ o, wC.frozen? ⟨w1.heap.size + 1, o, none⟩ = false := fun o => by rw [hbC.frozen (p := ⟨w1.heap.size + 1, o, none⟩) hlt1, frozen_new (by simp)]
    clear hbC hbA hlt0 hlt1
    have HSZ := hide HB1.out.size
    cases hany : (Tm.seqsAt lns r).any fun o => decide (o.runes = l.runes)
    case true =>
      have HT2 : Hid (Tm.twice lns l = true) := by unfold Hid; rw [HT.out, hany]
      go_wp2_with fail
      refine (refuse_yes 2 _).mono ?_
      rintro e w2' ⟨rfl, rfl⟩
      go_wp2
      exact ⟨rfl, lineAns_twice HP.out HT2.out rfl (HB1.out.trans (HBC.out.mono HSZ.out))⟩
    have HT2 : Hid (Tm.twice lns l = false) := by unfold Hid; rw [HT.out, hany]
    clear hany
    go_wp2_with fail
    refine (refuse_no 2 _).mono ?_
    rintro e wC' ⟨rfl, rfl⟩
    go_wp2_with fail
    refine (ContainsFunc_light _ l.els _ (HSEQ.out.2.1.below HBC.out HSEQ.out.2.1.2.1) (by omega)).mono ?_
    rintro e wD ⟨rfl, hbD⟩
    have hsD := hbD.size
    have HBD : Hid (Below w1.heap.size w1 wD) := HBC.out.trans (hbD.mono (by omega))
    have k0 : w1.heap.size < wC'.heap.size := by omega
    have k1 : w1.heap.size + 1 < wC'.heap.size := by omega
    have t0 : wD.cell? ⟨w1.heap.size, 0, none⟩ = some (.slice (some ⟨g1, off1, none⟩) l.runes.length cap1) := by rw [hbD.cell (p := ⟨w1.heap.size, 0, none⟩) k0]; exact s0
    have t1 : wD.cell? ⟨w1.heap.size, 1, none⟩ = some (.slice a2 l.els.length cap2) := by rw [hbD.cell (p := ⟨w1.heap.size, 1, none⟩) k0]; exact s1
    have m0 : wD.cell? ⟨w1.heap.size + 1, 0, none⟩ = some (.int .i64 (Tm.classOf lns r)) := by rw [hbD.cell (p := ⟨w1.heap.size + 1, 0, none⟩) k1]; exact n0
    have m1 : wD.cell? ⟨w1.heap.size + 1, 1, none⟩ = some (.slice pa pl pc) := by rw [hbD.cell (p := ⟨w1.heap.size + 1, 1, none⟩) k1]; exact n1
    have m2 : wD.cell? ⟨w1.heap.size + 1, 2, none⟩ = some (.slice sa sl sc) := by rw [hbD.cell (p := ⟨w1.heap.size + 1, 2, none⟩) k1]; exact n2
    have mf : ∀ o, wD.frozen? ⟨w1.heap.size + 1, o, none⟩ = false := fun o => by rw [hbD.frozen (p := ⟨w1.heap.size + 1, o, none⟩) k1]; exact nf o
    clear hbD s0 s1 n0 n1 n2 nf
    cases hlight : l.els.any Tm.lightEl
    case true =>
      have HLT := hide hlight
      clear hlight
      go_wp2_with fail
      refine (refuse_yes 4 _).mono ?_
      rintro e w2' ⟨rfl, rfl⟩
      go_wp2
      exact ⟨rfl, lineAns_light HP.out HT2.out HLT.out rfl (HB1.out.trans (HBD.out.mono HSZ.out))⟩
    have HLT := hide hlight
    clear hlight
    obtain ⟨xs, hxl, hrow, hok⟩ := HSR.out
    rw [HSL.out] at hrow
    have HXL := hide hxl
    have HROW := hide hrow
    have HOK := hide hok
    have HOWD : Hid ((wD.alloc (.cells #[.slice (some ⟨g1, off1, none⟩) l.runes.length cap1, .slice a2 l.els.length cap2] 238)).ownsRow base 238 2 (.slice sa sl sc) sl (seqCells false xs (Tm.seqsAt lns r))) := (owns_below hrow.1 HBD.out).alloc _
    have hbsz : base ≤ wD.heap.size := by have h1 := HBW.out; have h2 := HSZ.out; omega
    clear hxl hrow hok
    go_wp2_with fail
    refine (refuse_no 4 _).mono ?_
    rintro e wD' ⟨rfl, rfl⟩
    go_wp2_with (at_builtin; go_must (refine wpList_append_own_at _ rfl _ _ 247 rfl base 238 i0 (.agg #[.slice none 0 0, .slice none 0 0]) 2 48 Tryz.underlying247 hi hz0 hz1 hz2 rfl (by decide) _ _ _ rfl HOWD.out ⟨wD'.heap.size, 0, none⟩ 1 1 [.slice (some ⟨g1, off1, none⟩) l.runes.length cap1, .slice a2 l.els.length cap2] rfl rfl (news_two rfl) (by intro u hu; simp at hu; rcases hu with rfl | rfl <;> rfl) (by unfold maxLen; omega) (by omega) (by simp; omega) ?_))
    intro sv' w5 hown5 hg5 _ hat5
    have HROWLT : Hid (∀ g, (Value.slice sa sl sc).ownBlock = some g → g < w1.heap.size) := fun g hg => (HROW.out.1.lt g hg).2
    have HBML := hide HMAP.out.lt
    have HBMR : Hid ((Value.slice sa sl sc).ownBlock ≠ some bm) := fun e => by have := HROW.out.2 bm e; rw [HREP.out.nd.hue] at this; omega
    have HBDR : Hid ((Value.slice sa sl sc).ownBlock ≠ some bd) := fun e => by have := HROW.out.2 bd e; rw [HREP.out.dr.hue] at this; omega
    have HSDD := hide hsD
    have q0 : w5.cell? ⟨w1.heap.size + 1, 0, none⟩ = some (.int .i64 (Tm.classOf lns r)) := hg5.cell (by rw [cell_old (by omega)]; exact m0) (fun e => by have := HROWLT.out _ e.symm; simp at this; omega)
    have q1 : w5.cell? ⟨w1.heap.size + 1, 1, none⟩ = some (.slice pa pl pc) := hg5.cell (by rw [cell_old (by omega)]; exact m1) (fun e => by have := HROWLT.out _ e.symm; simp at this; omega)
    have q2 : w5.cell? ⟨w1.heap.size + 1, 2, none⟩ = some (.slice sa sl sc) := hg5.cell (by rw [cell_old (by omega)]; exact m2) (fun e => by have := HROWLT.out _ e.symm; simp at this; omega)
    have qf : ∀ o, w5.frozen? ⟨w1.heap.size + 1, o, none⟩ = false := fun o => by
      rw [World.frozen?_of_block (w := wD'.alloc _) (a := ⟨w1.heap.size + 1, o, none⟩) (hg5.block (w1.heap.size + 1) (by simp; omega) (fun e => by have := HROWLT.out _ e.symm; omega)), frozen_old (by omega)]; exact mf o
    have u0 : w5.cell? ⟨w1.heap.size, 0, none⟩ = some (.slice (some ⟨g1, off1, none⟩) l.runes.length cap1) := hg5.cell (by rw [cell_old (by omega)]; exact t0) (fun e => by have := HROWLT.out _ e.symm; simp at this)
    have u1 : w5.cell? ⟨w1.heap.size, 1, none⟩ = some (.slice a2 l.els.length cap2) := hg5.cell (by rw [cell_old (by omega)]; exact t1) (fun e => by have := HROWLT.out _ e.symm; simp at this)
    have e0 : w5.cell? ⟨bd, 0, none⟩ = some (.map (some bm)) := hg5.cell (by rw [cell_old (by omega), HBD.out.cell (p := ⟨bd, 0, none⟩) dl]; exact d0) (fun e => HBDR.out e.symm)
    have hz5 := hg5.size
    simp only [World.size_alloc] at hz5
    have HOWN5 : Hid (w5.ownsRow base 238 2 sv' (sl + 1) (seqCells false xs (Tm.seqsAt lns r) ++ [.slice (some ⟨g1, off1, none⟩) l.runes.length cap1, .slice a2 l.els.length cap2])) := hown5
    have HG5 := hide hg5
    have HAT5 : Hid (sv'.ownBlock = (Value.slice sa sl sc).ownBlock ∨ sv'.ownBlock = some (wD'.alloc (.cells #[.slice (some ⟨g1, off1, none⟩) l.runes.length cap1, .slice a2 l.els.length cap2] 238)).heap.size) := hat5.imp id (fun h => h.trans (by simp))
    have bn1 : ¬ bd = w1.heap.size + 1 := by omega
    have bn2 : ¬ w1.heap.size + 1 = bd := by omega
    have bn3 : ¬ w1.heap.size = bd := by omega
    obtain ⟨a5, c5, rfl⟩ := (Reads.of_owns hown5).shape
    clear hown5 hg5 hat5 m0 m1 m2 mf t0 t1 d0 HOWD
    go_wp2_with fail
    have HM6 : Hid (MapIs (w5.setCell ⟨w1.heap.size + 1, 2, none⟩ (.slice a5 (sl + 1) c5)).drew bm lns.length f) := HMAP.out.same (by
      rw [show ((w5.setCell ⟨w1.heap.size + 1, 2, none⟩ (.slice a5 (sl + 1) c5)).drew).heap[bm]? = (w5.setCell ⟨w1.heap.size + 1, 2, none⟩ (.slice a5 (sl + 1) c5)).heap[bm]? from rfl, Below.heap_setCell _ _ _ _ (by have := HBML.out; simp; omega), HG5.out.block bm (by have := HBML.out; simp; omega) (fun e => HBMR.out e.symm), Below.heap_alloc _ _ _ (by have := HBML.out; omega)]
      exact HBD.out.block bm HBML.out)
    obtain ⟨w7, hrun, hm7, hg7⟩ := HM6.out.put (by unfold maxLen; omega) (wf_rune hr0) (.agg #[.int .i64 (Tm.classOf lns r), .slice pa pl pc, .slice a5 (sl + 1) c5])
    have HPD' : Hid (Data w1 (freshCol col w.heap.size) (.slice pa pl pc) 1 (Tm.parts lns r).length (ints (Tm.parts lns r))) := by unfold Hid; rw [HPL.out]; exact HPD.out
    have hnd7 := Nd.grown (o := .cells #[.slice (some ⟨g1, off1, none⟩) l.runes.length cap1, .slice a2 l.els.length cap2] 238) (nb := w1.heap.size + 1) HREP.out.nd HALL.out HKIND.out HHEAD.out hr0.1 HPD'.out HXL.out (by rw [HSL.out]; exact HROW.out) HOK.out HSEQ.out HBD.out ⟨by omega, by omega⟩ (by rw [HSL.out]; exact HOWN5.out) HG5.out HAT5.out rfl hg7 hm7
    have HND7 := hide hnd7.1
    have HK7 := hide hnd7.2
    have HDR7 : Hid (Dr w7 (recol (freshCol col w.heap.size) (wD'.alloc (.cells #[.slice (some ⟨g1, off1, none⟩) l.runes.length cap1, .slice a2 l.els.length cap2] 238)).heap.size r) base bd bm line vp vw) := HREP.out.dr.keep HK7.out ⟨by omega, by omega⟩
    have HPT7 : Hid (Pt w7 (recol (freshCol col w.heap.size) (wD'.alloc (.cells #[.slice (some ⟨g1, off1, none⟩) l.runes.length cap1, .slice a2 l.els.length cap2] 238)).heap.size r) base vp lns) := HREP.out.pt.keep HK7.out ⟨by omega, by omega⟩
    have HSEQ7 : Hid (SeqOk w7 (recol (freshCol col w.heap.size) (wD'.alloc (.cells #[.slice (some ⟨g1, off1, none⟩) l.runes.length cap1, .slice a2 l.els.length cap2] 238)).heap.size r) (.slice (some ⟨g1, off1, none⟩) l.runes.length cap1, .slice a2 l.els.length cap2) l) := ⟨HSEQ.out.1.keep HK7.out ⟨by omega, by omega⟩, HSEQ.out.2.keep HK7.out ⟨by omega, by omega⟩⟩
    obtain ⟨xs2, hxl2, hrow2, hok2⟩ := HREP.out.wt.keep HK7.out ⟨by omega, by omega⟩ ⟨by omega, by omega⟩
    have HXL2 := hide hxl2
    have HROW2 := hide hrow2
    have HOK2 := hide hok2
    obtain ⟨wl, hwl⟩ : ∃ wl, (Tm.wLines lns).length = wl := ⟨_, rfl⟩
    have hwle : wl ≤ 8192 := by have := wLines_le lns; omega
    have HWL := hide hwl
    have hrow2' := hrow2.1
    rw [hwl] at hrow2'
    obtain ⟨va, vc, rfl⟩ := (Reads.of_owns hrow2').shape
    have hz7 := hg7.size
    have hz6 : (w5.setCell ⟨w1.heap.size + 1, 2, none⟩ (.slice a5 (sl + 1) c5)).drew.heap.size = w5.heap.size := by simp [World.setCell, World.drew]
    have c60 : (w5.setCell ⟨w1.heap.size + 1, 2, none⟩ (.slice a5 (sl + 1) c5)).drew.cell? ⟨w1.heap.size, 0, none⟩ = some (.slice (some ⟨g1, off1, none⟩) l.runes.length cap1) := (World.cell?_setCell_other _ _ _ _ (by simp)).trans u0
    have c61 : (w5.setCell ⟨w1.heap.size + 1, 2, none⟩ (.slice a5 (sl + 1) c5)).drew.cell? ⟨w1.heap.size, 1, none⟩ = some (.slice a2 l.els.length cap2) := (World.cell?_setCell_other _ _ _ _ (by simp)).trans u1
    have HC0 := hide (hg7.cell c60 (by have := HBML.out; simp; omega))
    have HC1 := hide (hg7.cell c61 (by have := HBML.out; simp; omega))
    have HBF : Hid (Sole base bm w w7) := by
      have h1 : Below base w wD' := (HB1.out.mono HBW.out).trans (HBD.out.mono (by have := HBW.out; have := HSZ.out; omega))
      have h2 := (h1.alloc hbsz (.cells #[.slice (some ⟨g1, off1, none⟩) l.runes.length cap1, .slice a2 l.els.length cap2] 238)).grown HG5.out (by simp; omega) (fun j hj => (HROW.out.1.lt j hj).1)
      have h3 : Below base w (w5.setCell ⟨w1.heap.size + 1, 2, none⟩ (.slice a5 (sl + 1) c5)).drew := (h2.setCell (p := ⟨w1.heap.size + 1, 2, none⟩) (by have := HBW.out; have := HSZ.out; simp; omega) _).drew
      exact (Sole.of h3).grown hg7 (by rw [hz6]; omega) (fun j hj => by cases hj; exact .inr rfl)
    clear hm7 hg7 hnd7 hxl2 hrow2 hok2 hrow2' hwl c60 c61 hz6
    have y1 := HDR7.out.c1
    have y3 := HDR7.out.c3
    have hl7 := HDR7.out.lt
    have x70 := HC0.out
    have x71 := HC1.out
    have HOWN : Hid ((w7.drew.alloc (.cells #[.int .i64 line, .slice (some ⟨g1, off1, none⟩) l.runes.length cap1, .slice a2 l.els.length cap2] 240)).ownsRow base 240 3 (.slice va wl vc) wl (seqCells true xs2 (Tm.wLines lns))) := (ownsRow_same (w' := w7.drew) (by have := HROW2.out.1; rw [HWL.out] at this; exact this) (fun _ _ => rfl)).alloc _
    have HNEWS : Hid (∀ j u, [Value.int .i64 line, .slice (some ⟨g1, off1, none⟩) l.runes.length cap1, .slice a2 l.els.length cap2][j]? = some u → (w7.drew.alloc (.cells #[.int .i64 line, .slice (some ⟨g1, off1, none⟩) l.runes.length cap1, .slice a2 l.els.length cap2] 240)).cell? ((⟨w7.heap.size, 0, none⟩ : Addr).add j) = some u) := news_three rfl
    have HONE : Hid (∀ u ∈ [Value.int .i64 line, .slice (some ⟨g1, off1, none⟩) l.runes.length cap1, .slice a2 l.els.length cap2], u.oneCell' = true) := by intro u hu; simp at hu; rcases hu with rfl | rfl | rfl <;> rfl
    have HNB : Hid ((Value.slice va wl vc).ownBlock ≠ some bd) := fun e => by have := HROW2.out.2 bd e; rw [HDR7.out.hue] at this; omega
    have HBA : Hid (base ≤ (w7.drew.alloc (.cells #[.int .i64 line, .slice (some ⟨g1, off1, none⟩) l.runes.length cap1, .slice a2 l.els.length cap2] 240)).heap.size) := by have h1 := HDR7.out.from_; have h2 := HDR7.out.lt; unfold Hid; simp; omega
    have HC2 : Hid ((w7.drew.alloc (.cells #[.int .i64 line, .slice (some ⟨g1, off1, none⟩) l.runes.length cap1, .slice a2 l.els.length cap2] 240)).cell? ⟨bd, 3, none⟩ = some (.slice va wl vc)) := by unfold Hid; rw [cell_old (by exact hl7)]; exact y3
    have HF2 : Hid ((w7.drew.alloc (.cells #[.int .i64 line, .slice (some ⟨g1, off1, none⟩) l.runes.length cap1, .slice a2 l.els.length cap2] 240)).frozen? ⟨bd, 3, none⟩ = false) := by unfold Hid; rw [frozen_old (by exact hl7)]; exact HDR7.out.free 3
    have HL2 : Hid (bd < (w7.drew.alloc (.cells #[.int .i64 line, .slice (some ⟨g1, off1, none⟩) l.runes.length cap1, .slice a2 l.els.length cap2] 240)).heap.size) := by unfold Hid; simp; omega
    have HBG : Hid (Sole base bm w (w7.drew.alloc (.cells #[.int .i64 line, .slice (some ⟨g1, off1, none⟩) l.runes.length cap1, .slice a2 l.els.length cap2] 240))) := HBF.out.drew.alloc (by have h1 := HDR7.out.from_; have h2 := HDR7.out.lt; simp; omega) _
    go_region
    all_goals go_wp2_with fail
    all_goals go_region_law (refine step_append_own rfl _ _ 200 rfl base 240 i1 (.agg #[.int .i64 0, .slice none 0 0, .slice none 0 0]) 3 56 Tryz.underlying200 hi' hy0 hy1 hy2 rfl (by decide) _ _ _ (by simp [Act.eval]) HOWN.out ⟨w7.heap.size, 0, none⟩ 1 1 [.int .i64 line, .slice (some ⟨g1, off1, none⟩) l.runes.length cap1, .slice a2 l.els.length cap2] (by simp [Act.eval]) rfl HNEWS.out HONE.out (by unfold maxLen; omega) (by omega) HBA.out ?_; intro v' w4 hown4 hg4 hat4; have HOWN4 := hide hown4; have HG4 := hide hg4; have HAT4 := hide hat4; have z2 := hg4.cell HC2.out (fun e => HNB.out e.symm); have zf : w4.frozen? ⟨bd, 3, none⟩ = false := (World.frozen?_of_block (hg4.block bd HL2.out (fun e => HNB.out e.symm))).trans HF2.out; obtain ⟨a4, c4, rfl⟩ := (Reads.of_owns hown4).shape; clear hown4 hg4 hat4)
    all_goals go_wp2
    all_goals go_end0
    all_goals exact lineAns_ok HP.out HT2.out HLT.out rfl ((HBG.out.grown HG4.out HBA.out (fun j hj => .inl (HROW2.out.1.lt j hj).1)).setCell (p := ⟨bd, 3, none⟩) HDR7.out.from_ _) ⟨_, _, _, Rep.weigh (x := (.slice (some ⟨g1, off1, none⟩) l.runes.length cap1, .slice a2 l.els.length cap2)) HDR7.out HND7.out HPT7.out HXL2.out HROW2.out HOK2.out HSEQ7.out HREP.out.fit (fun q hq => by rw [HK7.out.same q (by have h1 := HREP.out.dr.from_; have h2 := HREP.out.dr.lt; omega)]; exact HREP.out.low q hq) HFIT.out HKIND.out (by rw [HWL.out, HNUM.out]; exact HOWN4.out) HG4.out HAT4.out⟩
end Go.Proofs.YtmnjjjhmnhfapaaGreatDoor
namespace Go.Proofs.YtmnjjjhmnhfapaaGreatDoor
open Go.RowKit
theorem Tryz.infoParted : (Tryz.prog.info? 234).map (fun i => (i.zero, i.size, i.bytes)) = some (some (.agg #[.int .i64 0, .int .i64 0]), 2, 16) := by kernel_rfl

theorem parse_makeup_count {n : Int} {ws : List (List UInt8)} (h2 : ws.length ≠ 2) (h3 : ws.length ≠ 3) : Tm.parseWords n ([100] :: ws) = none := by
  rw [Tm.parse_nosign (by simp)]
  have : Tm.fits [100] (ws.map Tm.num) 0 false = false := by
    simp [Tm.fits]
    exact ⟨h2, h3⟩
  rw [this]; simp
theorem parse_makeup {n : Int} {ws : List (List UInt8)} (h : ws.length = 2 ∨ ws.length = 3) : Tm.parseWords n ([100] :: ws) = if ws.all Tm.runeOk = true then some ⟨[100], ws.map Tm.num, [], n⟩ else none := by
  rw [Tm.parse_nosign (by simp)]
  have : Tm.fits [100] (ws.map Tm.num) 0 false = true := by
    simp [Tm.fits]
    exact h
  rw [this, Bool.and_true]

set_option maxRecDepth 100000 in
set_option maxHeartbeats 2000000 in
theorem readMakeup_any (vs : Value) (bs : List ByteArray) (col : Nat → Int) (base bd bm : Nat) (line : Int) (vp vw : Value) (lns : List Tm.Ln) (w : World) (hr : Reads w vs 1 bs.length (bs.map Value.string)) (hl : bs.length ≤ 8193) (hz : ∀ b ∈ bs, b.size ≤ 8192)
    (hrep : Rep w col base bd bm line vp vw lns) (hn : lns.length ≤ 8192) :
    Calls Tryz.prog 179 #[.pointer (some ⟨bd, 0, none⟩), vs] w fun e w' => lineAns (Tm.parseWords line ([100] :: lets bs)) lns base bd bm line w e w' := by
  have HR := hide hr
  have HZ := hide hz
  obtain ⟨i0, hi, hz0, hz1, hz2⟩ := info_parts Tryz.infoParted
  obtain ⟨va, vc, rfl⟩ := (Reads.of_owns hrep.pt.1).shape
  obtain ⟨a, cap, rfl⟩ := hr.shape
  clear hr hz
  by_cases hcount : bs.length ≠ 2 ∧ bs.length ≠ 3
  · obtain ⟨h2, h3⟩ := hcount
    have hd : ((bs.length : Int) != 2) = true := by simp; omega
    have hd' : ((bs.length : Int) != 3) = true := by simp; omega
    have HN := hide (parse_makeup_count (n := line) (ws := lets bs) (by rw [lets_length]; exact h2) (by rw [lets_length]; exact h3))
    clear h2 h3 hrep
    go_enter Tryz.func179, Tryz.ntmps179
    go_wp2_with fail
    refine (refuse_yes 1 _).mono ?_
    rintro e w' ⟨rfl, rfl⟩
    go_wp2
    exact ⟨rfl, lineAns_none HN.out rfl (Below.refl _ _)⟩
  have hcount' : bs.length = 2 ∨ bs.length = 3 := by omega
  have hcnt : bs.length = 2 ∨ bs.length = 3 := hcount'
  have HP := hide (parse_makeup (n := line) (ws := lets bs) (by rw [lets_length]; exact hcount'))
  have hdl := dLines_le lns
  have hwalk : ∀ Q : Prop, (((bs.length : Int) != 2) = false → Q) → (((bs.length : Int) != 2) = true → ((bs.length : Int) != 3) = false → Q) → Q := by
    intro Q h1 h2
    rcases hcnt with h | h
    · exact h1 (by rw [h]; rfl)
    · exact h2 (by rw [h]; rfl) (by rw [h]; rfl)
  refine hwalk _ (fun hd => ?_) (fun hd hd' => ?_)
  all_goals
    go_enter Tryz.func179, Tryz.ntmps179
    go_wp2_with fail
    refine (refuse_no 1 _).mono ?_
    rintro e w' ⟨rfl, rfl⟩
    go_wp2_with fail
    refine (readRunes_any _ bs _ HR.out hl HZ.out).mono ?_
    rintro e w1 ⟨hans, hb1⟩
    unfold runesAns at hans
    rw [all_lets, nums_lets] at hans
    cases ha : (lets bs).all Tm.runeOk
    · rw [ha] at hans
      obtain rfl : e = _ := hans
      have HN : Hid (Tm.parseWords line ([100] :: lets bs) = none) := by unfold Hid; rw [HP.out, if_neg (by rw [ha]; simp)]
      have HB1 := hide hb1
      clear hb1 hrep
      go_wp2
      exact ⟨rfl, lineAns_none HN.out rfl HB1.out⟩
    rw [ha] at hans
    obtain ⟨v1, rfl, hrd1, hbl1⟩ := hans
    have hnl : ((lets bs).map Tm.num).length = bs.length := by rw [List.length_map, lets_length]
    have hrng := Tm.all_range ha
    have HFIT : Hid (Tm.Fit ⟨[100], (lets bs).map Tm.num, [], line⟩) := Tm.fit_parts ha (by rw [lets_length]; exact hcount')
    have HN : Hid (Tm.parseWords line ([100] :: lets bs) = some ⟨[100], (lets bs).map Tm.num, [], line⟩) := by unfold Hid; rw [HP.out, if_pos ha]
    rw [← hnl] at hrd1
    obtain ⟨r, rs, hrs⟩ : ∃ r rs, (lets bs).map Tm.num = r :: rs := by
      cases h : (lets bs).map Tm.num with
      | nil => rw [h] at hnl; simp at hnl; omega
      | cons x y => exact ⟨x, y, rfl⟩
    rw [hrs] at hrd1 HN HFIT hrng hnl
    have hr0 := hrng r (by simp)
    have hrl : rs.length + 1 = bs.length := by simpa using hnl
    have HREP : Hid (Rep w1 (freshCol col w'.heap.size) base bd bm line (.slice va (Tm.dLines lns).length vc) vw lns) := hrep.fresh.below hb1
    have HB1 := hide hb1
    have HBW : Hid (base ≤ w'.heap.size) := by have h1 := hrep.dr.from_; have h2 := hrep.dr.lt; unfold Hid; omega
    have HT : Hid (Tm.twice lns ⟨[100], r :: rs, [], line⟩ = decide (0 < (Tm.parts lns r).length)) := Tm.twice_parts hrep.fit rfl
    clear hrep hb1 hrng ha hrs hnl HR HZ hd
    obtain ⟨g1, off1, cap1, rfl, hg1, hcells⟩ := hrd1.form (by simp [ints])
    have x0 := hcells 0 _ rfl
    rw [Nat.add_zero] at x0
    have hfit1 := hrd1.fits
    have HTL : Hid (Data w1 (freshCol col w'.heap.size) (.slice (some ⟨g1, off1 + 1, none⟩) (bs.length - 1) (cap1 - 1)) 1 rs.length (ints rs)) :=
      ⟨by have := hrd1.tail (by simp); rw [show (r :: rs).length - 1 = bs.length - 1 from by simp; omega] at this; exact this, fun g hg => by
        have hg' : g1 = g := by simpa [Value.ownBlock] using hg
        subst hg'
        exact freshCol_new (hbl1 g1 rfl)⟩
    have hcap1 : ¬ cap1 = 1 := by have := hfit1.2.1; simp at this; omega
    have hcap2 : 1 ≤ cap1 := by have := hfit1.2.1; simp at this; omega
    have hcap3 : cap1 ≤ 9223372036854775807 := by have := hfit1.2.2; unfold maxLen at this; omega
    have hcap4 := hfit1.2.1
    obtain ⟨f, pv, sv, hmap, hfv, hpd, hsr, hall⟩ := HREP.out.nd.look hr0.1
    have d0 := HREP.out.dr.c0
    have dl := HREP.out.dr.lt
    have HPD := hide hpd
    have HSR := hide hsr
    have HALL := hide hall
    have HMAP := hide hmap
    clear hpd hsr hall hmap hrd1 hbl1 hcells hfit1
    obtain ⟨pa, pc, rfl⟩ := HPD.out.1.shape
    obtain ⟨sa, sc, rfl⟩ := HSR.out.rd.shape
    generalize hpl : (Tm.parts lns r).length = pl at *
    have HPL := hide hpl
    clear hpl
    go_wp2_with (at_lookup; go_must (refine wpList_look rfl _ _ rfl bm lns.length f rfl HMAP.out r rfl (wf_rune hr0) _ hfv ?_))
    have hbw : Below w1.heap.size w1 (w1.alloc (.cells #[.int .i64 (Tm.classOf lns r), .slice pa pl pc, .slice sa (Tm.seqsAt lns r).length sc] 251)) := (Below.refl _ _).alloc (Nat.le_refl _) _
    refine (hasParts_any _ pl (ints (Tm.parts lns r)) _ (HPD.out.1.below hbw HPD.out.1.2.1)).mono ?_
    rintro e w2 ⟨rfl, hb2⟩
    have hs2 := hb2.size
    have hsz : w1.heap.size < (w1.alloc (.cells #[.int .i64 (Tm.classOf lns r), .slice pa pl pc, .slice sa (Tm.seqsAt lns r).length sc] 251)).heap.size := by simp
    have n0 : w2.cell? ⟨w1.heap.size, 0, none⟩ = some (.int .i64 (Tm.classOf lns r)) := by rw [hb2.cell (p := ⟨w1.heap.size, 0, none⟩) hsz, cell_new rfl]; rfl
    have n1 : w2.cell? ⟨w1.heap.size, 1, none⟩ = some (.slice pa pl pc) := by rw [hb2.cell (p := ⟨w1.heap.size, 1, none⟩) hsz, cell_new rfl]; rfl
    have n2 : w2.cell? ⟨w1.heap.size, 2, none⟩ = some (.slice sa (Tm.seqsAt lns r).length sc) := by rw [hb2.cell (p := ⟨w1.heap.size, 2, none⟩) hsz, cell_new rfl]; rfl
    have nf : ∀ o, w2.frozen? ⟨w1.heap.size, o, none⟩ = false := fun o => by rw [hb2.frozen (p := ⟨w1.heap.size, o, none⟩) hsz, frozen_new rfl]
    have HB2 : Hid (Below w1.heap.size w1 w2) := hbw.trans (hb2.mono (by simp))
    simp only [World.size_alloc] at hs2
    have e0 : w2.cell? ⟨bd, 0, none⟩ = some (.map (some bm)) := by rw [HB2.out.cell (p := ⟨bd, 0, none⟩) dl]; exact d0
    have hne : ¬ bd = w1.heap.size := by omega
    have hne' : ¬ w1.heap.size = bd := by omega
    have HSZ := hide HB1.out.size
    clear hb2 hsz hbw
    cases hpp : decide (0 < pl)
    case true =>
      have HT2 : Hid (Tm.twice lns ⟨[100], r :: rs, [], line⟩ = true) := by unfold Hid; rw [HT.out, hpp]
      go_wp2_with fail
      refine (refuse_yes 2 _).mono ?_
      rintro e w2' ⟨rfl, rfl⟩
      go_wp2
      exact ⟨rfl, lineAns_twice HN.out HT2.out rfl (HB1.out.trans (HB2.out.mono HSZ.out))⟩
    have HT2 : Hid (Tm.twice lns ⟨[100], r :: rs, [], line⟩ = false) := by unfold Hid; rw [HT.out, hpp]
    have HP0 : Hid ((Tm.parts lns r).length = 0) := by unfold Hid; rw [HPL.out]; simpa using hpp
    go_wp2_with fail
    refine (refuse_no 2 _).mono ?_
    rintro e w2' ⟨rfl, rfl⟩
    go_wp2_with fail
    have HWB : Hid (Below w1.heap.size w1 (w2'.setCell ⟨w1.heap.size, 1, none⟩ (.slice (some ⟨g1, off1 + 1, none⟩) (bs.length - 1) (cap1 - 1))).drew) := (HB2.out.setCell (p := ⟨w1.heap.size, 1, none⟩) (Nat.le_refl _) _).drew
    have HM1 : Hid (MapIs (w2'.setCell ⟨w1.heap.size, 1, none⟩ (.slice (some ⟨g1, off1 + 1, none⟩) (bs.length - 1) (cap1 - 1))).drew bm lns.length f) := HMAP.out.same (HWB.out.block bm HMAP.out.lt)
    obtain ⟨w3, hrun, hm3, hg3⟩ := HM1.out.put (by unfold maxLen; omega) (wf_rune hr0) (.agg #[.int .i64 (Tm.classOf lns r), .slice (some ⟨g1, off1 + 1, none⟩) (bs.length - 1) (cap1 - 1), .slice sa (Tm.seqsAt lns r).length sc])
    have HK3 : Hid (Keeps w1 w3 (freshCol col w'.heap.size) (freshCol col w'.heap.size) (· ≠ -2)) := (Keeps.below HWB.out).trans (Keeps.grown hg3 HREP.out.nd.hue)
    have HND3 : Hid (Nd w3 (freshCol col w'.heap.size) base bm (lns ++ [⟨[100], r :: rs, [], line⟩])) := HREP.out.nd.parts HALL.out HTL.out HSR.out hr0.1 hm3 HK3.out HP0.out HREP.out.fit
    have HDR3 : Hid (Dr w3 (freshCol col w'.heap.size) base bd bm line (.slice va (Tm.dLines lns).length vc) vw) := HREP.out.dr.keep HK3.out (by decide)
    have HPT3 : Hid (Pt w3 (freshCol col w'.heap.size) base (.slice va (Tm.dLines lns).length vc) lns) := HREP.out.pt.keep HK3.out (by decide)
    have HWT3 : Hid (Wt w3 (freshCol col w'.heap.size) base vw lns) := HREP.out.wt.keep HK3.out (by decide) (by decide)
    have HBF : Hid (Sole base bm w' w3) := by
      have hbd := HREP.out.dr.from_
      have h2 : Below base w1 (w2'.setCell ⟨w1.heap.size, 1, none⟩ (.slice (some ⟨g1, off1 + 1, none⟩) (bs.length - 1) (cap1 - 1))).drew := HWB.out.mono (by omega)
      have h3 : Sole base bm w1 w3 := (Sole.of h2).grown hg3 (by have := HWB.out.size; omega) (fun j hj => by cases hj; exact .inr rfl)
      exact (Sole.of (HB1.out.mono (HBW.out))).trans h3
    have y0 := HDR3.out.c0
    have y1 := HDR3.out.c1
    have y2 := HDR3.out.c2
    have hl3 := HDR3.out.lt
    clear hm3 hg3
    have HOWN : Hid ((w3.drew.alloc (.cells #[.int .i64 line, .int .i64 r] 234)).ownsRow base 234 2 (.slice va (Tm.dLines lns).length vc) (Tm.dLines lns).length (partCells (Tm.dLines lns))) := (ownsRow_same (w' := w3.drew) HPT3.out.1 (fun _ _ => rfl)).alloc _
    have HNEWS : Hid (∀ j u, [Value.int .i64 line, .int .i64 r][j]? = some u → (w3.drew.alloc (.cells #[.int .i64 line, .int .i64 r] 234)).cell? ((⟨w3.heap.size, 0, none⟩ : Addr).add j) = some u) := news_two rfl
    have HONE : Hid (∀ u ∈ [Value.int .i64 line, .int .i64 r], u.oneCell' = true) := by intro u hu; simp at hu; rcases hu with rfl | rfl <;> rfl
    have HNB : Hid ((Value.slice va (Tm.dLines lns).length vc).ownBlock ≠ some bd) := fun e => by have := HPT3.out.2 bd e; rw [HDR3.out.hue] at this; omega
    have HBA : Hid (base ≤ (w3.drew.alloc (.cells #[.int .i64 line, .int .i64 r] 234)).heap.size) := by have h1 := HDR3.out.from_; have h2 := HDR3.out.lt; unfold Hid; simp; omega
    have HC2 : Hid ((w3.drew.alloc (.cells #[.int .i64 line, .int .i64 r] 234)).cell? ⟨bd, 2, none⟩ = some (.slice va (Tm.dLines lns).length vc)) := by unfold Hid; rw [cell_old (by exact hl3)]; exact y2
    have HF2 : Hid ((w3.drew.alloc (.cells #[.int .i64 line, .int .i64 r] 234)).frozen? ⟨bd, 2, none⟩ = false) := by unfold Hid; rw [frozen_old (by exact hl3)]; exact HDR3.out.free 2
    have HL2 : Hid (bd < (w3.drew.alloc (.cells #[.int .i64 line, .int .i64 r] 234)).heap.size) := by unfold Hid; simp; omega
    have HBG : Hid (Sole base bm w' (w3.drew.alloc (.cells #[.int .i64 line, .int .i64 r] 234))) := HBF.out.drew.alloc (by have h1 := HDR3.out.from_; have h2 := HDR3.out.lt; simp; omega) _
    go_region
    all_goals go_wp2_with fail
    all_goals go_region_law (refine step_append_own rfl _ _ 199 rfl base 234 i0 (.agg #[.int .i64 0, .int .i64 0]) 2 16 Tryz.underlying199 hi hz0 hz1 hz2 rfl (by decide) _ _ _ (by simp [Act.eval]) HOWN.out ⟨w3.heap.size, 0, none⟩ 1 1 [.int .i64 line, .int .i64 r] (by simp [Act.eval]) rfl HNEWS.out HONE.out (by unfold maxLen; omega) (by omega) HBA.out ?_; intro v' w4 hown4 hg4 hat4; have HOWN4 := hide hown4; have HG4 := hide hg4; have HAT4 := hide hat4; have z2 := hg4.cell HC2.out (fun e => HNB.out e.symm); have zf : w4.frozen? ⟨bd, 2, none⟩ = false := (World.frozen?_of_block (hg4.block bd HL2.out (fun e => HNB.out e.symm))).trans HF2.out; obtain ⟨a4, c4, rfl⟩ := (Reads.of_owns hown4).shape; clear hown4 hg4 hat4)
    all_goals go_wp2
    all_goals go_end0
    all_goals exact lineAns_ok HN.out HT2.out rfl rfl ((HBG.out.grown HG4.out HBA.out (fun j hj => .inl (HPT3.out.1.lt j hj).1)).setCell (p := ⟨bd, 2, none⟩) HDR3.out.from_ _) ⟨_, _, _, Rep.parts HDR3.out HND3.out HPT3.out HWT3.out HREP.out.fit HREP.out.low HFIT.out rfl HOWN4.out HG4.out HAT4.out⟩
end Go.Proofs.YtmnjjjhmnhfapaaGreatDoor
namespace Go.Proofs.YtmnjjjhmnhfapaaGreatDoor
open Go.RowKit

theorem lineAns.since {r : Option Tm.Ln} {lns : List Tm.Ln} {base bd bm : Nat} {line : Int} {w w1 : World} {e : Ending} {w' : World} (h : lineAns r lns base bd bm line w1 e w') (hb : Below w.heap.size w w1) (hB : base ≤ w.heap.size) : lineAns r lns base bd bm line w e w' := by
  unfold lineAns at *
  have hs := hb.size
  split
  · exact ⟨h.1, hb.trans (h.2.mono hs)⟩
  · simp only at h
    split
    · rename_i ht; rw [if_pos ht] at h; exact ⟨h.1, hb.trans (h.2.mono hs)⟩
    · rename_i ht
      rw [if_neg ht] at h
      split
      · rename_i hg; rw [if_pos hg] at h; exact ⟨h.1, hb.trans (h.2.mono hs)⟩
      · rename_i hg; rw [if_neg hg] at h; exact ⟨h.1, (Sole.of (hb.mono hB)).trans h.2.1, h.2.2⟩

theorem lineAns_ends {r : Option Tm.Ln} {lns : List Tm.Ln} {base bd bm : Nat} {line : Int} {w : World} {e : Ending} {w' : World} (h : lineAns r lns base bd bm line w e w') : e = .returned (.tuple #[]) ∨ ∃ q, tells e q := by
  unfold lineAns at h
  split at h
  · exact .inr ⟨1, h.1⟩
  · split at h
    · exact .inr ⟨2, h.1⟩
    · split at h
      · exact .inr ⟨4, h.1⟩
      · exact .inl h.1

/-- What stands behind the first word. -/
theorem Reads.rest {w : World} {g off n cap : Nat} {b : ByteArray} {bs : List ByteArray} (h : Reads w (.slice (some ⟨g, off, none⟩) n cap) 1 (b :: bs).length ((b :: bs).map Value.string)) :
    Reads w (.slice (if cap = 1 then some ⟨g, off, none⟩ else some ⟨g, off + 1, none⟩) ((b :: bs).length - 1) (cap - 1)) 1 bs.length (bs.map Value.string) := by
  by_cases hc : cap = 1
  · rw [if_pos hc]
    have hf := h.fits
    have h0 : bs = [] := List.eq_nil_of_length_eq_zero (by have := hf.2.1; simp at this; omega)
    subst h0
    subst hc
    exact ⟨rfl, fun g' hg' => h.2.1 g' (by simpa [Value.ownBlock] using hg'), _, _, rfl, ⟨Nat.le_refl _, Nat.zero_le _⟩, by simp⟩
  · rw [if_neg hc]
    exact h.behind (k := 1) (by simp)

/-- Does a line say nothing? -/
def quietLine (x : List UInt8) : Bool := decide (x.head? = none ∨ x.head? = some 35)
/-- What reading a line that may say nothing comes to. -/
def lineAns2 (x : List UInt8) (lns : List Tm.Ln) (base bd bm : Nat) (line : Int) (w : World) (e : Ending) (w' : World) : Prop :=
  if quietLine x = true then e = .returned (.tuple #[]) ∧ w' = w else lineAns (Tm.parse x line) lns base bd bm line w e w'

theorem parse_other {n : Int} {k : List UInt8} {ws : List (List UInt8)} (h1 : k ≠ [99]) (h2 : k ≠ [100]) (h3 : k ≠ [119]) : Tm.parseWords n (k :: ws) = none := by
  rw [Tm.parse_nosign h3]
  have : Tm.fits k (ws.map Tm.num) 0 false = false := by
    unfold Tm.fits
    rw [if_neg h1, if_neg h2, if_neg h3]
  rw [this]; simp
theorem kind_yes {b : ByteArray} {c : UInt8} (h : (b.toList == [c]) = true) : b.data.toList = [c] := by
  rw [ByteArray.toList_eq] at h; simpa using h
theorem kind_no {b : ByteArray} {c : UInt8} (h : (b.toList == [c]) = false) : b.data.toList ≠ [c] := by
  rw [ByteArray.toList_eq] at h; simpa using h

set_option maxRecDepth 100000 in
set_option maxHeartbeats 2000000 in
theorem readLine_any (s : ByteArray) (col : Nat → Int) (base bd bm : Nat) (line : Int) (vp vw : Value) (lns : List Tm.Ln) (w : World) (hs : s.size ≤ 8192)
    (hrep : Rep w col base bd bm line vp vw lns) (hn : lns.length ≤ 8192) :
    Calls Tryz.prog 153 #[.pointer (some ⟨bd, 0, none⟩), .string s] w fun e w' => lineAns2 s.data.toList lns base bd bm line w e w' := by
  by_cases h0 : s.size = 0
  · have he : s = ⟨#[]⟩ := by
      cases s with
      | mk a => congr 1; exact Array.eq_empty_of_size_eq_zero h0
    subst he
    clear hrep
    go_enter Tryz.func153, Tryz.ntmps153
    go_wp2
    go_end0
    exact ⟨rfl, rfl⟩
  have hpos : 0 < s.size := by omega
  have hh := head_of s hpos
  have hne : (s.toList == []) = false := by
    rw [ByteArray.toList_eq, beq_eq_false_iff_ne]
    intro e
    have := len_bytes s
    rw [e] at this
    simp at this; omega
  cases hx : ((s[0].toNat : Int) == 35)
  case true =>
    have HQ : Hid (quietLine s.data.toList = true) := by
      unfold Hid quietLine
      rw [hh, decide_eq_true_iff]
      right
      congr 1
      apply UInt8.toNat_inj.1
      have : (s[0].toNat : Int) = 35 := by simpa using hx
      have : s[0].toNat = 35 := by omega
      rw [this]; rfl
    clear hrep hh
    go_enter Tryz.func153, Tryz.ntmps153
    go_wp2
    go_end0
    unfold lineAns2
    rw [if_pos HQ.out]
    exact ⟨rfl, rfl⟩
  have HQ : Hid (quietLine s.data.toList = false) := by
    unfold Hid quietLine
    rw [hh, decide_eq_false_iff_not]
    rintro (h | h)
    · cases h
    · have e := Option.some.inj h
      rw [e] at hx
      exact absurd hx (by decide)
  have HREP := hide hrep
  clear hrep hh
  go_enter Tryz.func153, Tryz.ntmps153
  go_wp2_with fail
  refine (Split_one s 32 _ hs).mono ?_
  rintro e w1 ⟨v, bs, rfl, hrd, hsp, hbl, hb1⟩
  have hsz := word_sizes hsp (by omega)
  have hlen : bs.length ≤ 8193 := by
    have h1 := Tm.split_count 32 s.data.toList
    rw [← hsp, List.length_map, len_bytes] at h1
    omega
  have hne2 : bs ≠ [] := by
    intro e
    subst e
    exact Tm.split_ne 32 s.data.toList hsp.symm
  obtain ⟨b0, rest, rfl⟩ : ∃ b r, bs = b :: r := by
    cases bs with
    | nil => exact absurd rfl hne2
    | cons b r => exact ⟨b, r, rfl⟩
  have HP : Hid (Tm.parse s.data.toList line = Tm.parseWords line (b0.data.toList :: lets rest)) := by
    unfold Hid Tm.parse
    rw [← hsp]; rfl
  have HR1 : Hid (Rep w1 col base bd bm line vp vw lns) := HREP.out.below hb1
  have HB1 := hide hb1
  have HBW : Hid (base ≤ w.heap.size) := by have h1 := HREP.out.dr.from_; have h2 := HREP.out.dr.lt; unfold Hid; omega
  obtain ⟨g, off, cap, rfl, hg, hc⟩ := hrd.form (by simp)
  have c0 := hc 0 _ rfl
  rw [Nat.add_zero] at c0
  have hfit := hrd.fits
  have hc1 : 1 ≤ cap := by have := hfit.2.1; simp at this; omega
  have hc2 : cap ≤ 9223372036854775807 := by have := hfit.2.2; unfold maxLen at this; omega
  have hc3 : rest.length + 1 ≤ cap := by have := hfit.2.1; simpa using this
  have HRD := hide hrd.rest
  have HZR : Hid (∀ b ∈ rest, b.size ≤ 8192) := fun b hb => Nat.le_trans (hsz b (by simp [hb])) (by omega)
  have hrl : rest.length ≤ 8193 := by simp at hlen; omega
  clear hrd hsp hbl hsz hlen hne2 hc hfit hb1
  have HFIN : Hid (∀ (e : Ending) (w' : World), lineAns (Tm.parseWords line (b0.data.toList :: lets rest)) lns base bd bm line w1 e w' → lineAns2 s.data.toList lns base bd bm line w e w') := by
    intro e w' h
    unfold lineAns2
    rw [if_neg (by rw [HQ.out]; simp), HP.out]
    exact h.since HB1.out HBW.out
  cases k1 : (b0.toList == [99])
  case true =>
    have hk := kind_yes k1
    rw [hk] at HFIN
    go_wp2_with fail
    all_goals
      refine (readRank_any _ rest col base bd bm line vp vw lns _ (by have h := HRD.out; simpa [*] using h) HZR.out HR1.out hn).mono ?_
      rintro e w2 hans
      have HA := hide (HFIN.out _ _ hans)
      rcases lineAns_ends hans with rfl | ⟨q, ht⟩
      · clear hans
        go_wp2
        go_end0
        exact HA.out
      · obtain rfl : e = _ := ht
        clear hans
        go_wp2
        exact ⟨rfl, HA.out⟩
  cases k2 : (b0.toList == [100])
  case true =>
    have hk := kind_yes k2
    rw [hk] at HFIN
    go_wp2_with fail
    all_goals
      refine (readMakeup_any _ rest col base bd bm line vp vw lns _ (by have h := HRD.out; simpa [*] using h) hrl HZR.out HR1.out hn).mono ?_
      rintro e w2 hans
      have HA := hide (HFIN.out _ _ hans)
      rcases lineAns_ends hans with rfl | ⟨q, ht⟩
      · clear hans
        go_wp2
        go_end0
        exact HA.out
      · obtain rfl : e = _ := ht
        clear hans
        go_wp2
        exact ⟨rfl, HA.out⟩
  cases k3 : (b0.toList == [119])
  case true =>
    have hk := kind_yes k3
    rw [hk] at HFIN
    go_wp2_with fail
    all_goals
      refine (readWeighing_any _ rest col base bd bm line vp vw lns _ (by have h := HRD.out; simpa [*] using h) hrl HZR.out HR1.out hn).mono ?_
      rintro e w2 hans
      have HA := hide (HFIN.out _ _ hans)
      rcases lineAns_ends hans with rfl | ⟨q, ht⟩
      · clear hans
        go_wp2
        go_end0
        exact HA.out
      · obtain rfl : e = _ := ht
        clear hans
        go_wp2
        exact ⟨rfl, HA.out⟩
  have HN := hide (parse_other (n := line) (ws := lets rest) (kind_no k1) (kind_no k2) (kind_no k3))
  go_wp2
  exact ⟨rfl, HFIN.out _ _ (lineAns_none HN.out rfl (Below.refl _ _))⟩
end Go.Proofs.YtmnjjjhmnhfapaaGreatDoor
namespace Go.Proofs.YtmnjjjhmnhfapaaGreatDoor
open Go.RowKit

/-- The draft stands at another line. -/
theorem Rep.at_line {w : World} {col : Nat → Int} {base bd bm : Nat} {line : Int} {vp vw : Value} {lns : List Tm.Ln} (h : Rep w col base bd bm line vp vw lns) (n : Int) : Rep (w.setCell ⟨bd, 1, none⟩ (.int .i64 n)) col base bd bm n vp vw lns := by
  have k : Keeps w (w.setCell ⟨bd, 1, none⟩ (.int .i64 n)) col col (· ≠ -3) :=
    ⟨by simp [World.setCell], fun g hg hc => Below.heap_setCell _ _ _ _ (by simp only; intro e; subst e; exact hc h.dr.hue), fun _ _ => rfl⟩
  refine ⟨⟨h.dr.hue, h.dr.from_, by simpa [World.setCell] using h.dr.lt, ?_, ?_, ?_, ?_, fun q => ?_⟩, h.nd.keep k (by decide) (by decide) (fun r hr => by omega), h.pt.keep k (by decide), h.wt.keep k (by decide) (by decide), h.fit, h.low⟩
  · rw [World.cell?_setCell_other _ _ _ _ (by simp)]; exact h.dr.c0
  · exact World.cell?_setCell_same _ _ _ h.dr.c1
  · rw [World.cell?_setCell_other _ _ _ _ (by simp)]; exact h.dr.c2
  · rw [World.cell?_setCell_other _ _ _ _ (by simp)]; exact h.dr.c3
  · rw [World.frozen?_setCell]; exact h.dr.free q

theorem lineAns2_cases {x : List UInt8} {lns : List Tm.Ln} {col : Nat → Int} {base bd bm : Nat} {line : Int} {vp vw : Value} {w : World} {e : Ending} {w' : World} (hrep : Rep w col base bd bm line vp vw lns) (h : lineAns2 x lns base bd bm line w e w') :
    (e = .returned (.tuple #[]) ∧ ∃ lns', (∀ r, Tm.readLines lns line (x :: r) = Tm.readLines lns' (line + 1) r) ∧ lns'.length ≤ lns.length + 1 ∧ Sole base bm w w' ∧ ∃ col vp vw, Rep w' col base bd bm line vp vw lns') ∨
    (∃ q, tells e q ∧ (∀ r, Tm.readLines lns line (x :: r) = (lns, some (line, q))) ∧ Below w.heap.size w w') := by
  unfold lineAns2 at h
  by_cases hq : quietLine x = true
  · rw [if_pos hq] at h
    obtain ⟨rfl, rfl⟩ := h
    exact .inl ⟨rfl, lns, fun r => Tm.readLines_skip (by simpa [quietLine] using hq), by omega, Sole.refl _ _ _, _, _, _, hrep⟩
  · rw [if_neg hq] at h
    have hq' : ¬ (x.head? = none ∨ x.head? = some 35) := by simpa [quietLine] using hq
    unfold lineAns at h
    cases hp : Tm.parse x line with
    | none =>
      rw [hp] at h
      exact .inr ⟨1, h.1, fun r => Tm.readLines_bad hq' hp, h.2⟩
    | some l =>
      rw [hp] at h
      simp only at h
      by_cases ht : Tm.twice lns l = true
      · rw [if_pos ht] at h
        exact .inr ⟨2, h.1, fun r => Tm.readLines_twice hq' hp ht, h.2⟩
      · rw [if_neg ht] at h
        have ht' : Tm.twice lns l = false := by simpa using ht
        by_cases hg : l.els.any Tm.lightEl = true
        · rw [if_pos hg] at h
          exact .inr ⟨4, h.1, fun r => Tm.readLines_light hq' hp ht' hg, h.2⟩
        · rw [if_neg hg] at h
          exact .inl ⟨h.1, lns ++ [l], fun r => Tm.readLines_ok hq' hp ht' (by simpa using hg), by simp, h.2.1, h.2.2⟩

/-- What reading all lines comes to. -/
def linesAns (r : List Tm.Ln × Option (Int × Int)) (base bd bm : Nat) (w : World) (e : Ending) (w' : World) : Prop := match r with
  | (lns, none) => e = .returned (.tuple #[]) ∧ Sole base bm w w' ∧ lns.length ≤ 8192 ∧ ∃ col line vp vw, Rep w' col base bd bm line vp vw lns
  | (_, some (n, q)) => tells e q ∧ Sole base bm w w' ∧ w'.cell? ⟨bd, 1, none⟩ = some (.int .i64 n)
theorem linesAns_ok {r : List Tm.Ln × Option (Int × Int)} {lns : List Tm.Ln} {base bd bm : Nat} {w : World} {e : Ending} {w' : World} (h : r = (lns, none)) (he : e = .returned (.tuple #[])) (hb : Sole base bm w w') (hl : lns.length ≤ 8192) (hr : ∃ col line vp vw, Rep w' col base bd bm line vp vw lns) : linesAns r base bd bm w e w' := by
  subst h; exact ⟨he, hb, hl, hr⟩
theorem linesAns_no {r : List Tm.Ln × Option (Int × Int)} {lns : List Tm.Ln} {n q : Int} {base bd bm : Nat} {w : World} {e : Ending} {w' : World} (h : r = (lns, some (n, q))) (he : tells e q) (hb : Sole base bm w w') (hc : w'.cell? ⟨bd, 1, none⟩ = some (.int .i64 n)) : linesAns r base bd bm w e w' := by
  subst h; exact ⟨he, hb, hc⟩

theorem bytes_empty {s : ByteArray} (h : s.size = 0) : s = ⟨#[]⟩ := by
  cases s with
  | mk a => congr 1; exact Array.eq_empty_of_size_eq_zero h
theorem some_of {s : ByteArray} (h : 0 < s.size) : (s.toList == []) = false := by
  rw [ByteArray.toList_eq, beq_eq_false_iff_ne]
  intro e
  have := len_bytes s
  rw [e] at this
  simp at this; omega

set_option maxRecDepth 100000 in
set_option maxHeartbeats 2000000 in
theorem readLines_any (s : ByteArray) (col : Nat → Int) (base bd bm : Nat) (vp vw : Value) (w : World) (hs : s.size ≤ 8192) (hrep : Rep w col base bd bm 0 vp vw []) :
    Calls Tryz.prog 120 #[.pointer (some ⟨bd, 0, none⟩), .string s] w fun e w' => linesAns (Tm.readLines [] 1 (Tm.split 10 s.data.toList)) base bd bm w e w' := by
  have HREP := hide hrep
  clear hrep
  go_enter Tryz.func120, Tryz.ntmps120
  go_wp2
  go_loopw [4] (fun v wr => ∃ (s' : ByteArray) (k : Nat) (lns : List Tm.Ln) (col : Nat → Int) (vp vw : Value), v = .string s' ∧ k + s'.size ≤ s.size ∧ lns.length ≤ k ∧ Tm.readLines [] 1 (Tm.split 10 s.data.toList) = Tm.readLines lns ((k : Int) + 1) (Tm.split 10 s'.data.toList) ∧ Rep wr col base bd bm (k : Int) vp vw lns ∧ Sole base bm w wr) (fun v _ => match v with | .string b => b.size | _ => 0)
  case atStart => exact ⟨s, 0, [], _, _, _, rfl, by omega, by simp, rfl, HREP.out, Sole.refl _ _ _⟩
  case round =>
    obtain ⟨s', k, lns, col', vp', vw', rfl, hk, hln, hread, hrep, hb⟩ := hrel
    have HRD := hide hread
    have HR := hide hrep
    have HB := hide hb
    clear hread hrep hb
    by_cases h0 : s'.size = 0
    · obtain rfl := bytes_empty h0
      have HF : Hid (Tm.readLines [] 1 (Tm.split 10 s.data.toList) = (lns, none)) := by
        unfold Hid
        rw [HRD.out]
        rfl
      go_wp2
      go_end0
      exact linesAns_ok HF.out rfl HB.out (by omega) ⟨_, _, _, _, HR.out⟩
    have hne := some_of (s := s') (by omega)
    go_wp2_with fail
    refine (Cut_one s' 10 _ (by omega)).mono ?_
    rintro e w1 ⟨hans, nd, rfl⟩
    have d1 := HR.out.dr.c1
    have df := HR.out.dr.free 1
    have HBD : Hid (Below wr.heap.size wr (wr.drewN nd)) := ⟨rfl, rfl, rfl, Nat.le_refl _, fun _ _ => rfl⟩
    have HR1 := hide (HR.out.below HBD.out)
    have e1 := HR1.out.dr.c1
    have ef := HR1.out.dr.free 1
    have HB1 : Hid (Sole base bm w (wr.drewN nd)) := HB.out.then ⟨rfl, rfl, rfl, Nat.le_refl _, fun _ _ => rfl⟩
    generalize wr.drewN nd = w1 at *
    have hkk : (k : Int) + 1 ≤ 9223372036854775807 := by omega
    rcases hans with ⟨m, hm, rfl, hsp⟩ | ⟨rfl, hsp⟩
    · have HSP := hide hsp
      have hx1 : (s'.extract 0 m).size ≤ 8192 := by rw [ByteArray.size_extract]; omega
      have hx2 : (s'.extract (m + 1) s'.size).size < s'.size := by rw [ByteArray.size_extract]; omega
      have HX2 := hide hx2
      generalize s'.extract 0 m = text at *
      generalize s'.extract (m + 1) s'.size = rest at *
      clear hsp hx2
      go_wp2_with fail
      have HR2 := hide (HR1.out.at_line ((k : Int) + 1))
      refine (readLine_any text _ base bd bm ((k : Int) + 1) _ _ lns _ hx1 HR2.out (by omega)).mono ?_
      rintro e w2 hans
      rcases lineAns2_cases HR2.out hans with ⟨rfl, lns', hstep, hl', hb2, col2, vp2, vw2, hrep2⟩ | ⟨q, ht, hstep, hb2⟩
      · have HST := hide (hstep (Tm.split 10 rest.data.toList))
        have HB2 : Hid (Sole base bm w w2) := (HB1.out.setCell (p := ⟨bd, 1, none⟩) HR1.out.dr.from_ _).trans hb2
        have HR3 := hide hrep2
        clear hans hstep hb2 hrep2
        go_wp2
        go_roundw
        case rel => exact ⟨rest, k + 1, lns', col2, vp2, vw2, rfl, by have := HX2.out; omega, by omega, by rw [HRD.out, HSP.out, HST.out]; rfl, HR3.out, HB2.out⟩
        case measure => exact HX2.out
      · obtain rfl : e = _ := ht
        have HST := hide (hstep (Tm.split 10 rest.data.toList))
        have HB2 : Hid (Sole base bm w w2) := (HB1.out.setCell (p := ⟨bd, 1, none⟩) HR1.out.dr.from_ _).then (hb2.mono (by have h1 := HR2.out.dr.lt; have h2 := HR2.out.dr.from_; omega))
        have HC : Hid (w2.cell? ⟨bd, 1, none⟩ = some (.int .i64 ((k : Int) + 1))) := by unfold Hid; rw [hb2.cell (p := ⟨bd, 1, none⟩) HR2.out.dr.lt]; exact HR2.out.dr.c1
        clear hans hstep hb2
        go_wp2
        exact ⟨rfl, linesAns_no (by rw [HRD.out, HSP.out]; exact HST.out) rfl HB2.out HC.out⟩
    · have HSP := hide hsp
      clear hsp
      go_wp2_with fail
      have HR2 := hide (HR1.out.at_line ((k : Int) + 1))
      refine (readLine_any s' _ base bd bm ((k : Int) + 1) _ _ lns _ (by omega) HR2.out (by omega)).mono ?_
      rintro e w2 hans
      rcases lineAns2_cases HR2.out hans with ⟨rfl, lns', hstep, hl', hb2, col2, vp2, vw2, hrep2⟩ | ⟨q, ht, hstep, hb2⟩
      · have HST := hide (hstep [])
        have HB2 : Hid (Sole base bm w w2) := (HB1.out.setCell (p := ⟨bd, 1, none⟩) HR1.out.dr.from_ _).trans hb2
        have HR3 := hide hrep2
        clear hans hstep hb2 hrep2
        go_wp2
        go_roundw
        case rel => exact ⟨⟨#[]⟩, k + 1, lns', col2, vp2, vw2, rfl, by show k + 1 + 0 ≤ s.size; omega, by omega, by rw [HRD.out, HSP.out, HST.out]; rfl, HR3.out, HB2.out⟩
        case measure => show 0 < s'.size; omega
      · obtain rfl : e = _ := ht
        have HST := hide (hstep [])
        have HB2 : Hid (Sole base bm w w2) := (HB1.out.setCell (p := ⟨bd, 1, none⟩) HR1.out.dr.from_ _).then (hb2.mono (by have h1 := HR2.out.dr.lt; have h2 := HR2.out.dr.from_; omega))
        have HC : Hid (w2.cell? ⟨bd, 1, none⟩ = some (.int .i64 ((k : Int) + 1))) := by unfold Hid; rw [hb2.cell (p := ⟨bd, 1, none⟩) HR2.out.dr.lt]; exact HR2.out.dr.c1
        clear hans hstep hb2
        go_wp2
        exact ⟨rfl, linesAns_no (by rw [HRD.out, HSP.out]; exact HST.out) rfl HB2.out HC.out⟩
end Go.Proofs.YtmnjjjhmnhfapaaGreatDoor
namespace Go.Proofs.YtmnjjjhmnhfapaaGreatDoor
open Go.RowKit

/-- What a check of all lines comes to. -/
def checkAns (r : Option Tm.Ln) (q : Int) (lns : List Tm.Ln) (base bd bm : Nat) (w : World) (e : Ending) (w' : World) : Prop := match r with
  | none => e = .returned (.tuple #[]) ∧ Sole base bm w w' ∧ ∃ col line vp vw, Rep w' col base bd bm line vp vw lns
  | some o => tells e q ∧ Sole base bm w w' ∧ w'.cell? ⟨bd, 1, none⟩ = some (.int .i64 o.num)
theorem checkAns_ok {r : Option Tm.Ln} {q : Int} {lns : List Tm.Ln} {base bd bm : Nat} {w : World} {e : Ending} {w' : World} (h : r = none) (he : e = .returned (.tuple #[])) (hb : Sole base bm w w') (hr : ∃ col line vp vw, Rep w' col base bd bm line vp vw lns) : checkAns r q lns base bd bm w e w' := by
  subst h; exact ⟨he, hb, hr⟩
theorem checkAns_no {r : Option Tm.Ln} {o : Tm.Ln} {q : Int} {lns : List Tm.Ln} {base bd bm : Nat} {w : World} {e : Ending} {w' : World} (h : r = some o) (he : tells e q) (hb : Sole base bm w w') (hc : w'.cell? ⟨bd, 1, none⟩ = some (.int .i64 o.num)) : checkAns r q lns base bd bm w e w' := by
  subst h; exact ⟨he, hb, hc⟩

theorem find_more {l : List Tm.Ln} {p : Tm.Ln → Bool} {k : Nat} (h : (l.take k).find? p = none) (hk : k < l.length) (hx : p l[k] = false) : (l.take (k + 1)).find? p = none := by
  rw [List.take_succ_eq_append_getElem hk, List.find?_append, h]; simp [hx]
theorem find_here {l : List Tm.Ln} {p : Tm.Ln → Bool} {k : Nat} (h : (l.take k).find? p = none) (hk : k < l.length) (hx : p l[k] = true) : l.find? p = some l[k] := by
  have e : l.find? p = (l.take k ++ l.drop k).find? p := by rw [List.take_append_drop]
  rw [e, List.find?_append, h, List.drop_eq_getElem_cons hk, List.find?_cons, hx]; rfl

theorem parted_at {w : World} {col : Nat → Int} {base : Nat} {a : Option Addr} {m cap : Nat} {lns : List Tm.Ln} (h : Pt w col base (.slice a m cap) lns) {k : Nat} (hk : k < (Tm.dLines lns).length) :
    ∃ g off, a = some ⟨g, off, none⟩ ∧ g < w.heap.size ∧ w.cell? ⟨g, off + k * 2, none⟩ = some (.int .i64 (Tm.dLines lns)[k].num) ∧ w.cell? ⟨g, off + k * 2 + 1, none⟩ = some (.int .i64 ((Tm.dLines lns)[k].runes.getD 0 0)) := by
  have hlen : (partCells (Tm.dLines lns)).length = (Tm.dLines lns).length * 2 := h.1.1
  obtain ⟨g, off, cap', he, hg, hc⟩ := (Reads.of_owns h.1).form (by omega)
  cases he
  refine ⟨g, off, rfl, hg, ?_, ?_⟩
  · exact hc (k * 2) _ (by have := partCells_get hk (f := 0) (by omega); simpa using this)
  · exact hc (k * 2 + 1) _ (by have := partCells_get hk (f := 1) (by omega); simpa using this)

/-- Does a line's parts not end? -/
def loops (lns : List Tm.Ln) (o : Tm.Ln) : Bool := !Tm.ends lns 4 (o.runes.getD 0 0)
theorem loops_find (lns : List Tm.Ln) : (Tm.dLines lns).find? (loops lns) = lns.find? (Tm.badLoop lns) := by
  unfold Tm.dLines
  rw [List.find?_filter]
  congr 1
  funext o
  rw [Tm.badLoop_ends, loops]
  simp

set_option maxRecDepth 100000 in
set_option maxHeartbeats 2000000 in
theorem checkParts_any (lns : List Tm.Ln) (col : Nat → Int) (base bd bm : Nat) (line : Int) (vp vw : Value) (w : World) (hrep : Rep w col base bd bm line vp vw lns) (hn : lns.length ≤ 8192) :
    Calls Tryz.prog 121 #[.pointer (some ⟨bd, 0, none⟩)] w fun e w' => checkAns (lns.find? (Tm.badLoop lns)) 3 lns base bd bm w e w' := by
  obtain ⟨a, cap, rfl⟩ := (Reads.of_owns hrep.pt.1).shape
  have hdl := dLines_le lns
  have d2 := hrep.dr.c2
  have HREP := hide hrep
  clear hrep
  go_enter Tryz.func121, Tryz.ntmps121
  go_wp2
  go_loopw [9] (fun i wr => ∃ (k : Nat) (line' : Int), k ≤ (Tm.dLines lns).length ∧ i = .int .i64 k ∧ ((Tm.dLines lns).take k).find? (loops lns) = none ∧ Rep wr col base bd bm line' (.slice a (Tm.dLines lns).length cap) vw lns ∧ Sole base bm w wr) (fun i _ => (Tm.dLines lns).length - (intOf i).toNat)
  case atStart => exact ⟨0, line, Nat.zero_le _, rfl, by simp, HREP.out, Sole.refl _ _ _⟩
  case round =>
    obtain ⟨k, line', hk, rfl, hfind, hrep, hb⟩ := hrel
    have HR := hide hrep
    have HB := hide hb
    by_cases hlt : k < (Tm.dLines lns).length
    · obtain ⟨g, off, rfl, hg, c0, c1⟩ := parted_at hrep.pt hlt
      have HMORE := hide (fun hx => find_more (p := loops lns) hfind hlt hx)
      have HHERE := hide (fun hx => find_here (p := loops lns) hfind hlt hx)
      have hmem : (Tm.dLines lns)[k] ∈ lns := (List.mem_filter.1 (List.getElem_mem hlt)).1
      have hfit := hrep.fit _ hmem
      have hrr : 0 ≤ (Tm.dLines lns)[k].runes.getD 0 0 ∧ (Tm.dLines lns)[k].runes.getD 0 0 ≤ 1114111 := by
        cases hr : (Tm.dLines lns)[k].runes with
        | nil => exact absurd hr hfit.some
        | cons x y => exact hfit.rune x (by rw [hr]; simp)
      have e1 := hrep.dr.c1
      have ef := hrep.dr.free
      have e0 := hrep.dr.c0
      have el := hrep.dr.lt
      have bn : ¬ bd = wr.heap.size := by omega
      have bn' : ¬ wr.heap.size = bd := by omega
      have gn : ¬ g = wr.heap.size := by omega
      have HW : Hid (∀ n t : Int, Rep ((wr.setCell ⟨bd, 1, none⟩ (.int .i64 n)).alloc (.cells #[.int .i64 n, .int .i64 t] 234)) col base bd bm n (.slice (some ⟨g, off, none⟩) (Tm.dLines lns).length cap) vw lns) := fun n t => (HR.out.at_line n).below ((Below.refl _ _).alloc (Nat.le_refl _) _)
      have HWB : Hid (∀ n t : Int, Sole base bm w ((wr.setCell ⟨bd, 1, none⟩ (.int .i64 n)).alloc (.cells #[.int .i64 n, .int .i64 t] 234))) := fun n t => (HB.out.setCell (p := ⟨bd, 1, none⟩) HR.out.dr.from_ _).alloc (by have := HR.out.dr.from_; simp [World.setCell]; omega) _
      have hlo : loops lns (Tm.dLines lns)[k] = !Tm.ends lns 4 ((Tm.dLines lns)[k].runes.getD 0 0) := rfl
      rw [hlo] at HMORE HHERE
      generalize hnum : (Tm.dLines lns)[k].num = num at *
      generalize (Tm.dLines lns)[k].runes.getD 0 0 = top at *
      have HNUM := hide hnum
      clear hfind hrep hb hmem hfit hlo hnum
      go_wp2_with fail
      have HRW := hide (HW.out num top)
      have HBW := hide (HWB.out num top)
      have y0 := HRW.out.dr.c0
      have y1 := HRW.out.dr.c1
      have x1 : ((wr.setCell ⟨bd, 1, none⟩ (.int .i64 num)).alloc (.cells #[.int .i64 num, .int .i64 top] 234)).cell? ⟨wr.heap.size, 1, none⟩ = some (.int .i64 top) := by
        rw [cell_new (by simp [World.setCell])]; rfl
      generalize ((wr.setCell ⟨bd, 1, none⟩ (.int .i64 num)).alloc (.cells #[.int .i64 num, .int .i64 top] 234)) = wx at *
      cases hends : Tm.ends lns 4 top
      · have HN : Hid (lns.find? (Tm.badLoop lns) = some (Tm.dLines lns)[k]) := by unfold Hid; rw [← loops_find]; exact HHERE.out (by rw [hends]; rfl)
        clear HMORE HHERE
        go_region_dies
        all_goals go_wp2_with (go_at_call 155; refine (endsWithin_any lns HRW.out.fit bm 4 top _ (Nat.le_refl _) (HRW.out.nd.rd.below (Below.refl _ _).drew) hrr).mono ?_; rintro e w' ⟨rfl, rfl⟩)
        all_goals (refine wpAny_ready (rs := [7]) (by decide +kernel) (by simp) ?_; refine AllReady.cons rfl (fun K hK => ?_) ?_; go_simp; refine hK _ _ ?_; clear hK K; rotate_left; exact AllReady.nil)
        all_goals (refine wpAny_ready (rs := [8]) (by decide +kernel) (by simp) ?_; refine AllReady.cons rfl (fun K hK => ?_) ?_; go_simp; rotate_left; exact AllReady.nil)
        all_goals (go_at_call 154; refine (refuse_yes 3 _).mono ?_; rintro e w' ⟨rfl, rfl⟩; exact ⟨rfl, checkAns_no HN.out rfl HBW.out.drew (by rw [HNUM.out]; exact y1)⟩)
      · have HS := hide (HMORE.out (by rw [hends]; rfl))
        clear HMORE HHERE
        go_quiet (first | (go_at_call 155; refine Calls.quiet_of_same ((endsWithin_any lns HRW.out.fit bm 4 top _ (Nat.le_refl _) (HRW.out.nd.rd.below ⟨rfl, rfl, rfl, Nat.le_refl _, fun _ _ => rfl⟩) hrr))) | (go_at_call 154; refine Calls.quiet_of_same (refuse_no 3 _)))
        go_wp2
        go_roundw
        case rel => exact ⟨k + 1, num, by omega, by go_num, HS.out, HRW.out.below ⟨rfl, rfl, rfl, Nat.le_refl _, fun _ _ => rfl⟩, HBW.out.then ⟨rfl, rfl, rfl, Nat.le_refl _, fun _ _ => rfl⟩⟩
        case measure => simp [intOf]; omega
    · have HN : Hid (lns.find? (Tm.badLoop lns) = none) := by
        rw [List.take_of_length_le (by omega)] at hfind
        unfold Hid; rw [← loops_find]; exact hfind
      clear hfind hrep hb
      go_wp2
      go_end0
      exact checkAns_ok HN.out rfl HB.out ⟨_, _, _, _, HR.out⟩
end Go.Proofs.YtmnjjjhmnhfapaaGreatDoor
