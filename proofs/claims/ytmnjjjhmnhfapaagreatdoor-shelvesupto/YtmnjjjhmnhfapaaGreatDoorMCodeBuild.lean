import Derived.Test.YtmnjjjhmnhfapaaGreatDoorMRepW
import Derived.Test.YtmnjjjhmnhfapaaGreatDoorMCodeSeq
import Derived.Test.YtmnjjjhmnhfapaaGreatDoorMCodeCatch
namespace Go.Proofs.YtmnjjjhmnhfapaaGreatDoor
open Go.RowKit
theorem Tryz.infoSeq : (Tryz.prog.info? 238).map (fun i => (i.zero, i.size, i.bytes)) = some (some (.agg #[.slice none 0 0, .slice none 0 0]), 2, 48) := by kernel_rfl
theorem Tryz.infoWeighed : (Tryz.prog.info? 240).map (fun i => (i.zero, i.size, i.bytes)) = some (some (.agg #[.int .i64 0, .slice none 0 0, .slice none 0 0]), 3, 56) := by kernel_rfl
theorem parse_weigh_fit {n : Int} {ws : List (List UInt8)} {l : Tm.Ln} (h : Tm.parseWords n ([119] :: ws) = some l) : Tm.Fit l ∧ l.kind = [119] ∧ l.num = n := by
 by_cases hs : [61] ∈ ws
 ·obtain ⟨a, b, rfl, hb⟩ := Tm.at_sign hs
  rw [Tm.parse_weigh hb] at h
  split at h
  ·rename_i hc
   cases he : Tm.elemsOf b with
   | none => rw [he] at h; cases h
   | some es =>
    rw [he] at h
    simp at h
    subst h
    exact ⟨Tm.fit_weigh hc.1 hc.2.1 hc.2.2.1 hc.2.2.2.1 hc.2.2.2.2 he, rfl, rfl⟩
  ·cases h
 ·rw [Tm.parse_unsigned hs] at h; cases h
set_option maxRecDepth 100000 in
set_option maxHeartbeats 4000000 in
theorem readWeighing_any (vs : Value) (bs : List ByteArray) (col : Nat → Int) (base bd bm : Nat) (line : Int) (vp vw : Value) (lns : List Tm.Ln) (w : World) (hr : Reads w vs 1 bs.length (bs.map Value.string)) (hl : bs.length ≤ 8193) (hz : ∀ b ∈ bs, b.size ≤ 8192)
  (hrep : Rep w col base bd bm line vp vw lns) (hn : lns.length ≤ 8192) :
  Calls Tryz.prog 180 #[.pointer (some ⟨bd, 0, none⟩), vs] w fun e w' => lineAns (Tm.parseWords line ([119] :: lets bs)) lns base bd bm line w e w' := by
 have HR := hide hr
 have HZ := hide hz
 obtain ⟨i0, hi, hz0, hz1, hz2⟩ := info_parts Tryz.infoSeq
 obtain ⟨i1, hi', hy0, hy1, hy2⟩ := info_parts Tryz.infoWeighed
 obtain ⟨a, cap, rfl⟩ := hr.shape
 clear hr hz
 go_enter Tryz.func180, Tryz.ntmps180
 go_wp2_with fail
 refine (readSequence_any _ bs line _ HR.out hl HZ.out).mono ?_
 rintro e w1 ⟨hans, hb1⟩
 cases hp : Tm.parseWords line ([119] :: lets bs) with
 | none =>
  rw [hp] at hans
  obtain rfl : e = _ := hans
  have HP := hide hp
  have HB1 := hide hb1
  clear hp hb1 hrep
  go_wp2
  exact ⟨rfl, lineAns_none HP.out rfl HB1.out⟩
 | some l =>
  rw [hp] at hans
  obtain ⟨v1, v2, rfl, hrd1, hbl1, hrd2, hbl2⟩ := hans
  obtain ⟨hfit, hkind, hnum⟩ := parse_weigh_fit hp
  have HFIT := hide hfit
  have HKIND := hide hkind
  have HNUM := hide hnum
  have HP := hide hp
  have HREP : Hid (Rep w1 (freshCol col w.heap.size) base bd bm line vp vw lns) := hrep.fresh.below hb1
  have HB1 := hide hb1
  have HBW : Hid (base ≤ w.heap.size) := by have h1 := hrep.dr.from_; have h2 := hrep.dr.lt; unfold Hid; omega
  obtain ⟨r, rs, hrs⟩ : ∃ r rs, l.runes = r :: rs := by
   cases h : l.runes with
   | nil => exact absurd h hfit.some
   | cons x y => exact ⟨x, y, rfl⟩
  have hr0 := hfit.rune r (by rw [hrs]; simp)
  have HHEAD : Hid (l.runes.getD 0 0 = r) := by unfold Hid; rw [hrs]; rfl
  have HT : Hid (Tm.twice lns l = (Tm.seqsAt lns r).any fun o => decide (o.runes = l.runes)) := by unfold Hid; rw [Tm.twice_weigh hkind, HHEAD.out]
  have HSEQ : Hid (SeqOk w1 (freshCol col w.heap.size) (v1, v2) l) := ⟨⟨hrd1, fun g hg => freshCol_new (hbl1 g hg)⟩, ⟨hrd2, fun g hg => freshCol_new (hbl2 g hg)⟩⟩
  have hlen := hfit.few
  have hlen2 := hfit.els
  obtain ⟨g1, off1, cap1, rfl, hg1, hcells⟩ := hrd1.form (by rw [ints_length]; rw [hrs]; simp)
  have x0 : w1.cell? ⟨g1, off1, none⟩ = some (.int .i64 r) := hcells 0 _ (by rw [hrs]; rfl)
  obtain ⟨a2, cap2, rfl⟩ := hrd2.shape
  have hpos : 0 < l.runes.length := by rw [hrs]; simp
  obtain ⟨f, pv, sv, hmap, hfv, hpd, hsr, hall⟩ := HREP.out.nd.look hr0.1
  have d0 := HREP.out.dr.c0
  have dl := HREP.out.dr.lt
  have HPD := hide hpd
  have HSR := hide hsr
  have HALL := hide hall
  have HMAP := hide hmap
  obtain ⟨pa, pc, rfl⟩ := HPD.out.1.shape
  obtain ⟨sa, sc, rfl⟩ := HSR.out.rd.shape
  clear hp hb1 hrep hrd1 hrd2 hbl1 hbl2 hfit hkind hnum hrs hcells hpd hsr hall hmap
  have g1n : ¬ g1 = w1.heap.size := by omega
  have bdn : ¬ bd = w1.heap.size := by omega
  have HMA : Hid (MapIs (w1.alloc (.cells #[.slice (some ⟨g1, off1, none⟩) l.runes.length cap1, .slice a2 l.els.length cap2] 238)) bm lns.length f) := HMAP.out.same (Below.heap_alloc _ _ _ HMAP.out.lt)
  go_wp2_with (at_lookup; go_must (refine wpList_look rfl _ _ rfl bm lns.length f rfl HMA.out r rfl (wf_rune hr0) _ hfv ?_))
  obtain ⟨sl, hsl⟩ : ∃ sl, (Tm.seqsAt lns r).length = sl := ⟨_, rfl⟩
  have hsle : sl ≤ 8192 := by have := seqsAt_le lns r; omega
  have HSL := hide hsl
  obtain ⟨pl, hpl⟩ : ∃ pl, (Tm.parts lns r).length = pl := ⟨_, rfl⟩
  have HPL := hide hpl
  rw [hsl, hpl]
  rw [hsl, hpl] at hfv
  rw [hsl] at HSR
  rw [hpl] at HPD
  clear hsl hpl
  have hbA : Below w1.heap.size w1 ((w1.alloc (.cells #[.slice (some ⟨g1, off1, none⟩) l.runes.length cap1, .slice a2 l.els.length cap2] 238)).alloc (.cells #[.int .i64 (Tm.classOf lns r), .slice pa pl pc, .slice sa sl sc] 251)) := ((Below.refl _ _).alloc (Nat.le_refl _) _).alloc (by simp) _
  refine (has_any _ _ (Tm.seqsAt lns r) l.runes _ (HSR.out.rd.below hbA) (HSEQ.out.1.1.below hbA HSEQ.out.1.1.2.1) (by rw [HSL.out]; omega) (fun o ho => by have := (HREP.out.fit o (List.mem_filter.1 ho).1).few; omega) (by omega) (seqs_els HREP.out.fit)).mono ?_
  rintro e wC ⟨rfl, hbC⟩
  have hsC := hbC.size
  simp only [World.size_alloc] at hsC
  have HBC : Hid (Below w1.heap.size w1 wC) := hbA.trans (hbC.mono (by simp; omega))
  have hlt0 : w1.heap.size < ((w1.alloc (.cells #[.slice (some ⟨g1, off1, none⟩) l.runes.length cap1, .slice a2 l.els.length cap2] 238)).alloc (.cells #[.int .i64 (Tm.classOf lns r), .slice pa pl pc, .slice sa sl sc] 251)).heap.size := by simp; omega
  have hlt1 : w1.heap.size + 1 < ((w1.alloc (.cells #[.slice (some ⟨g1, off1, none⟩) l.runes.length cap1, .slice a2 l.els.length cap2] 238)).alloc (.cells #[.int .i64 (Tm.classOf lns r), .slice pa pl pc, .slice sa sl sc] 251)).heap.size := by simp
  have s0 : wC.cell? ⟨w1.heap.size, 0, none⟩ = some (.slice (some ⟨g1, off1, none⟩) l.runes.length cap1) := by rw [hbC.cell (p := ⟨w1.heap.size, 0, none⟩) hlt0, cell_old (by simp), cell_new rfl]; rfl
  have s1 : wC.cell? ⟨w1.heap.size, 1, none⟩ = some (.slice a2 l.els.length cap2) := by rw [hbC.cell (p := ⟨w1.heap.size, 1, none⟩) hlt0, cell_old (by simp), cell_new rfl]; rfl
  have n0 : wC.cell? ⟨w1.heap.size + 1, 0, none⟩ = some (.int .i64 (Tm.classOf lns r)) := by rw [hbC.cell (p := ⟨w1.heap.size + 1, 0, none⟩) hlt1, cell_new (by simp)]; rfl
  have n1 : wC.cell? ⟨w1.heap.size + 1, 1, none⟩ = some (.slice pa pl pc) := by rw [hbC.cell (p := ⟨w1.heap.size + 1, 1, none⟩) hlt1, cell_new (by simp)]; rfl
  have n2 : wC.cell? ⟨w1.heap.size + 1, 2, none⟩ = some (.slice sa sl sc) := by rw [hbC.cell (p := ⟨w1.heap.size + 1, 2, none⟩) hlt1, cell_new (by simp)]; rfl
  have nf : ∀ o, wC.frozen? ⟨w1.heap.size + 1, o, none⟩ = false := fun o => by rw [hbC.frozen (p := ⟨w1.heap.size + 1, o, none⟩) hlt1, frozen_new (by simp)]
  clear hbC hbA hlt0 hlt1
  have HSZ := hide HB1.out.size
  cases hany : (Tm.seqsAt lns r).any fun o => decide (o.runes = l.runes)
  case true =>
   have HT2 : Hid (Tm.twice lns l = true) := by unfold Hid; rw [HT.out, hany]
   go_wp2_with fail
   refine (refuse_yes 2 _).mono ?_
   rintro e w2' ⟨rfl, rfl⟩
   go_wp2
   exact ⟨rfl, lineAns_twice HP.out HT2.out rfl (HB1.out.trans (HBC.out.mono HSZ.out))⟩
  have HT2 : Hid (Tm.twice lns l = false) := by unfold Hid; rw [HT.out, hany]
  clear hany
  go_wp2_with fail
  refine (refuse_no 2 _).mono ?_
  rintro e wC' ⟨rfl, rfl⟩
  go_wp2_with fail
  refine (ContainsFunc_light _ l.els _ (HSEQ.out.2.1.below HBC.out HSEQ.out.2.1.2.1) (by omega)).mono ?_
  rintro e wD ⟨rfl, hbD⟩
  have hsD := hbD.size
  have HBD : Hid (Below w1.heap.size w1 wD) := HBC.out.trans (hbD.mono (by omega))
  have k0 : w1.heap.size < wC'.heap.size := by omega
  have k1 : w1.heap.size + 1 < wC'.heap.size := by omega
  have t0 : wD.cell? ⟨w1.heap.size, 0, none⟩ = some (.slice (some ⟨g1, off1, none⟩) l.runes.length cap1) := by rw [hbD.cell (p := ⟨w1.heap.size, 0, none⟩) k0]; exact s0
  have t1 : wD.cell? ⟨w1.heap.size, 1, none⟩ = some (.slice a2 l.els.length cap2) := by rw [hbD.cell (p := ⟨w1.heap.size, 1, none⟩) k0]; exact s1
  have m0 : wD.cell? ⟨w1.heap.size + 1, 0, none⟩ = some (.int .i64 (Tm.classOf lns r)) := by rw [hbD.cell (p := ⟨w1.heap.size + 1, 0, none⟩) k1]; exact n0
  have m1 : wD.cell? ⟨w1.heap.size + 1, 1, none⟩ = some (.slice pa pl pc) := by rw [hbD.cell (p := ⟨w1.heap.size + 1, 1, none⟩) k1]; exact n1
  have m2 : wD.cell? ⟨w1.heap.size + 1, 2, none⟩ = some (.slice sa sl sc) := by rw [hbD.cell (p := ⟨w1.heap.size + 1, 2, none⟩) k1]; exact n2
  have mf : ∀ o, wD.frozen? ⟨w1.heap.size + 1, o, none⟩ = false := fun o => by rw [hbD.frozen (p := ⟨w1.heap.size + 1, o, none⟩) k1]; exact nf o
  clear hbD s0 s1 n0 n1 n2 nf
  cases hlight : l.els.any Tm.lightEl
  case true =>
   have HLT := hide hlight
   clear hlight
   go_wp2_with fail
   refine (refuse_yes 4 _).mono ?_
   rintro e w2' ⟨rfl, rfl⟩
   go_wp2
   exact ⟨rfl, lineAns_light HP.out HT2.out HLT.out rfl (HB1.out.trans (HBD.out.mono HSZ.out))⟩
  have HLT := hide hlight
  clear hlight
  obtain ⟨xs, hxl, hrow, hok⟩ := HSR.out
  rw [HSL.out] at hrow
  have HXL := hide hxl
  have HROW := hide hrow
  have HOK := hide hok
  have HOWD : Hid ((wD.alloc (.cells #[.slice (some ⟨g1, off1, none⟩) l.runes.length cap1, .slice a2 l.els.length cap2] 238)).ownsRow base 238 2 (.slice sa sl sc) sl (seqCells false xs (Tm.seqsAt lns r))) := (owns_below hrow.1 HBD.out).alloc _
  have hbsz : base ≤ wD.heap.size := by have h1 := HBW.out; have h2 := HSZ.out; omega
  clear hxl hrow hok
  go_wp2_with fail
  refine (refuse_no 4 _).mono ?_
  rintro e wD' ⟨rfl, rfl⟩
  go_wp2_with (at_builtin; go_must (refine wpList_append_own_at _ rfl _ _ 247 rfl base 238 i0 (.agg #[.slice none 0 0, .slice none 0 0]) 2 48 Tryz.underlying247 hi hz0 hz1 hz2 rfl (by decide) _ _ _ rfl HOWD.out ⟨wD'.heap.size, 0, none⟩ 1 1 [.slice (some ⟨g1, off1, none⟩) l.runes.length cap1, .slice a2 l.els.length cap2] rfl rfl (news_two rfl) (by intro u hu; simp at hu; rcases hu with rfl | rfl <;> rfl) (by unfold maxLen; omega) (by omega) (by simp; omega) ?_))
  intro sv' w5 hown5 hg5 _ hat5
  have HROWLT : Hid (∀ g, (Value.slice sa sl sc).ownBlock = some g → g < w1.heap.size) := fun g hg => (HROW.out.1.lt g hg).2
  have HBML := hide HMAP.out.lt
  have HBMR : Hid ((Value.slice sa sl sc).ownBlock ≠ some bm) := fun e => by have := HROW.out.2 bm e; rw [HREP.out.nd.hue] at this; omega
  have HBDR : Hid ((Value.slice sa sl sc).ownBlock ≠ some bd) := fun e => by have := HROW.out.2 bd e; rw [HREP.out.dr.hue] at this; omega
  have HSDD := hide hsD
  have q0 : w5.cell? ⟨w1.heap.size + 1, 0, none⟩ = some (.int .i64 (Tm.classOf lns r)) := hg5.cell (by rw [cell_old (by omega)]; exact m0) (fun e => by have := HROWLT.out _ e.symm; simp at this; omega)
  have q1 : w5.cell? ⟨w1.heap.size + 1, 1, none⟩ = some (.slice pa pl pc) := hg5.cell (by rw [cell_old (by omega)]; exact m1) (fun e => by have := HROWLT.out _ e.symm; simp at this; omega)
  have q2 : w5.cell? ⟨w1.heap.size + 1, 2, none⟩ = some (.slice sa sl sc) := hg5.cell (by rw [cell_old (by omega)]; exact m2) (fun e => by have := HROWLT.out _ e.symm; simp at this; omega)
  have qf : ∀ o, w5.frozen? ⟨w1.heap.size + 1, o, none⟩ = false := fun o => by
   rw [World.frozen?_of_block (w := wD'.alloc _) (a := ⟨w1.heap.size + 1, o, none⟩) (hg5.block (w1.heap.size + 1) (by simp; omega) (fun e => by have := HROWLT.out _ e.symm; omega)), frozen_old (by omega)]; exact mf o
  have u0 : w5.cell? ⟨w1.heap.size, 0, none⟩ = some (.slice (some ⟨g1, off1, none⟩) l.runes.length cap1) := hg5.cell (by rw [cell_old (by omega)]; exact t0) (fun e => by have := HROWLT.out _ e.symm; simp at this)
  have u1 : w5.cell? ⟨w1.heap.size, 1, none⟩ = some (.slice a2 l.els.length cap2) := hg5.cell (by rw [cell_old (by omega)]; exact t1) (fun e => by have := HROWLT.out _ e.symm; simp at this)
  have e0 : w5.cell? ⟨bd, 0, none⟩ = some (.map (some bm)) := hg5.cell (by rw [cell_old (by omega), HBD.out.cell (p := ⟨bd, 0, none⟩) dl]; exact d0) (fun e => HBDR.out e.symm)
  have hz5 := hg5.size
  simp only [World.size_alloc] at hz5
  have HOWN5 : Hid (w5.ownsRow base 238 2 sv' (sl + 1) (seqCells false xs (Tm.seqsAt lns r) ++ [.slice (some ⟨g1, off1, none⟩) l.runes.length cap1, .slice a2 l.els.length cap2])) := hown5
  have HG5 := hide hg5
  have HAT5 : Hid (sv'.ownBlock = (Value.slice sa sl sc).ownBlock ∨ sv'.ownBlock = some (wD'.alloc (.cells #[.slice (some ⟨g1, off1, none⟩) l.runes.length cap1, .slice a2 l.els.length cap2] 238)).heap.size) := hat5.imp id (fun h => h.trans (by simp))
  have bn1 : ¬ bd = w1.heap.size + 1 := by omega
  have bn2 : ¬ w1.heap.size + 1 = bd := by omega
  have bn3 : ¬ w1.heap.size = bd := by omega
  obtain ⟨a5, c5, rfl⟩ := (Reads.of_owns hown5).shape
  clear hown5 hg5 hat5 m0 m1 m2 mf t0 t1 d0 HOWD
  go_wp2_with fail
  have HM6 : Hid (MapIs (w5.setCell ⟨w1.heap.size + 1, 2, none⟩ (.slice a5 (sl + 1) c5)).drew bm lns.length f) := HMAP.out.same (by
   rw [show ((w5.setCell ⟨w1.heap.size + 1, 2, none⟩ (.slice a5 (sl + 1) c5)).drew).heap[bm]? = (w5.setCell ⟨w1.heap.size + 1, 2, none⟩ (.slice a5 (sl + 1) c5)).heap[bm]? from rfl, Below.heap_setCell _ _ _ _ (by have := HBML.out; simp; omega), HG5.out.block bm (by have := HBML.out; simp; omega) (fun e => HBMR.out e.symm), Below.heap_alloc _ _ _ (by have := HBML.out; omega)]
   exact HBD.out.block bm HBML.out)
  obtain ⟨w7, hrun, hm7, hg7⟩ := HM6.out.put (by unfold maxLen; omega) (wf_rune hr0) (.agg #[.int .i64 (Tm.classOf lns r), .slice pa pl pc, .slice a5 (sl + 1) c5])
  have HPD' : Hid (Data w1 (freshCol col w.heap.size) (.slice pa pl pc) 1 (Tm.parts lns r).length (ints (Tm.parts lns r))) := by unfold Hid; rw [HPL.out]; exact HPD.out
  have hnd7 := Nd.grown (o := .cells #[.slice (some ⟨g1, off1, none⟩) l.runes.length cap1, .slice a2 l.els.length cap2] 238) (nb := w1.heap.size + 1) HREP.out.nd HALL.out HKIND.out HHEAD.out hr0.1 HPD'.out HXL.out (by rw [HSL.out]; exact HROW.out) HOK.out HSEQ.out HBD.out ⟨by omega, by omega⟩ (by rw [HSL.out]; exact HOWN5.out) HG5.out HAT5.out rfl hg7 hm7
  have HND7 := hide hnd7.1
  have HK7 := hide hnd7.2
  have HDR7 : Hid (Dr w7 (recol (freshCol col w.heap.size) (wD'.alloc (.cells #[.slice (some ⟨g1, off1, none⟩) l.runes.length cap1, .slice a2 l.els.length cap2] 238)).heap.size r) base bd bm line vp vw) := HREP.out.dr.keep HK7.out ⟨by omega, by omega⟩
  have HPT7 : Hid (Pt w7 (recol (freshCol col w.heap.size) (wD'.alloc (.cells #[.slice (some ⟨g1, off1, none⟩) l.runes.length cap1, .slice a2 l.els.length cap2] 238)).heap.size r) base vp lns) := HREP.out.pt.keep HK7.out ⟨by omega, by omega⟩
  have HSEQ7 : Hid (SeqOk w7 (recol (freshCol col w.heap.size) (wD'.alloc (.cells #[.slice (some ⟨g1, off1, none⟩) l.runes.length cap1, .slice a2 l.els.length cap2] 238)).heap.size r) (.slice (some ⟨g1, off1, none⟩) l.runes.length cap1, .slice a2 l.els.length cap2) l) := ⟨HSEQ.out.1.keep HK7.out ⟨by omega, by omega⟩, HSEQ.out.2.keep HK7.out ⟨by omega, by omega⟩⟩
  obtain ⟨xs2, hxl2, hrow2, hok2⟩ := HREP.out.wt.keep HK7.out ⟨by omega, by omega⟩ ⟨by omega, by omega⟩
  have HXL2 := hide hxl2
  have HROW2 := hide hrow2
  have HOK2 := hide hok2
  obtain ⟨wl, hwl⟩ : ∃ wl, (Tm.wLines lns).length = wl := ⟨_, rfl⟩
  have hwle : wl ≤ 8192 := by have := wLines_le lns; omega
  have HWL := hide hwl
  have hrow2' := hrow2.1
  rw [hwl] at hrow2'
  obtain ⟨va, vc, rfl⟩ := (Reads.of_owns hrow2').shape
  have hz7 := hg7.size
  have hz6 : (w5.setCell ⟨w1.heap.size + 1, 2, none⟩ (.slice a5 (sl + 1) c5)).drew.heap.size = w5.heap.size := by simp [World.setCell, World.drew]
  have c60 : (w5.setCell ⟨w1.heap.size + 1, 2, none⟩ (.slice a5 (sl + 1) c5)).drew.cell? ⟨w1.heap.size, 0, none⟩ = some (.slice (some ⟨g1, off1, none⟩) l.runes.length cap1) := (World.cell?_setCell_other _ _ _ _ (by simp)).trans u0
  have c61 : (w5.setCell ⟨w1.heap.size + 1, 2, none⟩ (.slice a5 (sl + 1) c5)).drew.cell? ⟨w1.heap.size, 1, none⟩ = some (.slice a2 l.els.length cap2) := (World.cell?_setCell_other _ _ _ _ (by simp)).trans u1
  have HC0 := hide (hg7.cell c60 (by have := HBML.out; simp; omega))
  have HC1 := hide (hg7.cell c61 (by have := HBML.out; simp; omega))
  have HBF : Hid (Sole base bm w w7) := by
   have h1 : Below base w wD' := (HB1.out.mono HBW.out).trans (HBD.out.mono (by have := HBW.out; have := HSZ.out; omega))
   have h2 := (h1.alloc hbsz (.cells #[.slice (some ⟨g1, off1, none⟩) l.runes.length cap1, .slice a2 l.els.length cap2] 238)).grown HG5.out (by simp; omega) (fun j hj => (HROW.out.1.lt j hj).1)
   have h3 : Below base w (w5.setCell ⟨w1.heap.size + 1, 2, none⟩ (.slice a5 (sl + 1) c5)).drew := (h2.setCell (p := ⟨w1.heap.size + 1, 2, none⟩) (by have := HBW.out; have := HSZ.out; simp; omega) _).drew
   exact (Sole.of h3).grown hg7 (by rw [hz6]; omega) (fun j hj => by cases hj; exact .inr rfl)
  clear hm7 hg7 hnd7 hxl2 hrow2 hok2 hrow2' hwl c60 c61 hz6
  have y1 := HDR7.out.c1
  have y3 := HDR7.out.c3
  have hl7 := HDR7.out.lt
  have x70 := HC0.out
  have x71 := HC1.out
  have HOWN : Hid ((w7.drew.alloc (.cells #[.int .i64 line, .slice (some ⟨g1, off1, none⟩) l.runes.length cap1, .slice a2 l.els.length cap2] 240)).ownsRow base 240 3 (.slice va wl vc) wl (seqCells true xs2 (Tm.wLines lns))) := (ownsRow_same (w' := w7.drew) (by have := HROW2.out.1; rw [HWL.out] at this; exact this) (fun _ _ => rfl)).alloc _
  have HNEWS : Hid (∀ j u, [Value.int .i64 line, .slice (some ⟨g1, off1, none⟩) l.runes.length cap1, .slice a2 l.els.length cap2][j]? = some u → (w7.drew.alloc (.cells #[.int .i64 line, .slice (some ⟨g1, off1, none⟩) l.runes.length cap1, .slice a2 l.els.length cap2] 240)).cell? ((⟨w7.heap.size, 0, none⟩ : Addr).add j) = some u) := news_three rfl
  have HONE : Hid (∀ u ∈ [Value.int .i64 line, .slice (some ⟨g1, off1, none⟩) l.runes.length cap1, .slice a2 l.els.length cap2], u.oneCell' = true) := by intro u hu; simp at hu; rcases hu with rfl | rfl | rfl <;> rfl
  have HNB : Hid ((Value.slice va wl vc).ownBlock ≠ some bd) := fun e => by have := HROW2.out.2 bd e; rw [HDR7.out.hue] at this; omega
  have HBA : Hid (base ≤ (w7.drew.alloc (.cells #[.int .i64 line, .slice (some ⟨g1, off1, none⟩) l.runes.length cap1, .slice a2 l.els.length cap2] 240)).heap.size) := by have h1 := HDR7.out.from_; have h2 := HDR7.out.lt; unfold Hid; simp; omega
  have HC2 : Hid ((w7.drew.alloc (.cells #[.int .i64 line, .slice (some ⟨g1, off1, none⟩) l.runes.length cap1, .slice a2 l.els.length cap2] 240)).cell? ⟨bd, 3, none⟩ = some (.slice va wl vc)) := by unfold Hid; rw [cell_old (by exact hl7)]; exact y3
  have HF2 : Hid ((w7.drew.alloc (.cells #[.int .i64 line, .slice (some ⟨g1, off1, none⟩) l.runes.length cap1, .slice a2 l.els.length cap2] 240)).frozen? ⟨bd, 3, none⟩ = false) := by unfold Hid; rw [frozen_old (by exact hl7)]; exact HDR7.out.free 3
  have HL2 : Hid (bd < (w7.drew.alloc (.cells #[.int .i64 line, .slice (some ⟨g1, off1, none⟩) l.runes.length cap1, .slice a2 l.els.length cap2] 240)).heap.size) := by unfold Hid; simp; omega
  have HBG : Hid (Sole base bm w (w7.drew.alloc (.cells #[.int .i64 line, .slice (some ⟨g1, off1, none⟩) l.runes.length cap1, .slice a2 l.els.length cap2] 240))) := HBF.out.drew.alloc (by have h1 := HDR7.out.from_; have h2 := HDR7.out.lt; simp; omega) _
  go_region
  all_goals go_wp2_with fail
  all_goals go_region_law (refine step_append_own rfl _ _ 200 rfl base 240 i1 (.agg #[.int .i64 0, .slice none 0 0, .slice none 0 0]) 3 56 Tryz.underlying200 hi' hy0 hy1 hy2 rfl (by decide) _ _ _ (by simp [Act.eval]) HOWN.out ⟨w7.heap.size, 0, none⟩ 1 1 [.int .i64 line, .slice (some ⟨g1, off1, none⟩) l.runes.length cap1, .slice a2 l.els.length cap2] (by simp [Act.eval]) rfl HNEWS.out HONE.out (by unfold maxLen; omega) (by omega) HBA.out ?_; intro v' w4 hown4 hg4 hat4; have HOWN4 := hide hown4; have HG4 := hide hg4; have HAT4 := hide hat4; have z2 := hg4.cell HC2.out (fun e => HNB.out e.symm); have zf : w4.frozen? ⟨bd, 3, none⟩ = false := (World.frozen?_of_block (hg4.block bd HL2.out (fun e => HNB.out e.symm))).trans HF2.out; obtain ⟨a4, c4, rfl⟩ := (Reads.of_owns hown4).shape; clear hown4 hg4 hat4)
  all_goals go_wp2
  all_goals go_end0
  all_goals exact lineAns_ok HP.out HT2.out HLT.out rfl ((HBG.out.grown HG4.out HBA.out (fun j hj => .inl (HROW2.out.1.lt j hj).1)).setCell (p := ⟨bd, 3, none⟩) HDR7.out.from_ _) ⟨_, _, _, Rep.weigh (x := (.slice (some ⟨g1, off1, none⟩) l.runes.length cap1, .slice a2 l.els.length cap2)) HDR7.out HND7.out HPT7.out HXL2.out HROW2.out HOK2.out HSEQ7.out HREP.out.fit (fun q hq => by rw [HK7.out.same q (by have h1 := HREP.out.dr.from_; have h2 := HREP.out.dr.lt; omega)]; exact HREP.out.low q hq) HFIT.out HKIND.out (by rw [HWL.out, HNUM.out]; exact HOWN4.out) HG4.out HAT4.out⟩
theorem Tryz.infoParted : (Tryz.prog.info? 234).map (fun i => (i.zero, i.size, i.bytes)) = some (some (.agg #[.int .i64 0, .int .i64 0]), 2, 16) := by kernel_rfl
theorem parse_makeup_count {n : Int} {ws : List (List UInt8)} (h2 : ws.length ≠ 2) (h3 : ws.length ≠ 3) : Tm.parseWords n ([100] :: ws) = none := by
 rw [Tm.parse_nosign (by simp)]
 have : Tm.fits [100] (ws.map Tm.num) 0 false = false := by
  simp [Tm.fits]
  exact ⟨h2, h3⟩
 rw [this]; simp
theorem parse_makeup {n : Int} {ws : List (List UInt8)} (h : ws.length = 2 ∨ ws.length = 3) : Tm.parseWords n ([100] :: ws) = if ws.all Tm.runeOk = true then some ⟨[100], ws.map Tm.num, [], n⟩ else none := by
 rw [Tm.parse_nosign (by simp)]
 have : Tm.fits [100] (ws.map Tm.num) 0 false = true := by
  simp [Tm.fits]
  exact h
 rw [this, Bool.and_true]
set_option maxRecDepth 100000 in
set_option maxHeartbeats 2000000 in
theorem readMakeup_any (vs : Value) (bs : List ByteArray) (col : Nat → Int) (base bd bm : Nat) (line : Int) (vp vw : Value) (lns : List Tm.Ln) (w : World) (hr : Reads w vs 1 bs.length (bs.map Value.string)) (hl : bs.length ≤ 8193) (hz : ∀ b ∈ bs, b.size ≤ 8192)
  (hrep : Rep w col base bd bm line vp vw lns) (hn : lns.length ≤ 8192) :
  Calls Tryz.prog 179 #[.pointer (some ⟨bd, 0, none⟩), vs] w fun e w' => lineAns (Tm.parseWords line ([100] :: lets bs)) lns base bd bm line w e w' := by
 have HR := hide hr
 have HZ := hide hz
 obtain ⟨i0, hi, hz0, hz1, hz2⟩ := info_parts Tryz.infoParted
 obtain ⟨va, vc, rfl⟩ := (Reads.of_owns hrep.pt.1).shape
 obtain ⟨a, cap, rfl⟩ := hr.shape
 clear hr hz
 by_cases hcount : bs.length ≠ 2 ∧ bs.length ≠ 3
 ·obtain ⟨h2, h3⟩ := hcount
  have hd : ((bs.length : Int) != 2) = true := by simp; omega
  have hd' : ((bs.length : Int) != 3) = true := by simp; omega
  have HN := hide (parse_makeup_count (n := line) (ws := lets bs) (by rw [lets_length]; exact h2) (by rw [lets_length]; exact h3))
  clear h2 h3 hrep
  go_enter Tryz.func179, Tryz.ntmps179
  go_wp2_with fail
  refine (refuse_yes 1 _).mono ?_
  rintro e w' ⟨rfl, rfl⟩
  go_wp2
  exact ⟨rfl, lineAns_none HN.out rfl (Below.refl _ _)⟩
 have hcount' : bs.length = 2 ∨ bs.length = 3 := by omega
 have hcnt : bs.length = 2 ∨ bs.length = 3 := hcount'
 have HP := hide (parse_makeup (n := line) (ws := lets bs) (by rw [lets_length]; exact hcount'))
 have hdl := dLines_le lns
 have hwalk : ∀ Q : Prop, (((bs.length : Int) != 2) = false → Q) → (((bs.length : Int) != 2) = true → ((bs.length : Int) != 3) = false → Q) → Q := by
  intro Q h1 h2
  rcases hcnt with h | h
  ·exact h1 (by rw [h]; rfl)
  ·exact h2 (by rw [h]; rfl) (by rw [h]; rfl)
 refine hwalk _ (fun hd => ?_) (fun hd hd' => ?_)
 all_goals
  go_enter Tryz.func179, Tryz.ntmps179
  go_wp2_with fail
  refine (refuse_no 1 _).mono ?_
  rintro e w' ⟨rfl, rfl⟩
  go_wp2_with fail
  refine (readRunes_any _ bs _ HR.out hl HZ.out).mono ?_
  rintro e w1 ⟨hans, hb1⟩
  unfold runesAns at hans
  rw [all_lets, nums_lets] at hans
  cases ha : (lets bs).all Tm.runeOk
  ·rw [ha] at hans
   obtain rfl : e = _ := hans
   have HN : Hid (Tm.parseWords line ([100] :: lets bs) = none) := by unfold Hid; rw [HP.out, if_neg (by rw [ha]; simp)]
   have HB1 := hide hb1
   clear hb1 hrep
   go_wp2
   exact ⟨rfl, lineAns_none HN.out rfl HB1.out⟩
  rw [ha] at hans
  obtain ⟨v1, rfl, hrd1, hbl1⟩ := hans
  have hnl : ((lets bs).map Tm.num).length = bs.length := by rw [List.length_map, lets_length]
  have hrng := Tm.all_range ha
  have HFIT : Hid (Tm.Fit ⟨[100], (lets bs).map Tm.num, [], line⟩) := Tm.fit_parts ha (by rw [lets_length]; exact hcount')
  have HN : Hid (Tm.parseWords line ([100] :: lets bs) = some ⟨[100], (lets bs).map Tm.num, [], line⟩) := by unfold Hid; rw [HP.out, if_pos ha]
  rw [← hnl] at hrd1
  obtain ⟨r, rs, hrs⟩ : ∃ r rs, (lets bs).map Tm.num = r :: rs := by
   cases h : (lets bs).map Tm.num with
   | nil => rw [h] at hnl; simp at hnl; omega
   | cons x y => exact ⟨x, y, rfl⟩
  rw [hrs] at hrd1 HN HFIT hrng hnl
  have hr0 := hrng r (by simp)
  have hrl : rs.length + 1 = bs.length := by simpa using hnl
  have HREP : Hid (Rep w1 (freshCol col w'.heap.size) base bd bm line (.slice va (Tm.dLines lns).length vc) vw lns) := hrep.fresh.below hb1
  have HB1 := hide hb1
  have HBW : Hid (base ≤ w'.heap.size) := by have h1 := hrep.dr.from_; have h2 := hrep.dr.lt; unfold Hid; omega
  have HT : Hid (Tm.twice lns ⟨[100], r :: rs, [], line⟩ = decide (0 < (Tm.parts lns r).length)) := Tm.twice_parts hrep.fit rfl
  clear hrep hb1 hrng ha hrs hnl HR HZ hd
  obtain ⟨g1, off1, cap1, rfl, hg1, hcells⟩ := hrd1.form (by simp [ints])
  have x0 := hcells 0 _ rfl
  rw [Nat.add_zero] at x0
  have hfit1 := hrd1.fits
  have HTL : Hid (Data w1 (freshCol col w'.heap.size) (.slice (some ⟨g1, off1 + 1, none⟩) (bs.length - 1) (cap1 - 1)) 1 rs.length (ints rs)) :=
   ⟨by have := hrd1.tail (by simp); rw [show (r :: rs).length - 1 = bs.length - 1 from by simp; omega] at this; exact this, fun g hg => by
    have hg' : g1 = g := by simpa [Value.ownBlock] using hg
    subst hg'
    exact freshCol_new (hbl1 g1 rfl)⟩
  have hcap1 : ¬ cap1 = 1 := by have := hfit1.2.1; simp at this; omega
  have hcap2 : 1 ≤ cap1 := by have := hfit1.2.1; simp at this; omega
  have hcap3 : cap1 ≤ 9223372036854775807 := by have := hfit1.2.2; unfold maxLen at this; omega
  have hcap4 := hfit1.2.1
  obtain ⟨f, pv, sv, hmap, hfv, hpd, hsr, hall⟩ := HREP.out.nd.look hr0.1
  have d0 := HREP.out.dr.c0
  have dl := HREP.out.dr.lt
  have HPD := hide hpd
  have HSR := hide hsr
  have HALL := hide hall
  have HMAP := hide hmap
  clear hpd hsr hall hmap hrd1 hbl1 hcells hfit1
  obtain ⟨pa, pc, rfl⟩ := HPD.out.1.shape
  obtain ⟨sa, sc, rfl⟩ := HSR.out.rd.shape
  generalize hpl : (Tm.parts lns r).length = pl at *
  have HPL := hide hpl
  clear hpl
  go_wp2_with (at_lookup; go_must (refine wpList_look rfl _ _ rfl bm lns.length f rfl HMAP.out r rfl (wf_rune hr0) _ hfv ?_))
  have hbw : Below w1.heap.size w1 (w1.alloc (.cells #[.int .i64 (Tm.classOf lns r), .slice pa pl pc, .slice sa (Tm.seqsAt lns r).length sc] 251)) := (Below.refl _ _).alloc (Nat.le_refl _) _
  refine (hasParts_any _ pl (ints (Tm.parts lns r)) _ (HPD.out.1.below hbw HPD.out.1.2.1)).mono ?_
  rintro e w2 ⟨rfl, hb2⟩
  have hs2 := hb2.size
  have hsz : w1.heap.size < (w1.alloc (.cells #[.int .i64 (Tm.classOf lns r), .slice pa pl pc, .slice sa (Tm.seqsAt lns r).length sc] 251)).heap.size := by simp
  have n0 : w2.cell? ⟨w1.heap.size, 0, none⟩ = some (.int .i64 (Tm.classOf lns r)) := by rw [hb2.cell (p := ⟨w1.heap.size, 0, none⟩) hsz, cell_new rfl]; rfl
  have n1 : w2.cell? ⟨w1.heap.size, 1, none⟩ = some (.slice pa pl pc) := by rw [hb2.cell (p := ⟨w1.heap.size, 1, none⟩) hsz, cell_new rfl]; rfl
  have n2 : w2.cell? ⟨w1.heap.size, 2, none⟩ = some (.slice sa (Tm.seqsAt lns r).length sc) := by rw [hb2.cell (p := ⟨w1.heap.size, 2, none⟩) hsz, cell_new rfl]; rfl
  have nf : ∀ o, w2.frozen? ⟨w1.heap.size, o, none⟩ = false := fun o => by rw [hb2.frozen (p := ⟨w1.heap.size, o, none⟩) hsz, frozen_new rfl]
  have HB2 : Hid (Below w1.heap.size w1 w2) := hbw.trans (hb2.mono (by simp))
  simp only [World.size_alloc] at hs2
  have e0 : w2.cell? ⟨bd, 0, none⟩ = some (.map (some bm)) := by rw [HB2.out.cell (p := ⟨bd, 0, none⟩) dl]; exact d0
  have hne : ¬ bd = w1.heap.size := by omega
  have hne' : ¬ w1.heap.size = bd := by omega
  have HSZ := hide HB1.out.size
  clear hb2 hsz hbw
  cases hpp : decide (0 < pl)
  case true =>
   have HT2 : Hid (Tm.twice lns ⟨[100], r :: rs, [], line⟩ = true) := by unfold Hid; rw [HT.out, hpp]
   go_wp2_with fail
   refine (refuse_yes 2 _).mono ?_
   rintro e w2' ⟨rfl, rfl⟩
   go_wp2
   exact ⟨rfl, lineAns_twice HN.out HT2.out rfl (HB1.out.trans (HB2.out.mono HSZ.out))⟩
  have HT2 : Hid (Tm.twice lns ⟨[100], r :: rs, [], line⟩ = false) := by unfold Hid; rw [HT.out, hpp]
  have HP0 : Hid ((Tm.parts lns r).length = 0) := by unfold Hid; rw [HPL.out]; simpa using hpp
  go_wp2_with fail
  refine (refuse_no 2 _).mono ?_
  rintro e w2' ⟨rfl, rfl⟩
  go_wp2_with fail
  have HWB : Hid (Below w1.heap.size w1 (w2'.setCell ⟨w1.heap.size, 1, none⟩ (.slice (some ⟨g1, off1 + 1, none⟩) (bs.length - 1) (cap1 - 1))).drew) := (HB2.out.setCell (p := ⟨w1.heap.size, 1, none⟩) (Nat.le_refl _) _).drew
  have HM1 : Hid (MapIs (w2'.setCell ⟨w1.heap.size, 1, none⟩ (.slice (some ⟨g1, off1 + 1, none⟩) (bs.length - 1) (cap1 - 1))).drew bm lns.length f) := HMAP.out.same (HWB.out.block bm HMAP.out.lt)
  obtain ⟨w3, hrun, hm3, hg3⟩ := HM1.out.put (by unfold maxLen; omega) (wf_rune hr0) (.agg #[.int .i64 (Tm.classOf lns r), .slice (some ⟨g1, off1 + 1, none⟩) (bs.length - 1) (cap1 - 1), .slice sa (Tm.seqsAt lns r).length sc])
  have HK3 : Hid (Keeps w1 w3 (freshCol col w'.heap.size) (freshCol col w'.heap.size) (· ≠ -2)) := (Keeps.below HWB.out).trans (Keeps.grown hg3 HREP.out.nd.hue)
  have HND3 : Hid (Nd w3 (freshCol col w'.heap.size) base bm (lns ++ [⟨[100], r :: rs, [], line⟩])) := HREP.out.nd.parts HALL.out HTL.out HSR.out hr0.1 hm3 HK3.out HP0.out HREP.out.fit
  have HDR3 : Hid (Dr w3 (freshCol col w'.heap.size) base bd bm line (.slice va (Tm.dLines lns).length vc) vw) := HREP.out.dr.keep HK3.out (by decide)
  have HPT3 : Hid (Pt w3 (freshCol col w'.heap.size) base (.slice va (Tm.dLines lns).length vc) lns) := HREP.out.pt.keep HK3.out (by decide)
  have HWT3 : Hid (Wt w3 (freshCol col w'.heap.size) base vw lns) := HREP.out.wt.keep HK3.out (by decide) (by decide)
  have HBF : Hid (Sole base bm w' w3) := by
   have hbd := HREP.out.dr.from_
   have h2 : Below base w1 (w2'.setCell ⟨w1.heap.size, 1, none⟩ (.slice (some ⟨g1, off1 + 1, none⟩) (bs.length - 1) (cap1 - 1))).drew := HWB.out.mono (by omega)
   have h3 : Sole base bm w1 w3 := (Sole.of h2).grown hg3 (by have := HWB.out.size; omega) (fun j hj => by cases hj; exact .inr rfl)
   exact (Sole.of (HB1.out.mono (HBW.out))).trans h3
  have y0 := HDR3.out.c0
  have y1 := HDR3.out.c1
  have y2 := HDR3.out.c2
  have hl3 := HDR3.out.lt
  clear hm3 hg3
  have HOWN : Hid ((w3.drew.alloc (.cells #[.int .i64 line, .int .i64 r] 234)).ownsRow base 234 2 (.slice va (Tm.dLines lns).length vc) (Tm.dLines lns).length (partCells (Tm.dLines lns))) := (ownsRow_same (w' := w3.drew) HPT3.out.1 (fun _ _ => rfl)).alloc _
  have HNEWS : Hid (∀ j u, [Value.int .i64 line, .int .i64 r][j]? = some u → (w3.drew.alloc (.cells #[.int .i64 line, .int .i64 r] 234)).cell? ((⟨w3.heap.size, 0, none⟩ : Addr).add j) = some u) := news_two rfl
  have HONE : Hid (∀ u ∈ [Value.int .i64 line, .int .i64 r], u.oneCell' = true) := by intro u hu; simp at hu; rcases hu with rfl | rfl <;> rfl
  have HNB : Hid ((Value.slice va (Tm.dLines lns).length vc).ownBlock ≠ some bd) := fun e => by have := HPT3.out.2 bd e; rw [HDR3.out.hue] at this; omega
  have HBA : Hid (base ≤ (w3.drew.alloc (.cells #[.int .i64 line, .int .i64 r] 234)).heap.size) := by have h1 := HDR3.out.from_; have h2 := HDR3.out.lt; unfold Hid; simp; omega
  have HC2 : Hid ((w3.drew.alloc (.cells #[.int .i64 line, .int .i64 r] 234)).cell? ⟨bd, 2, none⟩ = some (.slice va (Tm.dLines lns).length vc)) := by unfold Hid; rw [cell_old (by exact hl3)]; exact y2
  have HF2 : Hid ((w3.drew.alloc (.cells #[.int .i64 line, .int .i64 r] 234)).frozen? ⟨bd, 2, none⟩ = false) := by unfold Hid; rw [frozen_old (by exact hl3)]; exact HDR3.out.free 2
  have HL2 : Hid (bd < (w3.drew.alloc (.cells #[.int .i64 line, .int .i64 r] 234)).heap.size) := by unfold Hid; simp; omega
  have HBG : Hid (Sole base bm w' (w3.drew.alloc (.cells #[.int .i64 line, .int .i64 r] 234))) := HBF.out.drew.alloc (by have h1 := HDR3.out.from_; have h2 := HDR3.out.lt; simp; omega) _
  go_region
  all_goals go_wp2_with fail
  all_goals go_region_law (refine step_append_own rfl _ _ 199 rfl base 234 i0 (.agg #[.int .i64 0, .int .i64 0]) 2 16 Tryz.underlying199 hi hz0 hz1 hz2 rfl (by decide) _ _ _ (by simp [Act.eval]) HOWN.out ⟨w3.heap.size, 0, none⟩ 1 1 [.int .i64 line, .int .i64 r] (by simp [Act.eval]) rfl HNEWS.out HONE.out (by unfold maxLen; omega) (by omega) HBA.out ?_; intro v' w4 hown4 hg4 hat4; have HOWN4 := hide hown4; have HG4 := hide hg4; have HAT4 := hide hat4; have z2 := hg4.cell HC2.out (fun e => HNB.out e.symm); have zf : w4.frozen? ⟨bd, 2, none⟩ = false := (World.frozen?_of_block (hg4.block bd HL2.out (fun e => HNB.out e.symm))).trans HF2.out; obtain ⟨a4, c4, rfl⟩ := (Reads.of_owns hown4).shape; clear hown4 hg4 hat4)
  all_goals go_wp2
  all_goals go_end0
  all_goals exact lineAns_ok HN.out HT2.out rfl rfl ((HBG.out.grown HG4.out HBA.out (fun j hj => .inl (HPT3.out.1.lt j hj).1)).setCell (p := ⟨bd, 2, none⟩) HDR3.out.from_ _) ⟨_, _, _, Rep.parts HDR3.out HND3.out HPT3.out HWT3.out HREP.out.fit HREP.out.low HFIT.out rfl HOWN4.out HG4.out HAT4.out⟩
theorem lineAns.since {r : Option Tm.Ln} {lns : List Tm.Ln} {base bd bm : Nat} {line : Int} {w w1 : World} {e : Ending} {w' : World} (h : lineAns r lns base bd bm line w1 e w') (hb : Below w.heap.size w w1) (hB : base ≤ w.heap.size) : lineAns r lns base bd bm line w e w' := by
 unfold lineAns at *
 have hs := hb.size
 split
 ·exact ⟨h.1, hb.trans (h.2.mono hs)⟩
 ·simp only at h
  split
  ·rename_i ht; rw [if_pos ht] at h; exact ⟨h.1, hb.trans (h.2.mono hs)⟩
  ·rename_i ht
   rw [if_neg ht] at h
   split
   ·rename_i hg; rw [if_pos hg] at h; exact ⟨h.1, hb.trans (h.2.mono hs)⟩
   ·rename_i hg; rw [if_neg hg] at h; exact ⟨h.1, (Sole.of (hb.mono hB)).trans h.2.1, h.2.2⟩
theorem lineAns_ends {r : Option Tm.Ln} {lns : List Tm.Ln} {base bd bm : Nat} {line : Int} {w : World} {e : Ending} {w' : World} (h : lineAns r lns base bd bm line w e w') : e = .returned (.tuple #[]) ∨ ∃ q, tells e q := by
 unfold lineAns at h
 split at h
 ·exact .inr ⟨1, h.1⟩
 ·split at h
  ·exact .inr ⟨2, h.1⟩
  ·split at h
   ·exact .inr ⟨4, h.1⟩
   ·exact .inl h.1
theorem Reads.rest {w : World} {g off n cap : Nat} {b : ByteArray} {bs : List ByteArray} (h : Reads w (.slice (some ⟨g, off, none⟩) n cap) 1 (b :: bs).length ((b :: bs).map Value.string)) :
  Reads w (.slice (if cap = 1 then some ⟨g, off, none⟩ else some ⟨g, off + 1, none⟩) ((b :: bs).length - 1) (cap - 1)) 1 bs.length (bs.map Value.string) := by
 by_cases hc : cap = 1
 ·rw [if_pos hc]
  have hf := h.fits
  have h0 : bs = [] := List.eq_nil_of_length_eq_zero (by have := hf.2.1; simp at this; omega)
  subst h0
  subst hc
  exact ⟨rfl, fun g' hg' => h.2.1 g' (by simpa [Value.ownBlock] using hg'), _, _, rfl, ⟨Nat.le_refl _, Nat.zero_le _⟩, by simp⟩
 ·rw [if_neg hc]
  exact h.behind (k := 1) (by simp)
def quietLine (x : List UInt8) : Bool := decide (x.head? = none ∨ x.head? = some 35)
def lineAns2 (x : List UInt8) (lns : List Tm.Ln) (base bd bm : Nat) (line : Int) (w : World) (e : Ending) (w' : World) : Prop :=
 if quietLine x = true then e = .returned (.tuple #[]) ∧ w' = w else lineAns (Tm.parse x line) lns base bd bm line w e w'
theorem parse_other {n : Int} {k : List UInt8} {ws : List (List UInt8)} (h1 : k ≠ [99]) (h2 : k ≠ [100]) (h3 : k ≠ [119]) : Tm.parseWords n (k :: ws) = none := by
 rw [Tm.parse_nosign h3]
 have : Tm.fits k (ws.map Tm.num) 0 false = false := by
  unfold Tm.fits
  rw [if_neg h1, if_neg h2, if_neg h3]
 rw [this]; simp
theorem kind_yes {b : ByteArray} {c : UInt8} (h : (b.toList == [c]) = true) : b.data.toList = [c] := by
 rw [ByteArray.toList_eq] at h; simpa using h
theorem kind_no {b : ByteArray} {c : UInt8} (h : (b.toList == [c]) = false) : b.data.toList ≠ [c] := by
 rw [ByteArray.toList_eq] at h; simpa using h
set_option maxRecDepth 100000 in
set_option maxHeartbeats 2000000 in
theorem readLine_any (s : ByteArray) (col : Nat → Int) (base bd bm : Nat) (line : Int) (vp vw : Value) (lns : List Tm.Ln) (w : World) (hs : s.size ≤ 8192)
  (hrep : Rep w col base bd bm line vp vw lns) (hn : lns.length ≤ 8192) :
  Calls Tryz.prog 153 #[.pointer (some ⟨bd, 0, none⟩), .string s] w fun e w' => lineAns2 s.data.toList lns base bd bm line w e w' := by
 by_cases h0 : s.size = 0
 ·have he : s = ⟨#[]⟩ := by
   cases s with
   | mk a => congr 1; exact Array.eq_empty_of_size_eq_zero h0
  subst he
  clear hrep
  go_enter Tryz.func153, Tryz.ntmps153
  go_wp2
  go_end0
  exact ⟨rfl, rfl⟩
 have hpos : 0 < s.size := by omega
 have hh := head_of s hpos
 have hne : (s.toList == []) = false := by
  rw [ByteArray.toList_eq, beq_eq_false_iff_ne]
  intro e
  have := len_bytes s
  rw [e] at this
  simp at this; omega
 cases hx : ((s[0].toNat : Int) == 35)
 case true =>
  have HQ : Hid (quietLine s.data.toList = true) := by
   unfold Hid quietLine
   rw [hh, decide_eq_true_iff]
   right
   congr 1
   apply UInt8.toNat_inj.1
   have : (s[0].toNat : Int) = 35 := by simpa using hx
   have : s[0].toNat = 35 := by omega
   rw [this]; rfl
  clear hrep hh
  go_enter Tryz.func153, Tryz.ntmps153
  go_wp2
  go_end0
  unfold lineAns2
  rw [if_pos HQ.out]
  exact ⟨rfl, rfl⟩
 have HQ : Hid (quietLine s.data.toList = false) := by
  unfold Hid quietLine
  rw [hh, decide_eq_false_iff_not]
  rintro (h | h)
  ·cases h
  ·have e := Option.some.inj h
   rw [e] at hx
   exact absurd hx (by decide)
 have HREP := hide hrep
 clear hrep hh
 go_enter Tryz.func153, Tryz.ntmps153
 go_wp2_with fail
 refine (Split_one s 32 _ hs).mono ?_
 rintro e w1 ⟨v, bs, rfl, hrd, hsp, hbl, hb1⟩
 have hsz := word_sizes hsp (by omega)
 have hlen : bs.length ≤ 8193 := by
  have h1 := Tm.split_count 32 s.data.toList
  rw [← hsp, List.length_map, len_bytes] at h1
  omega
 have hne2 : bs ≠ [] := by
  intro e
  subst e
  exact Tm.split_ne 32 s.data.toList hsp.symm
 obtain ⟨b0, rest, rfl⟩ : ∃ b r, bs = b :: r := by
  cases bs with
  | nil => exact absurd rfl hne2
  | cons b r => exact ⟨b, r, rfl⟩
 have HP : Hid (Tm.parse s.data.toList line = Tm.parseWords line (b0.data.toList :: lets rest)) := by
  unfold Hid Tm.parse
  rw [← hsp]; rfl
 have HR1 : Hid (Rep w1 col base bd bm line vp vw lns) := HREP.out.below hb1
 have HB1 := hide hb1
 have HBW : Hid (base ≤ w.heap.size) := by have h1 := HREP.out.dr.from_; have h2 := HREP.out.dr.lt; unfold Hid; omega
 obtain ⟨g, off, cap, rfl, hg, hc⟩ := hrd.form (by simp)
 have c0 := hc 0 _ rfl
 rw [Nat.add_zero] at c0
 have hfit := hrd.fits
 have hc1 : 1 ≤ cap := by have := hfit.2.1; simp at this; omega
 have hc2 : cap ≤ 9223372036854775807 := by have := hfit.2.2; unfold maxLen at this; omega
 have hc3 : rest.length + 1 ≤ cap := by have := hfit.2.1; simpa using this
 have HRD := hide hrd.rest
 have HZR : Hid (∀ b ∈ rest, b.size ≤ 8192) := fun b hb => Nat.le_trans (hsz b (by simp [hb])) (by omega)
 have hrl : rest.length ≤ 8193 := by simp at hlen; omega
 clear hrd hsp hbl hsz hlen hne2 hc hfit hb1
 have HFIN : Hid (∀ (e : Ending) (w' : World), lineAns (Tm.parseWords line (b0.data.toList :: lets rest)) lns base bd bm line w1 e w' → lineAns2 s.data.toList lns base bd bm line w e w') := by
  intro e w' h
  unfold lineAns2
  rw [if_neg (by rw [HQ.out]; simp), HP.out]
  exact h.since HB1.out HBW.out
 cases k1 : (b0.toList == [99])
 case true =>
  have hk := kind_yes k1
  rw [hk] at HFIN
  go_wp2_with fail
  all_goals
   refine (readRank_any _ rest col base bd bm line vp vw lns _ (by have h := HRD.out; simpa [*] using h) HZR.out HR1.out hn).mono ?_
   rintro e w2 hans
   have HA := hide (HFIN.out _ _ hans)
   rcases lineAns_ends hans with rfl | ⟨q, ht⟩
   ·clear hans
    go_wp2
    go_end0
    exact HA.out
   ·obtain rfl : e = _ := ht
    clear hans
    go_wp2
    exact ⟨rfl, HA.out⟩
 cases k2 : (b0.toList == [100])
 case true =>
  have hk := kind_yes k2
  rw [hk] at HFIN
  go_wp2_with fail
  all_goals
   refine (readMakeup_any _ rest col base bd bm line vp vw lns _ (by have h := HRD.out; simpa [*] using h) hrl HZR.out HR1.out hn).mono ?_
   rintro e w2 hans
   have HA := hide (HFIN.out _ _ hans)
   rcases lineAns_ends hans with rfl | ⟨q, ht⟩
   ·clear hans
    go_wp2
    go_end0
    exact HA.out
   ·obtain rfl : e = _ := ht
    clear hans
    go_wp2
    exact ⟨rfl, HA.out⟩
 cases k3 : (b0.toList == [119])
 case true =>
  have hk := kind_yes k3
  rw [hk] at HFIN
  go_wp2_with fail
  all_goals
   refine (readWeighing_any _ rest col base bd bm line vp vw lns _ (by have h := HRD.out; simpa [*] using h) hrl HZR.out HR1.out hn).mono ?_
   rintro e w2 hans
   have HA := hide (HFIN.out _ _ hans)
   rcases lineAns_ends hans with rfl | ⟨q, ht⟩
   ·clear hans
    go_wp2
    go_end0
    exact HA.out
   ·obtain rfl : e = _ := ht
    clear hans
    go_wp2
    exact ⟨rfl, HA.out⟩
 have HN := hide (parse_other (n := line) (ws := lets rest) (kind_no k1) (kind_no k2) (kind_no k3))
 go_wp2
 exact ⟨rfl, HFIN.out _ _ (lineAns_none HN.out rfl (Below.refl _ _))⟩
theorem Rep.at_line {w : World} {col : Nat → Int} {base bd bm : Nat} {line : Int} {vp vw : Value} {lns : List Tm.Ln} (h : Rep w col base bd bm line vp vw lns) (n : Int) : Rep (w.setCell ⟨bd, 1, none⟩ (.int .i64 n)) col base bd bm n vp vw lns := by
 have k : Keeps w (w.setCell ⟨bd, 1, none⟩ (.int .i64 n)) col col (· ≠ -3) :=
  ⟨by simp [World.setCell], fun g hg hc => Below.heap_setCell _ _ _ _ (by simp only; intro e; subst e; exact hc h.dr.hue), fun _ _ => rfl⟩
 refine ⟨⟨h.dr.hue, h.dr.from_, by simpa [World.setCell] using h.dr.lt, ?_, ?_, ?_, ?_, fun q => ?_⟩, h.nd.keep k (by decide) (by decide) (fun r hr => by omega), h.pt.keep k (by decide), h.wt.keep k (by decide) (by decide), h.fit, h.low⟩
 ·rw [World.cell?_setCell_other _ _ _ _ (by simp)]; exact h.dr.c0
 ·exact World.cell?_setCell_same _ _ _ h.dr.c1
 ·rw [World.cell?_setCell_other _ _ _ _ (by simp)]; exact h.dr.c2
 ·rw [World.cell?_setCell_other _ _ _ _ (by simp)]; exact h.dr.c3
 ·rw [World.frozen?_setCell]; exact h.dr.free q
theorem lineAns2_cases {x : List UInt8} {lns : List Tm.Ln} {col : Nat → Int} {base bd bm : Nat} {line : Int} {vp vw : Value} {w : World} {e : Ending} {w' : World} (hrep : Rep w col base bd bm line vp vw lns) (h : lineAns2 x lns base bd bm line w e w') :
  (e = .returned (.tuple #[]) ∧ ∃ lns', (∀ r, Tm.readLines lns line (x :: r) = Tm.readLines lns' (line + 1) r) ∧ lns'.length ≤ lns.length + 1 ∧ Sole base bm w w' ∧ ∃ col vp vw, Rep w' col base bd bm line vp vw lns') ∨
  (∃ q, tells e q ∧ (∀ r, Tm.readLines lns line (x :: r) = (lns, some (line, q))) ∧ Below w.heap.size w w') := by
 unfold lineAns2 at h
 by_cases hq : quietLine x = true
 ·rw [if_pos hq] at h
  obtain ⟨rfl, rfl⟩ := h
  exact .inl ⟨rfl, lns, fun r => Tm.readLines_skip (by simpa [quietLine] using hq), by omega, Sole.refl _ _ _, _, _, _, hrep⟩
 ·rw [if_neg hq] at h
  have hq' : ¬ (x.head? = none ∨ x.head? = some 35) := by simpa [quietLine] using hq
  unfold lineAns at h
  cases hp : Tm.parse x line with
  | none =>
   rw [hp] at h
   exact .inr ⟨1, h.1, fun r => Tm.readLines_bad hq' hp, h.2⟩
  | some l =>
   rw [hp] at h
   simp only at h
   by_cases ht : Tm.twice lns l = true
   ·rw [if_pos ht] at h
    exact .inr ⟨2, h.1, fun r => Tm.readLines_twice hq' hp ht, h.2⟩
   ·rw [if_neg ht] at h
    have ht' : Tm.twice lns l = false := by simpa using ht
    by_cases hg : l.els.any Tm.lightEl = true
    ·rw [if_pos hg] at h
     exact .inr ⟨4, h.1, fun r => Tm.readLines_light hq' hp ht' hg, h.2⟩
    ·rw [if_neg hg] at h
     exact .inl ⟨h.1, lns ++ [l], fun r => Tm.readLines_ok hq' hp ht' (by simpa using hg), by simp, h.2.1, h.2.2⟩
def linesAns (r : List Tm.Ln × Option (Int × Int)) (base bd bm : Nat) (w : World) (e : Ending) (w' : World) : Prop := match r with
 | (lns, none) => e = .returned (.tuple #[]) ∧ Sole base bm w w' ∧ lns.length ≤ 8192 ∧ ∃ col line vp vw, Rep w' col base bd bm line vp vw lns
 | (_, some (n, q)) => tells e q ∧ Sole base bm w w' ∧ w'.cell? ⟨bd, 1, none⟩ = some (.int .i64 n)
theorem linesAns_ok {r : List Tm.Ln × Option (Int × Int)} {lns : List Tm.Ln} {base bd bm : Nat} {w : World} {e : Ending} {w' : World} (h : r = (lns, none)) (he : e = .returned (.tuple #[])) (hb : Sole base bm w w') (hl : lns.length ≤ 8192) (hr : ∃ col line vp vw, Rep w' col base bd bm line vp vw lns) : linesAns r base bd bm w e w' := by
 subst h; exact ⟨he, hb, hl, hr⟩
theorem linesAns_no {r : List Tm.Ln × Option (Int × Int)} {lns : List Tm.Ln} {n q : Int} {base bd bm : Nat} {w : World} {e : Ending} {w' : World} (h : r = (lns, some (n, q))) (he : tells e q) (hb : Sole base bm w w') (hc : w'.cell? ⟨bd, 1, none⟩ = some (.int .i64 n)) : linesAns r base bd bm w e w' := by
 subst h; exact ⟨he, hb, hc⟩
theorem bytes_empty {s : ByteArray} (h : s.size = 0) : s = ⟨#[]⟩ := by
 cases s with
 | mk a => congr 1; exact Array.eq_empty_of_size_eq_zero h
theorem some_of {s : ByteArray} (h : 0 < s.size) : (s.toList == []) = false := by
 rw [ByteArray.toList_eq, beq_eq_false_iff_ne]
 intro e
 have := len_bytes s
 rw [e] at this
 simp at this; omega
set_option maxRecDepth 100000 in
set_option maxHeartbeats 2000000 in
theorem readLines_any (s : ByteArray) (col : Nat → Int) (base bd bm : Nat) (vp vw : Value) (w : World) (hs : s.size ≤ 8192) (hrep : Rep w col base bd bm 0 vp vw []) :
  Calls Tryz.prog 120 #[.pointer (some ⟨bd, 0, none⟩), .string s] w fun e w' => linesAns (Tm.readLines [] 1 (Tm.split 10 s.data.toList)) base bd bm w e w' := by
 have HREP := hide hrep
 clear hrep
 go_enter Tryz.func120, Tryz.ntmps120
 go_wp2
 go_loopw [4] (fun v wr => ∃ (s' : ByteArray) (k : Nat) (lns : List Tm.Ln) (col : Nat → Int) (vp vw : Value), v = .string s' ∧ k + s'.size ≤ s.size ∧ lns.length ≤ k ∧ Tm.readLines [] 1 (Tm.split 10 s.data.toList) = Tm.readLines lns ((k : Int) + 1) (Tm.split 10 s'.data.toList) ∧ Rep wr col base bd bm (k : Int) vp vw lns ∧ Sole base bm w wr) (fun v _ => match v with | .string b => b.size | _ => 0)
 case atStart => exact ⟨s, 0, [], _, _, _, rfl, by omega, by simp, rfl, HREP.out, Sole.refl _ _ _⟩
 case round =>
  obtain ⟨s', k, lns, col', vp', vw', rfl, hk, hln, hread, hrep, hb⟩ := hrel
  have HRD := hide hread
  have HR := hide hrep
  have HB := hide hb
  clear hread hrep hb
  by_cases h0 : s'.size = 0
  ·obtain rfl := bytes_empty h0
   have HF : Hid (Tm.readLines [] 1 (Tm.split 10 s.data.toList) = (lns, none)) := by
    unfold Hid
    rw [HRD.out]
    rfl
   go_wp2
   go_end0
   exact linesAns_ok HF.out rfl HB.out (by omega) ⟨_, _, _, _, HR.out⟩
  have hne := some_of (s := s') (by omega)
  go_wp2_with fail
  refine (Cut_one s' 10 _ (by omega)).mono ?_
  rintro e w1 ⟨hans, nd, rfl⟩
  have d1 := HR.out.dr.c1
  have df := HR.out.dr.free 1
  have HBD : Hid (Below wr.heap.size wr (wr.drewN nd)) := ⟨rfl, rfl, rfl, Nat.le_refl _, fun _ _ => rfl⟩
  have HR1 := hide (HR.out.below HBD.out)
  have e1 := HR1.out.dr.c1
  have ef := HR1.out.dr.free 1
  have HB1 : Hid (Sole base bm w (wr.drewN nd)) := HB.out.then ⟨rfl, rfl, rfl, Nat.le_refl _, fun _ _ => rfl⟩
  generalize wr.drewN nd = w1 at *
  have hkk : (k : Int) + 1 ≤ 9223372036854775807 := by omega
  rcases hans with ⟨m, hm, rfl, hsp⟩ | ⟨rfl, hsp⟩
  ·have HSP := hide hsp
   have hx1 : (s'.extract 0 m).size ≤ 8192 := by rw [ByteArray.size_extract]; omega
   have hx2 : (s'.extract (m + 1) s'.size).size < s'.size := by rw [ByteArray.size_extract]; omega
   have HX2 := hide hx2
   generalize s'.extract 0 m = text at *
   generalize s'.extract (m + 1) s'.size = rest at *
   clear hsp hx2
   go_wp2_with fail
   have HR2 := hide (HR1.out.at_line ((k : Int) + 1))
   refine (readLine_any text _ base bd bm ((k : Int) + 1) _ _ lns _ hx1 HR2.out (by omega)).mono ?_
   rintro e w2 hans
   rcases lineAns2_cases HR2.out hans with ⟨rfl, lns', hstep, hl', hb2, col2, vp2, vw2, hrep2⟩ | ⟨q, ht, hstep, hb2⟩
   ·have HST := hide (hstep (Tm.split 10 rest.data.toList))
    have HB2 : Hid (Sole base bm w w2) := (HB1.out.setCell (p := ⟨bd, 1, none⟩) HR1.out.dr.from_ _).trans hb2
    have HR3 := hide hrep2
    clear hans hstep hb2 hrep2
    go_wp2
    go_roundw
    case rel => exact ⟨rest, k + 1, lns', col2, vp2, vw2, rfl, by have := HX2.out; omega, by omega, by rw [HRD.out, HSP.out, HST.out]; rfl, HR3.out, HB2.out⟩
    case measure => exact HX2.out
   ·obtain rfl : e = _ := ht
    have HST := hide (hstep (Tm.split 10 rest.data.toList))
    have HB2 : Hid (Sole base bm w w2) := (HB1.out.setCell (p := ⟨bd, 1, none⟩) HR1.out.dr.from_ _).then (hb2.mono (by have h1 := HR2.out.dr.lt; have h2 := HR2.out.dr.from_; omega))
    have HC : Hid (w2.cell? ⟨bd, 1, none⟩ = some (.int .i64 ((k : Int) + 1))) := by unfold Hid; rw [hb2.cell (p := ⟨bd, 1, none⟩) HR2.out.dr.lt]; exact HR2.out.dr.c1
    clear hans hstep hb2
    go_wp2
    exact ⟨rfl, linesAns_no (by rw [HRD.out, HSP.out]; exact HST.out) rfl HB2.out HC.out⟩
  ·have HSP := hide hsp
   clear hsp
   go_wp2_with fail
   have HR2 := hide (HR1.out.at_line ((k : Int) + 1))
   refine (readLine_any s' _ base bd bm ((k : Int) + 1) _ _ lns _ (by omega) HR2.out (by omega)).mono ?_
   rintro e w2 hans
   rcases lineAns2_cases HR2.out hans with ⟨rfl, lns', hstep, hl', hb2, col2, vp2, vw2, hrep2⟩ | ⟨q, ht, hstep, hb2⟩
   ·have HST := hide (hstep [])
    have HB2 : Hid (Sole base bm w w2) := (HB1.out.setCell (p := ⟨bd, 1, none⟩) HR1.out.dr.from_ _).trans hb2
    have HR3 := hide hrep2
    clear hans hstep hb2 hrep2
    go_wp2
    go_roundw
    case rel => exact ⟨⟨#[]⟩, k + 1, lns', col2, vp2, vw2, rfl, by show k + 1 + 0 ≤ s.size; omega, by omega, by rw [HRD.out, HSP.out, HST.out]; rfl, HR3.out, HB2.out⟩
    case measure => show 0 < s'.size; omega
   ·obtain rfl : e = _ := ht
    have HST := hide (hstep [])
    have HB2 : Hid (Sole base bm w w2) := (HB1.out.setCell (p := ⟨bd, 1, none⟩) HR1.out.dr.from_ _).then (hb2.mono (by have h1 := HR2.out.dr.lt; have h2 := HR2.out.dr.from_; omega))
    have HC : Hid (w2.cell? ⟨bd, 1, none⟩ = some (.int .i64 ((k : Int) + 1))) := by unfold Hid; rw [hb2.cell (p := ⟨bd, 1, none⟩) HR2.out.dr.lt]; exact HR2.out.dr.c1
    clear hans hstep hb2
    go_wp2
    exact ⟨rfl, linesAns_no (by rw [HRD.out, HSP.out]; exact HST.out) rfl HB2.out HC.out⟩
def checkAns (r : Option Tm.Ln) (q : Int) (lns : List Tm.Ln) (base bd bm : Nat) (w : World) (e : Ending) (w' : World) : Prop := match r with
 | none => e = .returned (.tuple #[]) ∧ Sole base bm w w' ∧ ∃ col line vp vw, Rep w' col base bd bm line vp vw lns
 | some o => tells e q ∧ Sole base bm w w' ∧ w'.cell? ⟨bd, 1, none⟩ = some (.int .i64 o.num)
theorem checkAns_ok {r : Option Tm.Ln} {q : Int} {lns : List Tm.Ln} {base bd bm : Nat} {w : World} {e : Ending} {w' : World} (h : r = none) (he : e = .returned (.tuple #[])) (hb : Sole base bm w w') (hr : ∃ col line vp vw, Rep w' col base bd bm line vp vw lns) : checkAns r q lns base bd bm w e w' := by
 subst h; exact ⟨he, hb, hr⟩
theorem checkAns_no {r : Option Tm.Ln} {o : Tm.Ln} {q : Int} {lns : List Tm.Ln} {base bd bm : Nat} {w : World} {e : Ending} {w' : World} (h : r = some o) (he : tells e q) (hb : Sole base bm w w') (hc : w'.cell? ⟨bd, 1, none⟩ = some (.int .i64 o.num)) : checkAns r q lns base bd bm w e w' := by
 subst h; exact ⟨he, hb, hc⟩
theorem find_more {l : List Tm.Ln} {p : Tm.Ln → Bool} {k : Nat} (h : (l.take k).find? p = none) (hk : k < l.length) (hx : p l[k] = false) : (l.take (k + 1)).find? p = none := by
 rw [List.take_succ_eq_append_getElem hk, List.find?_append, h]; simp [hx]
theorem find_here {l : List Tm.Ln} {p : Tm.Ln → Bool} {k : Nat} (h : (l.take k).find? p = none) (hk : k < l.length) (hx : p l[k] = true) : l.find? p = some l[k] := by
 have e : l.find? p = (l.take k ++ l.drop k).find? p := by rw [List.take_append_drop]
 rw [e, List.find?_append, h, List.drop_eq_getElem_cons hk, List.find?_cons, hx]; rfl
theorem parted_at {w : World} {col : Nat → Int} {base : Nat} {a : Option Addr} {m cap : Nat} {lns : List Tm.Ln} (h : Pt w col base (.slice a m cap) lns) {k : Nat} (hk : k < (Tm.dLines lns).length) :
  ∃ g off, a = some ⟨g, off, none⟩ ∧ g < w.heap.size ∧ w.cell? ⟨g, off + k * 2, none⟩ = some (.int .i64 (Tm.dLines lns)[k].num) ∧ w.cell? ⟨g, off + k * 2 + 1, none⟩ = some (.int .i64 ((Tm.dLines lns)[k].runes.getD 0 0)) := by
 have hlen : (partCells (Tm.dLines lns)).length = (Tm.dLines lns).length * 2 := h.1.1
 obtain ⟨g, off, cap', he, hg, hc⟩ := (Reads.of_owns h.1).form (by omega)
 cases he
 refine ⟨g, off, rfl, hg, ?_, ?_⟩
 ·exact hc (k * 2) _ (by have := partCells_get hk (f := 0) (by omega); simpa using this)
 ·exact hc (k * 2 + 1) _ (by have := partCells_get hk (f := 1) (by omega); simpa using this)
def loops (lns : List Tm.Ln) (o : Tm.Ln) : Bool := !Tm.ends lns 4 (o.runes.getD 0 0)
theorem loops_find (lns : List Tm.Ln) : (Tm.dLines lns).find? (loops lns) = lns.find? (Tm.badLoop lns) := by
 unfold Tm.dLines
 rw [List.find?_filter]
 congr 1
 funext o
 rw [Tm.badLoop_ends, loops]
 simp
set_option maxRecDepth 100000 in
set_option maxHeartbeats 2000000 in
theorem checkParts_any (lns : List Tm.Ln) (col : Nat → Int) (base bd bm : Nat) (line : Int) (vp vw : Value) (w : World) (hrep : Rep w col base bd bm line vp vw lns) (hn : lns.length ≤ 8192) :
  Calls Tryz.prog 121 #[.pointer (some ⟨bd, 0, none⟩)] w fun e w' => checkAns (lns.find? (Tm.badLoop lns)) 3 lns base bd bm w e w' := by
 obtain ⟨a, cap, rfl⟩ := (Reads.of_owns hrep.pt.1).shape
 have hdl := dLines_le lns
 have d2 := hrep.dr.c2
 have HREP := hide hrep
 clear hrep
 go_enter Tryz.func121, Tryz.ntmps121
 go_wp2
 go_loopw [9] (fun i wr => ∃ (k : Nat) (line' : Int), k ≤ (Tm.dLines lns).length ∧ i = .int .i64 k ∧ ((Tm.dLines lns).take k).find? (loops lns) = none ∧ Rep wr col base bd bm line' (.slice a (Tm.dLines lns).length cap) vw lns ∧ Sole base bm w wr) (fun i _ => (Tm.dLines lns).length - (intOf i).toNat)
 case atStart => exact ⟨0, line, Nat.zero_le _, rfl, by simp, HREP.out, Sole.refl _ _ _⟩
 case round =>
  obtain ⟨k, line', hk, rfl, hfind, hrep, hb⟩ := hrel
  have HR := hide hrep
  have HB := hide hb
  by_cases hlt : k < (Tm.dLines lns).length
  ·obtain ⟨g, off, rfl, hg, c0, c1⟩ := parted_at hrep.pt hlt
   have HMORE := hide (fun hx => find_more (p := loops lns) hfind hlt hx)
   have HHERE := hide (fun hx => find_here (p := loops lns) hfind hlt hx)
   have hmem : (Tm.dLines lns)[k] ∈ lns := (List.mem_filter.1 (List.getElem_mem hlt)).1
   have hfit := hrep.fit _ hmem
   have hrr : 0 ≤ (Tm.dLines lns)[k].runes.getD 0 0 ∧ (Tm.dLines lns)[k].runes.getD 0 0 ≤ 1114111 := by
    cases hr : (Tm.dLines lns)[k].runes with
    | nil => exact absurd hr hfit.some
    | cons x y => exact hfit.rune x (by rw [hr]; simp)
   have e1 := hrep.dr.c1
   have ef := hrep.dr.free
   have e0 := hrep.dr.c0
   have el := hrep.dr.lt
   have bn : ¬ bd = wr.heap.size := by omega
   have bn' : ¬ wr.heap.size = bd := by omega
   have gn : ¬ g = wr.heap.size := by omega
   have HW : Hid (∀ n t : Int, Rep ((wr.setCell ⟨bd, 1, none⟩ (.int .i64 n)).alloc (.cells #[.int .i64 n, .int .i64 t] 234)) col base bd bm n (.slice (some ⟨g, off, none⟩) (Tm.dLines lns).length cap) vw lns) := fun n t => (HR.out.at_line n).below ((Below.refl _ _).alloc (Nat.le_refl _) _)
   have HWB : Hid (∀ n t : Int, Sole base bm w ((wr.setCell ⟨bd, 1, none⟩ (.int .i64 n)).alloc (.cells #[.int .i64 n, .int .i64 t] 234))) := fun n t => (HB.out.setCell (p := ⟨bd, 1, none⟩) HR.out.dr.from_ _).alloc (by have := HR.out.dr.from_; simp [World.setCell]; omega) _
   have hlo : loops lns (Tm.dLines lns)[k] = !Tm.ends lns 4 ((Tm.dLines lns)[k].runes.getD 0 0) := rfl
   rw [hlo] at HMORE HHERE
   generalize hnum : (Tm.dLines lns)[k].num = num at *
   generalize (Tm.dLines lns)[k].runes.getD 0 0 = top at *
   have HNUM := hide hnum
   clear hfind hrep hb hmem hfit hlo hnum
   go_wp2_with fail
   have HRW := hide (HW.out num top)
   have HBW := hide (HWB.out num top)
   have y0 := HRW.out.dr.c0
   have y1 := HRW.out.dr.c1
   have x1 : ((wr.setCell ⟨bd, 1, none⟩ (.int .i64 num)).alloc (.cells #[.int .i64 num, .int .i64 top] 234)).cell? ⟨wr.heap.size, 1, none⟩ = some (.int .i64 top) := by
    rw [cell_new (by simp [World.setCell])]; rfl
   generalize ((wr.setCell ⟨bd, 1, none⟩ (.int .i64 num)).alloc (.cells #[.int .i64 num, .int .i64 top] 234)) = wx at *
   cases hends : Tm.ends lns 4 top
   ·have HN : Hid (lns.find? (Tm.badLoop lns) = some (Tm.dLines lns)[k]) := by unfold Hid; rw [← loops_find]; exact HHERE.out (by rw [hends]; rfl)
    clear HMORE HHERE
    go_region_dies
    all_goals go_wp2_with (go_at_call 155; refine (endsWithin_any lns HRW.out.fit bm 4 top _ (Nat.le_refl _) (HRW.out.nd.rd.below (Below.refl _ _).drew) hrr).mono ?_; rintro e w' ⟨rfl, rfl⟩)
    all_goals (refine wpAny_ready (rs := [7]) (by decide +kernel) (by simp) ?_; refine AllReady.cons rfl (fun K hK => ?_) ?_; go_simp; refine hK _ _ ?_; clear hK K; rotate_left; exact AllReady.nil)
    all_goals (refine wpAny_ready (rs := [8]) (by decide +kernel) (by simp) ?_; refine AllReady.cons rfl (fun K hK => ?_) ?_; go_simp; rotate_left; exact AllReady.nil)
    all_goals (go_at_call 154; refine (refuse_yes 3 _).mono ?_; rintro e w' ⟨rfl, rfl⟩; exact ⟨rfl, checkAns_no HN.out rfl HBW.out.drew (by rw [HNUM.out]; exact y1)⟩)
   ·have HS := hide (HMORE.out (by rw [hends]; rfl))
    clear HMORE HHERE
    go_quiet (first | (go_at_call 155; refine Calls.quiet_of_same ((endsWithin_any lns HRW.out.fit bm 4 top _ (Nat.le_refl _) (HRW.out.nd.rd.below ⟨rfl, rfl, rfl, Nat.le_refl _, fun _ _ => rfl⟩) hrr))) | (go_at_call 154; refine Calls.quiet_of_same (refuse_no 3 _)))
    go_wp2
    go_roundw
    case rel => exact ⟨k + 1, num, by omega, by go_num, HS.out, HRW.out.below ⟨rfl, rfl, rfl, Nat.le_refl _, fun _ _ => rfl⟩, HBW.out.then ⟨rfl, rfl, rfl, Nat.le_refl _, fun _ _ => rfl⟩⟩
    case measure => simp [intOf]; omega
  ·have HN : Hid (lns.find? (Tm.badLoop lns) = none) := by
    rw [List.take_of_length_le (by omega)] at hfind
    unfold Hid; rw [← loops_find]; exact hfind
   clear hfind hrep hb
   go_wp2
   go_end0
   exact checkAns_ok HN.out rfl HB.out ⟨_, _, _, _, HR.out⟩
def WsRd (w : World) (v : Value) (ls : List Tm.Ln) : Prop :=
 ∃ a cap, v = .slice a ls.length cap ∧ ∀ k (hk : k < ls.length), ∃ g off x1 x2, a = some ⟨g, off, none⟩ ∧ g < w.heap.size ∧ w.cell? ⟨g, off + k * 3, none⟩ = some (.int .i64 ls[k].num) ∧ w.cell? ⟨g, off + k * 3 + 1, none⟩ = some x1 ∧ w.cell? ⟨g, off + k * 3 + 2, none⟩ = some x2 ∧
  Reads w x1 1 ls[k].runes.length (ints ls[k].runes) ∧ Reads w x2 4 ls[k].els.length (elsCells ls[k].els)
theorem Wt.rd {w : World} {col : Nat → Int} {base : Nat} {v : Value} {lns : List Tm.Ln} (h : Wt w col base v lns) : WsRd w v (Tm.wLines lns) := by
 obtain ⟨xs, hl, hr, hok⟩ := h
 obtain ⟨a, cap, rfl⟩ := (Reads.of_owns hr.1).shape
 refine ⟨a, cap, rfl, fun k hk => ?_⟩
 have hk' : k < xs.length := by omega
 have hlen : (seqCells true xs (Tm.wLines lns)).length = (Tm.wLines lns).length * 3 := hr.1.1
 obtain ⟨g, off, cap', he, hg, hc⟩ := (Reads.of_owns hr.1).form (by omega)
 cases he
 refine ⟨g, off, xs[k].1, xs[k].2, rfl, hg, ?_, ?_, ?_, (hok k hk hk').1.1, (hok k hk hk').2.1⟩
 ·exact hc (k * 3) _ (by have := seqCells_get3 hl hk hk' (f := 0) (by omega); simpa using this)
 ·exact hc (k * 3 + 1) _ (by have := seqCells_get3 hl hk hk' (f := 1) (by omega); simpa using this)
 ·exact hc (k * 3 + 2) _ (by have := seqCells_get3 hl hk hk' (f := 2) (by omega); simpa using this)
set_option maxRecDepth 100000 in
set_option maxHeartbeats 2000000 in
theorem leastPrimary_any (lns : List Tm.Ln) (vw : Value) (bd : Nat) (w : World) (hc : w.cell? ⟨bd, 3, none⟩ = some vw) (hw : WsRd w vw (Tm.wLines lns)) (hf : ∀ o ∈ lns, Tm.Fit o) (hn : lns.length ≤ 8192) :
  Calls Tryz.prog 159 #[.pointer (some ⟨bd, 0, none⟩)] w fun e w' => e = .returned (.int .i64 (Tm.bound lns)) ∧ Below w.heap.size w w' := by
 obtain ⟨ls, hls⟩ : ∃ ls, Tm.wLines lns = ls := ⟨_, rfl⟩
 have HB0 : Hid (Tm.bound lns = Tm.leastLns ls 65536) := by unfold Hid Tm.bound; rw [hls]
 have hle := wLines_le lns
 have HWT : Hid (∀ o ∈ ls, ∀ e ∈ o.els, 0 ≤ e.p ∧ e.p ≤ 65535) := fun o ho e he => ((hf o (by rw [← hls] at ho; exact (List.mem_filter.1 ho).1)).weight e he).1
 have HFW : Hid (∀ o ∈ ls, o.els.length ≤ 4) := fun o ho => (hf o (by rw [← hls] at ho; exact (List.mem_filter.1 ho).1)).els
 rw [hls] at hw hle
 have HW := hide hw
 obtain ⟨a, cap, rfl, _⟩ := hw
 clear hls hf
 go_enter Tryz.func159, Tryz.ntmps159
 go_wp2
 go_loopw [3, 13] (fun m i wr => ∃ (k : Nat) (q : Int), k ≤ ls.length ∧ i = .int .i64 k ∧ m = .int .i64 q ∧ q = Tm.leastLns (ls.take k) 65536 ∧ (0 ≤ q ∧ q ≤ 65536) ∧ Below w.heap.size w wr) (fun _ i _ => ls.length - (intOf i).toNat)
 case atStart => exact ⟨0, 65536, Nat.zero_le _, rfl, rfl, rfl, by omega, Below.refl _ _⟩
 case round =>
  obtain ⟨k, q, hk, rfl, rfl, hq, hqr, hb⟩ := hrel
  have HB := hide hb
  have HQ := hide hq
  have hz := hb.size
  clear hq
  by_cases hlt : k < ls.length
  ·obtain ⟨a', cap', he, hcs⟩ := HW.out
   cases he
   obtain ⟨g, off, x1, x2, rfl, hg, c0, c1, c2, r1, r2⟩ := hcs k hlt
   have hcc : ∀ o, wr.cell? ⟨g, o, none⟩ = w.cell? ⟨g, o, none⟩ := fun o => hb.cell (p := ⟨g, o, none⟩) hg
   rw [← hcc] at c0 c1 c2
   obtain ⟨a1, cap1, rfl⟩ := r1.shape
   obtain ⟨a2, cap2, rfl⟩ := r2.shape
   have HST := hide (Tm.leastLns_snoc (m := 65536) hlt)
   have HEW := hide (HWT.out _ (List.getElem_mem hlt))
   have hel := HFW.out _ (List.getElem_mem hlt)
   have gn : ¬ g = wr.heap.size := by omega
   generalize ls[k].els = els at *
   generalize ls[k].num = num at *
   generalize ls[k].runes.length = rl at *
   have R2 := hide r2
   have HB1 : Hid (Below w.heap.size w (wr.alloc (.cells #[.int .i64 num, .slice a1 rl cap1, .slice a2 els.length cap2] 240))) := HB.out.alloc hz _
   clear hcs hb r1 r2 hcc
   go_wp2_with fail
   go_loopw [3, 21] (fun m i wi => ∃ (j : Nat) (p : Int), j ≤ els.length ∧ i = .int .i64 j ∧ m = .int .i64 p ∧ p = Tm.leastEls (els.take j) q ∧ (0 ≤ p ∧ p ≤ 65536) ∧ Below w.heap.size w wi) (fun _ i _ => els.length - (intOf i).toNat)
   case atStart => exact ⟨0, q, Nat.zero_le _, rfl, rfl, rfl, hqr, HB1.out⟩
   case round =>
    obtain ⟨j, p, hj, rfl, rfl, hp, hpr, hb2⟩ := hrel
    have HB2 := hide hb2
    have HP := hide hp
    have hz2 := hb2.size
    clear hp
    by_cases hjt : j < els.length
    ·obtain ⟨g2, off2, rfl, hg2, e0, e1, e2, e3⟩ := els_at R2.out hjt
     have hcc : ∀ o, wr.cell? ⟨g2, o, none⟩ = w.cell? ⟨g2, o, none⟩ := fun o => hb2.cell (p := ⟨g2, o, none⟩) hg2
     rw [← hcc] at e0 e1 e2 e3
     have HS2 := hide (Tm.leastEls_snoc (m := q) hjt)
     have hx := HEW.out _ (List.getElem_mem hjt)
     have g2n : ¬ g2 = wr.heap.size := by omega
     generalize els[j] = x at *
     clear hcc hb2
     have HB3 : Hid (Below w.heap.size w (wr.alloc (.cells #[.int .i64 x.p, .int .i64 x.s, .int .i64 x.t, .bool x.v] 102))) := HB2.out.alloc hz2 _
     cases hv : x.v
     ·cases hp0 : (x.p != 0)
      ·have HE : Hid (Tm.leastEl p x = p) := by unfold Hid Tm.leastEl; rw [hv, hp0]; rfl
       go_wp2
       go_roundw
       case rel => exact ⟨j + 1, p, by omega, by go_num, rfl, by rw [HS2.out, ← HP.out, HE.out], hpr, by rw [← hv]; exact HB3.out⟩
       case measure => simp [intOf]; omega
      ·have HE : Hid (Tm.leastEl p x = min p x.p) := by unfold Hid Tm.leastEl; rw [hv, hp0]; rfl
       go_wp2
       go_roundw
       case rel => exact ⟨j + 1, min p x.p, by omega, by go_num, by go_num, by rw [HS2.out, ← HP.out, HE.out], by omega, by rw [← hv]; exact HB3.out⟩
       case measure => simp [intOf]; omega
     ·have HE : Hid (Tm.leastEl p x = p) := by unfold Hid Tm.leastEl; rw [hv]; rfl
      go_wp2
      go_roundw
      case rel => exact ⟨j + 1, p, by omega, by go_num, rfl, by rw [HS2.out, ← HP.out, HE.out], hpr, by rw [← hv]; exact HB3.out⟩
      case measure => simp [intOf]; omega
    ·have HE : Hid (p = Tm.leastLns (ls.take (k + 1)) 65536) := by unfold Hid; rw [HST.out, ← HQ.out, HP.out, List.take_of_length_le (by omega)]
     clear hb2
     go_wp2
     go_roundw
     case rel => exact ⟨k + 1, p, by omega, by go_num, rfl, HE.out, hpr, HB2.out⟩
     case measure => simp [intOf]; omega
  ·have HF : Hid (Tm.bound lns = q) := by unfold Hid; rw [HB0.out, HQ.out, List.take_of_length_le (by omega)]
   clear hb
   go_wp2
   go_ret
   exact ⟨ret_int HF.out.symm, HB.out⟩
theorem weighed_at {w : World} {col : Nat → Int} {base : Nat} {a : Option Addr} {m cap : Nat} {lns : List Tm.Ln} (h : Wt w col base (.slice a m cap) lns) {k : Nat} (hk : k < (Tm.wLines lns).length) :
  ∃ g off x1 x2, a = some ⟨g, off, none⟩ ∧ g < w.heap.size ∧ w.cell? ⟨g, off + k * 3, none⟩ = some (.int .i64 (Tm.wLines lns)[k].num) ∧ w.cell? ⟨g, off + k * 3 + 1, none⟩ = some x1 ∧ w.cell? ⟨g, off + k * 3 + 2, none⟩ = some x2 ∧
   SeqOk w col (x1, x2) (Tm.wLines lns)[k] := by
 obtain ⟨xs, hl, hr, hok⟩ := h
 have hk' : k < xs.length := by omega
 have hlen : (seqCells true xs (Tm.wLines lns)).length = (Tm.wLines lns).length * 3 := hr.1.1
 obtain ⟨g, off, cap', he, hg, hc⟩ := (Reads.of_owns hr.1).form (by omega)
 cases he
 refine ⟨g, off, xs[k].1, xs[k].2, rfl, hg, ?_, ?_, ?_, hok k hk hk'⟩
 ·exact hc (k * 3) _ (by have := seqCells_get3 hl hk hk' (f := 0) (by omega); simpa using this)
 ·exact hc (k * 3 + 1) _ (by have := seqCells_get3 hl hk hk' (f := 1) (by omega); simpa using this)
 ·exact hc (k * 3 + 2) _ (by have := seqCells_get3 hl hk hk' (f := 2) (by omega); simpa using this)
theorem anyEl_step {els : List Tm.El} {p : Tm.El → Bool} {k : Nat} (h : (els.take k).any p = false) (hk : k < els.length) (hx : p els[k] = false) : (els.take (k + 1)).any p = false := by
 rw [List.take_succ_eq_append_getElem hk, List.any_append, h]
 simp [hx]
theorem anyEl_hit {els : List Tm.El} {p : Tm.El → Bool} {k : Nat} (hk : k < els.length) (hx : p els[k] = true) : els.any p = true :=
 List.any_eq_true.2 ⟨els[k], List.getElem_mem hk, hx⟩
set_option maxRecDepth 100000 in
set_option maxHeartbeats 4000000 in
theorem checkVariables_any (lns : List Tm.Ln) (col : Nat → Int) (base bd bm : Nat) (line : Int) (vp vw : Value) (w : World) (hrep : Rep w col base bd bm line vp vw lns) (hn : lns.length ≤ 8192) :
  Calls Tryz.prog 123 #[.pointer (some ⟨bd, 0, none⟩)] w fun e w' => checkAns (lns.find? (Tm.badWeight lns)) 4 lns base bd bm w e w' := by
 obtain ⟨wl, hwl⟩ : ∃ wl, (Tm.wLines lns).length = wl := ⟨_, rfl⟩
 obtain ⟨a, cap, rfl⟩ : ∃ a cap, vw = .slice a wl cap := by
  obtain ⟨xs, hl, hr, hok⟩ := hrep.wt
  rw [← hwl]; exact (Reads.of_owns hr.1).shape
 have hdl := wLines_le lns
 have HREP := hide hrep
 have HWL := hide hwl
 have HFIND := hide (Tm.high_find hrep.fit)
 rw [hwl] at hdl
 clear hrep hwl
 go_enter Tryz.func123, Tryz.ntmps123
 go_wp2_with fail
 refine (leastPrimary_any lns _ bd _ HREP.out.dr.c3 HREP.out.wt.rd HREP.out.fit hn).mono ?_
 rintro e w1 ⟨rfl, hb1⟩
 have HR1 := hide (HREP.out.below hb1)
 have HB1 : Hid (Sole base bm w w1) := Sole.of (hb1.mono (by have h1 := HREP.out.dr.from_; have h2 := HREP.out.dr.lt; omega))
 have d3 := HR1.out.dr.c3
 obtain ⟨b, hbnd⟩ : ∃ b, Tm.bound lns = b := ⟨_, rfl⟩
 rw [hbnd] at HFIND
 rw [hbnd]
 clear hb1 hbnd
 go_wp2_with fail
 go_loopw [14] (fun i wr => ∃ (k : Nat) (line' : Int), k ≤ wl ∧ i = .int .i64 k ∧ ((Tm.wLines lns).take k).find? (fun o => o.els.any (Tm.highEl b)) = none ∧ Rep wr col base bd bm line' vp (.slice a wl cap) lns ∧ Sole base bm w wr) (fun i _ => wl - (intOf i).toNat)
 case atStart => exact ⟨0, line, Nat.zero_le _, rfl, by simp, HR1.out, HB1.out⟩
 case round =>
  obtain ⟨k, line', hk, rfl, hfind, hrep, hb⟩ := hrel
  have HR := hide hrep
  have HB := hide hb
  by_cases hlt : k < wl
  ·have hlt' : k < (Tm.wLines lns).length := by rw [HWL.out]; exact hlt
   obtain ⟨g, off, x1, x2, rfl, hg, c0, c1, c2, hseq⟩ := weighed_at hrep.wt hlt'
   have HMORE := hide (fun hx => find_more (p := fun o => o.els.any (Tm.highEl b)) hfind hlt' hx)
   have HHERE := hide (fun hx => find_here (p := fun o => o.els.any (Tm.highEl b)) hfind hlt' hx)
   have hmem : (Tm.wLines lns)[k] ∈ lns := (List.mem_filter.1 (List.getElem_mem hlt')).1
   have hfit := hrep.fit _ hmem
   have e1 := hrep.dr.c1
   have ef := hrep.dr.free
   have el := hrep.dr.lt
   have bn : ¬ bd = wr.heap.size := by omega
   have bn' : ¬ wr.heap.size = bd := by omega
   have gn : ¬ g = wr.heap.size := by omega
   generalize hol : (Tm.wLines lns)[k] = o at *
   have r1 := hseq.1.1
   have r2 := hseq.2.1
   obtain ⟨a1, cap1, rfl⟩ := r1.shape
   obtain ⟨a2, cap2, rfl⟩ := r2.shape
   have HSQ := hide hseq
   have hel := hfit.els
   have HW : Hid (Rep ((wr.setCell ⟨bd, 1, none⟩ (.int .i64 o.num)).alloc (.cells #[.int .i64 o.num, .slice a1 o.runes.length cap1, .slice a2 o.els.length cap2] 240)) col base bd bm o.num vp (.slice (some ⟨g, off, none⟩) wl cap) lns) := (HR.out.at_line o.num).below ((Below.refl _ _).alloc (Nat.le_refl _) _)
   have HWB : Hid (Sole base bm w ((wr.setCell ⟨bd, 1, none⟩ (.int .i64 o.num)).alloc (.cells #[.int .i64 o.num, .slice a1 o.runes.length cap1, .slice a2 o.els.length cap2] 240))) := (HB.out.setCell (p := ⟨bd, 1, none⟩) HR.out.dr.from_ _).alloc (by have := HR.out.dr.from_; simp [World.setCell]; omega) _
   have HKX : Hid (Keeps wr ((wr.setCell ⟨bd, 1, none⟩ (.int .i64 o.num)).alloc (.cells #[.int .i64 o.num, .slice a1 o.runes.length cap1, .slice a2 o.els.length cap2] 240)) col col (· ≠ -3)) :=
    ⟨by simp [World.setCell], fun j hj hc => by rw [Below.heap_alloc _ _ _ (by simpa [World.setCell] using hj), Below.heap_setCell _ _ _ _ (by simp only; intro e; subst e; exact hc HR.out.dr.hue)], fun _ _ => rfl⟩
   have HRX := hide (HSQ.out.2.keep HKX.out (by decide)).1
   clear hfind hrep hb hmem hfit hol r1 r2 hseq
   go_wp2_with fail
   generalize ((wr.setCell ⟨bd, 1, none⟩ (.int .i64 o.num)).alloc (.cells #[.int .i64 o.num, .slice a1 o.runes.length cap1, .slice a2 o.els.length cap2] 240)) = wx at *
   go_loopw [27] (fun i wi => ∃ j : Nat, j ≤ o.els.length ∧ i = .int .i64 j ∧ (o.els.take j).any (Tm.highEl b) = false ∧ Below wx.heap.size wx wi) (fun i _ => o.els.length - (intOf i).toNat)
   case atStart => exact ⟨0, Nat.zero_le _, rfl, by simp, Below.refl _ _⟩
   case round =>
    obtain ⟨j, hj, rfl, hno, hb2⟩ := hrel
    have HB2 := hide hb2
    have hz2 := hb2.size
    have HRI := hide (HW.out.below hb2)
    have HBI : Hid (Sole base bm w wr) := HWB.out.then (hb2.mono (by have h1 := HW.out.dr.from_; have h2 := HW.out.dr.lt; omega))
    by_cases hjt : j < o.els.length
    ·obtain ⟨g2, off2, rfl, hg2, q0, q1, q2, q3⟩ := els_at HRX.out hjt
     have hcc : ∀ o, wr.cell? ⟨g2, o, none⟩ = wx.cell? ⟨g2, o, none⟩ := fun o => hb2.cell (p := ⟨g2, o, none⟩) hg2
     rw [← hcc] at q0 q1 q2 q3
     have HS2 := hide (fun hx => anyEl_step (p := Tm.highEl b) hno hjt hx)
     have HH2 := hide (fun hx => anyEl_hit (p := Tm.highEl b) hjt hx)
     have g2n : ¬ g2 = wr.heap.size := by omega
     generalize hxx : o.els[j] = x at *
     have HB3 : Hid (Below wx.heap.size wx (wr.alloc (.cells #[.int .i64 x.p, .int .i64 x.s, .int .i64 x.t, .bool x.v] 102))) := HB2.out.alloc hz2 _
     clear hcc hb2 hno hxx
     have hne : ∀ q : Bool, Tm.highEl b x = q → q = (x.v && decide (b ≤ x.p)) := fun q hq => hq.symm
     cases hv : x.v
     ·have HS3 := hide (HS2.out (by unfold Tm.highEl; rw [hv]; rfl))
      clear HS2 HH2 hne
      go_wp2_with fail
      refine (refuse_no 4 _).mono ?_
      rintro e w' ⟨rfl, rfl⟩
      go_wp2
      go_roundw
      case rel => exact ⟨j + 1, by omega, by go_num, HS3.out, by rw [← hv]; exact HB3.out⟩
      case measure => simp [intOf]; omega
     ·cases hge : decide (b ≤ x.p)
      ·have HS3 := hide (HS2.out (by unfold Tm.highEl; rw [hv, hge]; rfl))
       clear HS2 HH2 hne
       go_wp2_with fail
       refine (refuse_no 4 _).mono ?_
       rintro e w' ⟨rfl, rfl⟩
       go_wp2
       go_roundw
       case rel => exact ⟨j + 1, by omega, by go_num, HS3.out, by rw [← hv]; exact HB3.out⟩
       case measure => simp [intOf]; omega
      ·have HH3 := hide (HH2.out (by unfold Tm.highEl; rw [hv, hge]; rfl))
       have HN : Hid (lns.find? (Tm.badWeight lns) = some o) := by unfold Hid; rw [← HFIND.out]; exact HHERE.out HH3.out
       clear HS2 HH2 hne
       go_wp2_with fail
       refine (refuse_yes 4 _).mono ?_
       rintro e w' ⟨rfl, rfl⟩
       go_wp2
       exact ⟨rfl, checkAns_no HN.out rfl (by rw [← hv]; exact HWB.out.then (HB3.out.mono (by have h1 := HW.out.dr.from_; have h2 := HW.out.dr.lt; omega))) (by rw [← hv, HB3.out.cell (p := ⟨bd, 1, none⟩) HW.out.dr.lt]; exact HW.out.dr.c1)⟩
    ·have HS := hide (HMORE.out (by rw [List.take_of_length_le (by omega)] at hno; exact hno))
     clear hb2 hno
     go_wp2
     go_roundw
     case rel => exact ⟨k + 1, o.num, by omega, by go_num, HS.out, HRI.out, HBI.out⟩
     case measure => simp [intOf]; omega
  ·have HN : Hid (lns.find? (Tm.badWeight lns) = none) := by
    rw [List.take_of_length_le (by rw [HWL.out]; omega)] at hfind
    unfold Hid; rw [← HFIND.out]; exact hfind
   clear hfind hrep hb
   go_wp2
   go_end0
   exact checkAns_ok HN.out rfl HB.out ⟨_, _, _, _, HR.out⟩
set_option maxRecDepth 100000 in
set_option maxHeartbeats 1000000 in
theorem isParted_any (lns : List Tm.Ln) (bd bm : Nat) (r : Int) (w : World) (hc : w.cell? ⟨bd, 0, none⟩ = some (.map (some bm))) (hrd : NodesRd w bm lns) (hr : 0 ≤ r ∧ r ≤ 1114111) :
  Calls Tryz.prog 157 #[.pointer (some ⟨bd, 0, none⟩), .int .i64 r] w fun e w' => e = .returned (.bool (!decide ((Tm.parts lns r).length = 0))) ∧ Below w.heap.size w w' := by
 obtain ⟨f, vp, vs, hmap, hfv, hp, _⟩ := hrd.at hr.1
 have HMAP := hide hmap
 have HP := hide hp
 have hf1 := field_makeup
 clear hmap hp hrd
 go_enter Tryz.func157, Tryz.ntmps157
 go_wp2_with (at_lookup; go_must (refine wpList_look rfl _ _ rfl bm lns.length f rfl HMAP.out r rfl (wf_rune hr) _ hfv ?_))
 refine (hasParts_any _ _ _ _ HP.out).mono ?_
 rintro e w1 ⟨rfl, hb⟩
 have HB := hide hb
 clear hb
 go_wp2
 go_ret
 refine ⟨ret_bool ?_, HB.out⟩
 generalize (Tm.parts lns r).length = m
 cases m <;> simp
theorem anyInt_step {l : List Int} {p : Int → Bool} {k : Nat} (h : (l.take k).any p = false) (hk : k < l.length) (hx : p l[k] = false) : (l.take (k + 1)).any p = false := by
 rw [List.take_succ_eq_append_getElem hk, List.any_append, h]
 simp [hx]
theorem anyInt_hit {l : List Int} {p : Int → Bool} {k : Nat} (hk : k < l.length) (hx : p l[k] = true) : l.any p = true :=
 List.any_eq_true.2 ⟨l[k], List.getElem_mem hk, hx⟩
set_option maxRecDepth 100000 in
set_option maxHeartbeats 1000000 in
theorem IndexFunc_parted (lns : List Tm.Ln) (bd bm : Nat) (vr : Value) (rs : List Int) (w : World) (hbd : bd < w.heap.size) (hc : w.cell? ⟨bd, 0, none⟩ = some (.map (some bm))) (hrd : NodesRd w bm lns) (hr : Reads w vr 1 rs.length (ints rs)) (hrg : ∀ r ∈ rs, 0 ≤ r ∧ r ≤ 1114111) (hl : rs.length ≤ 1000000) :
  Calls Tryz.prog 181 #[vr, .func (.func 157) #[.pointer (some ⟨bd, 0, none⟩)] #[]] w fun e w' => foundAns (Tm.hasParts lns rs) e ∧ Below w.heap.size w w' := by
 obtain ⟨a, cap, rfl⟩ := hr.shape
 have HR := hide hr
 have HG := hide hrg
 have HRD := hide hrd
 have HH : Hid (Tm.hasParts lns rs = rs.any fun r => !decide ((Tm.parts lns r).length = 0)) := rfl
 clear hr hrg hrd
 go_enter Tryz.func181, Tryz.ntmps181
 go_wp2
 go_loopw [8] (fun i wr => ∃ k : Nat, k ≤ rs.length ∧ i = .int .i64 k ∧ ((rs.take k).any fun r => !decide ((Tm.parts lns r).length = 0)) = false ∧ Below w.heap.size w wr) (fun i _ => rs.length - (intOf i).toNat)
 case atStart => exact ⟨0, Nat.zero_le _, rfl, by simp, Below.refl _ _⟩
 case round =>
  obtain ⟨k, hk, rfl, hno, hb⟩ := hrel
  have hz := hb.size
  have HB := hide hb
  by_cases hlt : k < rs.length
  ·obtain ⟨g, off, rfl, hg, c0⟩ := HR.out.at hlt
   have hcc : ∀ o, wr.cell? ⟨g, o, none⟩ = w.cell? ⟨g, o, none⟩ := fun o => hb.cell (p := ⟨g, o, none⟩) hg
   rw [← hcc] at c0
   have hcw : wr.cell? ⟨bd, 0, none⟩ = some (.map (some bm)) := by rw [hb.cell (p := ⟨bd, 0, none⟩) hbd]; exact hc
   have HS := hide (fun hx => anyInt_step (p := fun r => !decide ((Tm.parts lns r).length = 0)) hno hlt hx)
   have HY := hide (fun hx => anyInt_hit (p := fun r => !decide ((Tm.parts lns r).length = 0)) hlt hx)
   have hrr := HG.out _ (List.getElem_mem hlt)
   generalize rs[k] = x at *
   clear hcc hb hno
   go_wp2_with fail
   refine (isParted_any lns bd bm x _ hcw (HRD.out.below HB.out) hrr).mono ?_
   rintro e w1 ⟨rfl, hb1⟩
   have HB1 : Hid (Below w.heap.size w w1) := HB.out.trans (hb1.mono hz)
   clear hb1
   generalize hq : (!decide ((Tm.parts lns x).length = 0)) = q at *
   cases q
   ·have HS' := hide (HS.out rfl)
    clear hq
    go_wp2
    go_roundw
    case rel => exact ⟨k + 1, by omega, by go_num, HS'.out, HB1.out⟩
    case measure => simp [intOf]; omega
   ·have HY' := hide (HY.out rfl)
    clear hq
    go_wp2
    go_ret
    exact ⟨⟨k, rfl, by rw [HH.out, HY'.out]; simp⟩, HB1.out⟩
  ·have HN : Hid (Tm.hasParts lns rs = false) := by
    rw [List.take_of_length_le (by omega)] at hno
    unfold Hid; rw [HH.out]; exact hno
   clear hno hb
   go_wp2
   go_ret
   exact ⟨⟨-1, rfl, by rw [HN.out]; rfl⟩, HB.out⟩
set_option maxRecDepth 100000 in
theorem ContainsFunc_parted (lns : List Tm.Ln) (bd bm : Nat) (vr : Value) (rs : List Int) (w : World) (hbd : bd < w.heap.size) (hc : w.cell? ⟨bd, 0, none⟩ = some (.map (some bm))) (hrd : NodesRd w bm lns) (hr : Reads w vr 1 rs.length (ints rs)) (hrg : ∀ r ∈ rs, 0 ≤ r ∧ r ≤ 1114111) (hl : rs.length ≤ 1000000) :
  Calls Tryz.prog 156 #[vr, .func (.func 157) #[.pointer (some ⟨bd, 0, none⟩)] #[]] w fun e w' => e = .returned (.bool (Tm.hasParts lns rs)) ∧ Below w.heap.size w w' := by
 go_enter Tryz.func156, Tryz.ntmps156
 go_wp2_with fail
 refine (IndexFunc_parted lns bd bm vr rs _ hbd hc hrd hr hrg hl).mono ?_
 rintro e w1 ⟨⟨i, rfl, hi⟩, hb⟩
 have HI := hide hi
 clear hi
 go_wp2
 go_ret
 exact ⟨ret_bool HI.out, hb⟩
def unled (lns : List Tm.Ln) (o : Tm.Ln) : Bool := Tm.hasParts lns o.runes || (decide (o.runes.length = 3) && (Tm.seqOf lns (o.runes.take 2)).isNone)
theorem unled_find (lns : List Tm.Ln) : (Tm.wLines lns).find? (unled lns) = lns.find? (Tm.badPrefix lns) := by
 unfold Tm.wLines
 rw [List.find?_filter]
 congr 1
 funext o
 rw [Tm.badPrefix, unled]
 generalize (Tm.hasParts lns o.runes || (decide (o.runes.length = 3) && (Tm.seqOf lns (o.runes.take 2)).isNone)) = q
 generalize decide (o.kind = [119]) = p
 cases p <;> cases q <;> rfl
set_option maxRecDepth 100000 in
set_option maxHeartbeats 4000000 in
theorem checkPrefixes_any (lns : List Tm.Ln) (col : Nat → Int) (base bd bm : Nat) (line : Int) (vp vw : Value) (w : World) (hrep : Rep w col base bd bm line vp vw lns) (hn : lns.length ≤ 8192) :
  Calls Tryz.prog 122 #[.pointer (some ⟨bd, 0, none⟩)] w fun e w' => checkAns (lns.find? (Tm.badPrefix lns)) 5 lns base bd bm w e w' := by
 obtain ⟨wl, hwl⟩ : ∃ wl, (Tm.wLines lns).length = wl := ⟨_, rfl⟩
 obtain ⟨a, cap, rfl⟩ : ∃ a cap, vw = .slice a wl cap := by
  obtain ⟨xs, hl, hr, hok⟩ := hrep.wt
  rw [← hwl]; exact (Reads.of_owns hr.1).shape
 have hdl := wLines_le lns
 have d3 := hrep.dr.c3
 have HREP := hide hrep
 have HWL := hide hwl
 rw [hwl] at hdl
 clear hrep hwl
 go_enter Tryz.func122, Tryz.ntmps122
 go_wp2
 go_loopw [9] (fun i wr => ∃ (k : Nat) (line' : Int), k ≤ wl ∧ i = .int .i64 k ∧ ((Tm.wLines lns).take k).find? (unled lns) = none ∧ Rep wr col base bd bm line' vp (.slice a wl cap) lns ∧ Sole base bm w wr) (fun i _ => wl - (intOf i).toNat)
 case atStart => exact ⟨0, line, Nat.zero_le _, rfl, by simp, HREP.out, Sole.refl _ _ _⟩
 case round =>
  obtain ⟨k, line', hk, rfl, hfind, hrep, hb⟩ := hrel
  have HR := hide hrep
  have HB := hide hb
  by_cases hlt : k < wl
  ·have hlt' : k < (Tm.wLines lns).length := by rw [HWL.out]; exact hlt
   obtain ⟨g, off, x1, x2, rfl, hg, c0, c1, c2, hseq⟩ := weighed_at hrep.wt hlt'
   have HMORE := hide (fun hx => find_more (p := unled lns) hfind hlt' hx)
   have HHERE := hide (fun hx => find_here (p := unled lns) hfind hlt' hx)
   have hmem : (Tm.wLines lns)[k] ∈ lns := (List.mem_filter.1 (List.getElem_mem hlt')).1
   have hfit := hrep.fit _ hmem
   have e1 := hrep.dr.c1
   have ef := hrep.dr.free
   have e0 := hrep.dr.c0
   have el := hrep.dr.lt
   have bn : ¬ bd = wr.heap.size := by omega
   have bn' : ¬ wr.heap.size = bd := by omega
   have gn : ¬ g = wr.heap.size := by omega
   generalize hol : (Tm.wLines lns)[k] = o at *
   have r1 := hseq.1.1
   have r2 := hseq.2.1
   obtain ⟨a1, cap1, rfl⟩ := r1.shape
   obtain ⟨a2, cap2, rfl⟩ := r2.shape
   obtain ⟨g1, off1, rfl, hg1, hcx⟩ := r1.at (k := 0) (List.length_pos_iff.2 hfit.some)
   have HSQ := hide hseq
   have HFIT := hide hfit
   have HW : Hid (Rep ((wr.setCell ⟨bd, 1, none⟩ (.int .i64 o.num)).alloc (.cells #[.int .i64 o.num, .slice (some ⟨g1, off1, none⟩) o.runes.length cap1, .slice a2 o.els.length cap2] 240)) col base bd bm o.num vp (.slice (some ⟨g, off, none⟩) wl cap) lns) := (HR.out.at_line o.num).below ((Below.refl _ _).alloc (Nat.le_refl _) _)
   have HWB : Hid (Sole base bm w ((wr.setCell ⟨bd, 1, none⟩ (.int .i64 o.num)).alloc (.cells #[.int .i64 o.num, .slice (some ⟨g1, off1, none⟩) o.runes.length cap1, .slice a2 o.els.length cap2] 240))) := (HB.out.setCell (p := ⟨bd, 1, none⟩) HR.out.dr.from_ _).alloc (by have := HR.out.dr.from_; simp [World.setCell]; omega) _
   clear hcx
   clear hfind hrep hb hmem hfit hol r1 r2 hseq
   have HKX : Hid (Keeps wr ((wr.setCell ⟨bd, 1, none⟩ (.int .i64 o.num)).alloc (.cells #[.int .i64 o.num, .slice (some ⟨g1, off1, none⟩) o.runes.length cap1, .slice a2 o.els.length cap2] 240)) col col (· ≠ -3)) :=
    ⟨by simp [World.setCell], fun j hj hc => by rw [Below.heap_alloc _ _ _ (by simpa [World.setCell] using hj), Below.heap_setCell _ _ _ _ (by simp only; intro e; subst e; exact hc HR.out.dr.hue)], fun _ _ => rfl⟩
   have HRX := hide (HSQ.out.1.keep HKX.out (by decide)).1
   have x1 : ((wr.setCell ⟨bd, 1, none⟩ (.int .i64 o.num)).alloc (.cells #[.int .i64 o.num, .slice (some ⟨g1, off1, none⟩) o.runes.length cap1, .slice a2 o.els.length cap2] 240)).cell? ⟨wr.heap.size, 1, none⟩ = some (.slice (some ⟨g1, off1, none⟩) o.runes.length cap1) := by rw [cell_new (by simp [World.setCell])]; rfl
   have hsx : wr.heap.size < ((wr.setCell ⟨bd, 1, none⟩ (.int .i64 o.num)).alloc (.cells #[.int .i64 o.num, .slice (some ⟨g1, off1, none⟩) o.runes.length cap1, .slice a2 o.els.length cap2] 240)).heap.size := by simp [World.setCell]
   go_wp2_with fail
   generalize ((wr.setCell ⟨bd, 1, none⟩ (.int .i64 o.num)).alloc (.cells #[.int .i64 o.num, .slice (some ⟨g1, off1, none⟩) o.runes.length cap1, .slice a2 o.els.length cap2] 240)) = wx at *
   have hfew := HFIT.out.few
   have HLX := hide HW.out.dr.lt
   refine (ContainsFunc_parted lns bd bm _ o.runes _ HW.out.dr.lt HW.out.dr.c0 HW.out.nd.rd HRX.out HFIT.out.rune (by omega)).mono ?_
   rintro e wy ⟨rfl, hby⟩
   have hsy := hby.size
   have HRY : Hid (Rep wy col base bd bm o.num vp (.slice (some ⟨g, off, none⟩) wl cap) lns) := HW.out.below hby
   have HBY : Hid (Sole base bm w wy) := HWB.out.then (hby.mono (by have h1 := HW.out.dr.from_; have h2 := HW.out.dr.lt; omega))
   have y1 : wy.cell? ⟨wr.heap.size, 1, none⟩ = some (.slice (some ⟨g1, off1, none⟩) o.runes.length cap1) := by rw [hby.cell (p := ⟨wr.heap.size, 1, none⟩) hsx]; exact x1
   have HRDY := hide (HRX.out.below hby HRX.out.2.1)
   have z0 := HRY.out.dr.c0
   have z1 := HRY.out.dr.c1
   clear hby
   cases hpp : Tm.hasParts lns o.runes
   case true =>
    have HN : Hid (lns.find? (Tm.badPrefix lns) = some o) := by unfold Hid; rw [← unled_find]; exact HHERE.out (by unfold unled; rw [hpp]; rfl)
    clear HMORE HHERE
    go_wp2_with fail
    refine (refuse_yes 5 _).mono ?_
    rintro e w' ⟨rfl, rfl⟩
    go_wp2
    exact ⟨rfl, checkAns_no HN.out rfl HBY.out z1⟩
   have HUN : Hid (unled lns o = (decide (o.runes.length = 3) && (Tm.seqOf lns (o.runes.take 2)).isNone)) := by unfold Hid unled; rw [hpp]; rfl
   go_wp2_with fail
   refine (refuse_no 5 _).mono ?_
   rintro e wy' ⟨rfl, rfl⟩
   go_wp2_with fail
   by_cases h3 : o.runes.length = 3
   ·have hd3 : ((o.runes.length : Int) == 3) = true := by rw [h3]; rfl
    have hfx := HRDY.out.fits
    have hc2 : 3 ≤ cap1 := by have := hfx.2.1; omega
    have hc3 : cap1 ≤ 9223372036854775807 := by have := hfx.2.2; unfold maxLen at this; omega
    have hc4 : (2 : Int) ≤ (cap1 : Int) := by omega
    have HTWO := hide (HRDY.out.two (k := 2) (by omega))
    have hcall : ∀ wz, Below wy'.heap.size wy' wz → Calls Tryz.prog 158 #[.map (some bm), .slice (some ⟨g1, off1, none⟩) 2 cap1] wz fun e w' => e = .returned (.bool (!(Tm.seqOf lns (o.runes.take 2)).isNone)) ∧ Below wz.heap.size wz w' := fun wz hz =>
     hasSequence_any lns bm _ (o.runes.take 2) wz (HRY.out.nd.rd.below hz) (HTWO.out.below hz HTWO.out.2.1) (by simp; omega) (fun r hr => HFIT.out.rune r (List.mem_of_mem_take hr)) (by simp; omega) hn HRY.out.fit
    obtain ⟨nn, hnn⟩ : ∃ nn, (Tm.seqOf lns (o.runes.take 2)).isNone = nn := ⟨_, rfl⟩
    rw [hnn] at hcall HUN
    have HCALL := hide hcall
    clear hcall hfx hnn
    cases nn
    ·have HS := hide (HMORE.out (by rw [HUN.out]; simp))
     clear HMORE HHERE
     go_region_with (first | (go_at_call 158; refine (HCALL.out _ (Below.refl _ _).drew).mono ?_; rintro e wz ⟨rfl, hbz⟩; have HBZ : Hid (Below wy'.heap.size wy' wz) := (Below.refl _ _).drew.trans hbz; clear hbz) | (go_at_call 154; refine (refuse_no 5 _).mono ?_; rintro e wq ⟨rfl, rfl⟩))
     all_goals go_wp2
     all_goals go_roundw
     all_goals first
      | exact ⟨k + 1, o.num, by omega, by go_num, HS.out, HRY.out.below HBZ.out, HBY.out.then (HBZ.out.mono (by have h1 := HRY.out.dr.from_; have h2 := HRY.out.dr.lt; omega))⟩
      | (simp [intOf]; omega)
    ·have HN : Hid (lns.find? (Tm.badPrefix lns) = some o) := by unfold Hid; rw [← unled_find]; exact HHERE.out (by rw [HUN.out]; simp [h3])
     clear HMORE HHERE
     go_region_dies
     all_goals go_wp2_with (go_at_call 158; refine (HCALL.out _ (Below.refl _ _).drew).mono ?_; rintro e wz ⟨rfl, hbz⟩; have HBZ : Hid (Below wy'.heap.size wy' wz) := (Below.refl _ _).drew.trans hbz; clear hbz)
     all_goals (refine wpAny_ready (rs := [15]) (by decide +kernel) (by simp) ?_; refine AllReady.cons rfl (fun K hK => ?_) ?_; go_simp; refine hK _ _ ?_; clear hK K; rotate_left; exact AllReady.nil)
     all_goals (refine wpAny_ready (rs := [16]) (by decide +kernel) (by simp) ?_; refine AllReady.cons rfl (fun K hK => ?_) ?_; go_simp; refine hK _ _ ?_; clear hK K; rotate_left; exact AllReady.nil)
     all_goals (refine wpAny_ready (rs := [17]) (by decide +kernel) (by simp) ?_; refine AllReady.cons rfl (fun K hK => ?_) ?_; go_simp; rotate_left; exact AllReady.nil)
     all_goals (go_at_call 154; refine (refuse_yes 5 _).mono ?_; rintro e w' ⟨rfl, rfl⟩; exact ⟨rfl, checkAns_no HN.out rfl (HBY.out.then (HBZ.out.mono (by have h1 := HRY.out.dr.from_; have h2 := HRY.out.dr.lt; omega))) (by rw [HBZ.out.cell (p := ⟨bd, 1, none⟩) HRY.out.dr.lt]; exact z1)⟩)
   ·have hd3 : ((o.runes.length : Int) == 3) = false := by rw [beq_eq_false_iff_ne]; omega
    have HS := hide (HMORE.out (by rw [HUN.out]; simp [h3]))
    clear HMORE HHERE
    go_quiet (first | (go_at_call 154; refine Calls.quiet_of_same (refuse_no 5 _)))
    go_wp2
    go_roundw
    case rel => exact ⟨k + 1, o.num, by omega, by go_num, HS.out, HRY.out.below ⟨rfl, rfl, rfl, Nat.le_refl _, fun _ _ => rfl⟩, HBY.out.then ⟨rfl, rfl, rfl, Nat.le_refl _, fun _ _ => rfl⟩⟩
    case measure => simp [intOf]; omega
  ·have HN : Hid (lns.find? (Tm.badPrefix lns) = none) := by
    rw [List.take_of_length_le (by rw [HWL.out]; omega)] at hfind
    unfold Hid; rw [← unled_find]; exact hfind
   clear hfind hrep hb
   go_wp2
   go_end0
   exact checkAns_ok HN.out rfl HB.out ⟨_, _, _, _, HR.out⟩
def tableErr (s : List UInt8) : Int × Int := match Tm.readLines [] 1 (Tm.split 10 s) with
 | (_, some (n, e)) => (n, e)
 | (lns, none) => Tm.together lns
theorem readLines_err : ∀ (xs : List (List UInt8)) (lns l : List Tm.Ln) (n m q : Int), Tm.readLines lns n xs = (l, some (m, q)) → q ≠ 0
 | [], lns, l, n, m, q, h => by simp [Tm.readLines] at h
 | x :: r, lns, l, n, m, q, h => by
  rw [Tm.readLines] at h
  split at h
  ·exact readLines_err r _ _ _ _ _ h
  ·split at h
   ·simp at h; omega
   ·split at h
    ·simp at h; omega
    ·split at h
     ·simp at h; omega
     ·exact readLines_err r _ _ _ _ _ h
def startWorld (w : World) (st : Int) (sh : Bool) : World := (((((((w.alloc (.cells #[.int .i64 st, .bool sh] 27)).alloc (.cells #[.pointer (some ⟨w.heap.size + 1 + 1 + 1 + 1 + 1, 0, none⟩)] 23)).alloc (.cells #[.int .i64 0] 3)).alloc (.cells #[.int .i64 0] 30)).alloc (.map #[] 0)).alloc (.cells #[.map (some (w.heap.size + 1 + 1 + 1 + 1)), .int .i64 st, .bool sh] 170)).alloc (.cells #[.map (some (w.heap.size + 1 + 1 + 1 + 1)), .int .i64 0, .slice none 0 0, .slice none 0 0] 202))
def startCol (bm bd : Nat) : Nat → Int := fun g => if g = bm then -2 else if g = bd then -3 else if g < bd then -9 else -1
structure Start (w : World) (st : Int) (sh : Bool) (W : World) : Prop where
 rep : Rep W (startCol (w.heap.size + 1 + 1 + 1 + 1) (w.heap.size + 1 + 1 + 1 + 1 + 1 + 1)) (w.heap.size + 1 + 1 + 1 + 1 + 1 + 1) (w.heap.size + 1 + 1 + 1 + 1 + 1 + 1) (w.heap.size + 1 + 1 + 1 + 1) 0 (.slice none 0 0) (.slice none 0 0) []
 below : Below w.heap.size w W
 k1 : W.cell? ⟨w.heap.size + 1, 0, none⟩ = some (.pointer (some ⟨w.heap.size + 1 + 1 + 1 + 1 + 1, 0, none⟩))
 k2 : W.cell? ⟨w.heap.size + 1 + 1, 0, none⟩ = some (.int .i64 0)
 k3 : W.cell? ⟨w.heap.size + 1 + 1 + 1, 0, none⟩ = some (.int .i64 0)
 f1 : W.frozen? ⟨w.heap.size + 1, 0, none⟩ = false
 f2 : W.frozen? ⟨w.heap.size + 1 + 1, 0, none⟩ = false
 f3 : W.frozen? ⟨w.heap.size + 1 + 1 + 1, 0, none⟩ = false
 m0 : W.cell? ⟨w.heap.size + 1 + 1 + 1 + 1 + 1, 0, none⟩ = some (.map (some (w.heap.size + 1 + 1 + 1 + 1)))
 m1 : W.cell? ⟨w.heap.size + 1 + 1 + 1 + 1 + 1, 1, none⟩ = some (.int .i64 st)
 m2 : W.cell? ⟨w.heap.size + 1 + 1 + 1 + 1 + 1, 2, none⟩ = some (.bool sh)
theorem startWorld_start (w : World) (st : Int) (sh : Bool) : Start w st sh (startWorld w st sh) := by
 unfold startWorld
 refine ⟨⟨⟨?_, by omega, by simp, ?_, ?_, ?_, ?_, fun o => ?_⟩, ⟨?_, Nat.zero_le _, fun _ => zeroNode, ?_, fun r _ => ⟨.slice none 0 0, .slice none 0 0, rfl, ⟨?_, fun g hg => by cases hg⟩, SeqRow.nil _ _ _ _ _ _⟩⟩, ⟨World.ownsRow_nil _ _ _ _, fun g hg => by cases hg⟩, SeqRow.nil _ _ _ _ _ _, (fun o ho => by cases ho), fun g hg => ?_⟩, ?_, ?_, ?_, ?_, ?_, ?_, ?_, ?_, ?_, ?_⟩
 ·unfold startCol; rw [if_neg (by omega), if_pos rfl]
 ·rw [cell_new (by simp)]; rfl
 ·rw [cell_new (by simp)]; rfl
 ·rw [cell_new (by simp)]; rfl
 ·rw [cell_new (by simp)]; rfl
 ·rw [frozen_new (by simp)]
 ·unfold startCol; rw [if_pos rfl]
 ·have hm := MapIs.made ((((w.alloc (.cells #[.int .i64 st, .bool sh] 27)).alloc (.cells #[.pointer (some ⟨w.heap.size + 1 + 1 + 1 + 1 + 1, 0, none⟩)] 23)).alloc (.cells #[.int .i64 0] 3)).alloc (.cells #[.int .i64 0] 30))
  have e : ((((w.alloc (.cells #[.int .i64 st, .bool sh] 27)).alloc (.cells #[.pointer (some ⟨w.heap.size + 1 + 1 + 1 + 1 + 1, 0, none⟩)] 23)).alloc (.cells #[.int .i64 0] 3)).alloc (.cells #[.int .i64 0] 30)).heap.size = w.heap.size + 1 + 1 + 1 + 1 := by simp
  rw [e] at hm
  refine MapIs.same hm ?_
  rw [Below.heap_alloc _ _ _ (by simp <;> omega), Below.heap_alloc _ _ _ (by simp)]
 ·exact ⟨rfl, (fun g hg => by cases hg), none, 0, rfl, ⟨Nat.le_refl _, Nat.zero_le _⟩, by simp [Tm.parts, ints]⟩
 ·unfold startCol
  (repeat' split) <;> omega
 ·exact (((((((Below.refl _ _).alloc (by simp) _).alloc (by simp <;> omega) _).alloc (by simp <;> omega) _).alloc (by simp <;> omega) _).alloc (by simp <;> omega) _).alloc (by simp <;> omega) _).alloc (by simp <;> omega) _
 ·rw [cell_old (by simp <;> omega), cell_old (by simp <;> omega), cell_old (by simp <;> omega), cell_old (by simp <;> omega), cell_old (by simp), cell_new (by simp)]; rfl
 ·rw [cell_old (by simp <;> omega), cell_old (by simp <;> omega), cell_old (by simp <;> omega), cell_old (by simp), cell_new (by simp)]; rfl
 ·rw [cell_old (by simp <;> omega), cell_old (by simp <;> omega), cell_old (by simp), cell_new (by simp)]; rfl
 ·rw [frozen_old (by simp <;> omega), frozen_old (by simp <;> omega), frozen_old (by simp <;> omega), frozen_old (by simp <;> omega), frozen_old (by simp), frozen_new (by simp)]
 ·rw [frozen_old (by simp <;> omega), frozen_old (by simp <;> omega), frozen_old (by simp <;> omega), frozen_old (by simp), frozen_new (by simp)]
 ·rw [frozen_old (by simp <;> omega), frozen_old (by simp <;> omega), frozen_old (by simp), frozen_new (by simp)]
 ·rw [cell_old (by simp), cell_new (by simp)]; rfl
 ·rw [cell_old (by simp), cell_new (by simp)]; rfl
 ·rw [cell_old (by simp), cell_new (by simp)]; rfl
structure Coll (w : World) (bc bm : Nat) (st : Int) (sh : Bool) (lns : List Tm.Ln) : Prop where
 lt : bc < w.heap.size
 c0 : w.cell? ⟨bc, 0, none⟩ = some (.map (some bm))
 c1 : w.cell? ⟨bc, 1, none⟩ = some (.int .i64 st)
 c2 : w.cell? ⟨bc, 2, none⟩ = some (.bool sh)
 rd : NodesRd w bm lns
 fit : ∀ o ∈ lns, Tm.Fit o
 few : lns.length ≤ 8192
theorem Coll.below {w w' : World} {bc bm : Nat} {st : Int} {sh : Bool} {lns : List Tm.Ln} (h : Coll w bc bm st sh lns) (hb : Below w.heap.size w w') : Coll w' bc bm st sh lns :=
 ⟨Nat.lt_of_lt_of_le h.lt hb.size, by rw [hb.cell (p := ⟨bc, 0, none⟩) h.lt]; exact h.c0, by rw [hb.cell (p := ⟨bc, 1, none⟩) h.lt]; exact h.c1, by rw [hb.cell (p := ⟨bc, 2, none⟩) h.lt]; exact h.c2, h.rd.below hb, h.fit, h.few⟩
def CollOwn (w : World) (B bc bm : Nat) (st : Int) (sh : Bool) (lns : List Tm.Ln) : Prop :=
 ∀ w', w.heap.size ≤ w'.heap.size → (∀ g, B ≤ g → g < w.heap.size → w'.heap[g]? = w.heap[g]?) → Coll w' bc bm st sh lns
theorem CollOwn.here {w : World} {B bc bm : Nat} {st : Int} {sh : Bool} {lns : List Tm.Ln} (h : CollOwn w B bc bm st sh lns) : Coll w bc bm st sh lns := h w (Nat.le_refl _) (fun _ _ _ => rfl)
theorem CollOwn.stays {w w' : World} {B B' bc bm : Nat} {st : Int} {sh : Bool} {lns : List Tm.Ln} (h : CollOwn w B bc bm st sh lns) (hB : B' ≤ B) (hs : w.heap.size ≤ w'.heap.size) (hk : ∀ g, B ≤ g → g < w.heap.size → w'.heap[g]? = w.heap[g]?) : CollOwn w' B' bc bm st sh lns :=
 fun w'' hs' hk' => h w'' (Nat.le_trans hs hs') (fun g hg hl => (hk' g (by omega) (by omega)).trans (hk g hg hl))
def BuiltAns (B : Nat) (s : ByteArray) (st : Int) (sh : Bool) (c : Option Addr) (w' : World) : Prop :=
 ((tableErr s.data.toList).2 ≠ 0 → c = none) ∧ ((tableErr s.data.toList).2 = 0 → ∃ bc bm lns, c = some ⟨bc, 0, none⟩ ∧ CollOwn w' B bc bm st sh lns ∧ Tm.readLines [] 1 (Tm.split 10 s.data.toList) = (lns, none))
theorem BuiltAns.no {B : Nat} {s : ByteArray} {st : Int} {sh : Bool} {w' : World} (h : (tableErr s.data.toList).2 ≠ 0) : BuiltAns B s st sh none w' := ⟨fun _ => rfl, fun h' => absurd h' h⟩
theorem door_cells {w w1 w'' : World} {n q : Int} {v1 v2 v3 : Value} (k1 : w1.cell? ⟨w.heap.size + 1, 0, none⟩ = some v1) (k2 : w1.cell? ⟨w.heap.size + 1 + 1, 0, none⟩ = some v2) (k3 : w1.cell? ⟨w.heap.size + 1 + 1 + 1, 0, none⟩ = some v3) (hb : Below w.heap.size w w1)
  (hw : w'' = (((w1.setCell ⟨w.heap.size + 1, 0, none⟩ (.pointer none)).setCell ⟨w.heap.size + 1 + 1, 0, none⟩ (.int .i64 n)).setCell ⟨w.heap.size + 1 + 1 + 1, 0, none⟩ (.int .i64 1)).setCell ⟨w.heap.size + 1 + 1 + 1, 0, none⟩ (.int .i64 q)) :
  w''.cell? ⟨w.heap.size + 1, 0, none⟩ = some (.pointer none) ∧ w''.cell? ⟨w.heap.size + 1 + 1, 0, none⟩ = some (.int .i64 n) ∧ w''.cell? ⟨w.heap.size + 1 + 1 + 1, 0, none⟩ = some (.int .i64 q) ∧ Below w.heap.size w w'' := by
 subst hw
 have e3 : ((w1.setCell ⟨w.heap.size + 1, 0, none⟩ (.pointer none)).setCell ⟨w.heap.size + 1 + 1, 0, none⟩ (.int .i64 n)).cell? ⟨w.heap.size + 1 + 1 + 1, 0, none⟩ = some v3 := by
  rw [World.cell?_setCell_other _ _ _ _ (by simp <;> omega), World.cell?_setCell_other _ _ _ _ (by simp <;> omega)]; exact k3
 refine ⟨?_, ?_, ?_, ?_⟩
 ·rw [World.cell?_setCell_other _ _ _ _ (by simp <;> omega), World.cell?_setCell_other _ _ _ _ (by simp <;> omega), World.cell?_setCell_other _ _ _ _ (by simp <;> omega)]
  exact World.cell?_setCell_same _ _ _ k1
 ·rw [World.cell?_setCell_other _ _ _ _ (by simp <;> omega), World.cell?_setCell_other _ _ _ _ (by simp <;> omega)]
  exact World.cell?_setCell_same _ _ _ ((World.cell?_setCell_other _ _ _ _ (by simp <;> omega)).trans k2)
 ·exact World.cell?_setCell_same _ _ _ (World.cell?_setCell_same _ _ _ e3)
 ·exact (((hb.setCell (p := ⟨w.heap.size + 1, 0, none⟩) (by simp only; omega) _).setCell (p := ⟨w.heap.size + 1 + 1, 0, none⟩) (by simp only; omega) _).setCell (p := ⟨w.heap.size + 1 + 1 + 1, 0, none⟩) (by simp only; omega) _).setCell (p := ⟨w.heap.size + 1 + 1 + 1, 0, none⟩) (by simp only; omega) _
theorem door_idle {w w1 w'' : World} {v1 v2 v3 x1 x2 x3 : Value} (k1 : w1.cell? ⟨w.heap.size + 1, 0, none⟩ = some v1) (k2 : w1.cell? ⟨w.heap.size + 1 + 1, 0, none⟩ = some v2) (k3 : w1.cell? ⟨w.heap.size + 1 + 1 + 1, 0, none⟩ = some v3) (hb : Below w.heap.size w w1)
  (hw : w'' = ((w1.setCell ⟨w.heap.size + 1, 0, none⟩ x1).setCell ⟨w.heap.size + 1 + 1, 0, none⟩ x2).setCell ⟨w.heap.size + 1 + 1 + 1, 0, none⟩ x3) :
  w''.cell? ⟨w.heap.size + 1, 0, none⟩ = some x1 ∧ w''.cell? ⟨w.heap.size + 1 + 1, 0, none⟩ = some x2 ∧ w''.cell? ⟨w.heap.size + 1 + 1 + 1, 0, none⟩ = some x3 ∧ Below w.heap.size w w'' := by
 subst hw
 refine ⟨?_, ?_, ?_, ?_⟩
 ·rw [World.cell?_setCell_other _ _ _ _ (by simp <;> omega), World.cell?_setCell_other _ _ _ _ (by simp <;> omega)]
  exact World.cell?_setCell_same _ _ _ k1
 ·rw [World.cell?_setCell_other _ _ _ _ (by simp <;> omega)]
  exact World.cell?_setCell_same _ _ _ ((World.cell?_setCell_other _ _ _ _ (by simp <;> omega)).trans k2)
 ·exact World.cell?_setCell_same _ _ _ ((World.cell?_setCell_other _ _ _ _ (by simp <;> omega)).trans ((World.cell?_setCell_other _ _ _ _ (by simp <;> omega)).trans k3))
 ·exact ((hb.setCell (p := ⟨w.heap.size + 1, 0, none⟩) (by simp only; omega) _).setCell (p := ⟨w.heap.size + 1 + 1, 0, none⟩) (by simp only; omega) _).setCell (p := ⟨w.heap.size + 1 + 1 + 1, 0, none⟩) (by simp only; omega) _
set_option maxRecDepth 100000 in
set_option maxHeartbeats 4000000 in
theorem build_any (s : ByteArray) (st : Int) (sh : Bool) (w : World) (hs : s.size ≤ 8192) :
  Calls Tryz.prog 77 #[.string s, .agg #[.int .i64 st, .bool sh]] w fun e w' => ∃ c, e = .returned (.tuple #[.pointer c, .int .i64 (tableErr s.data.toList).1, .int .i64 (tableErr s.data.toList).2]) ∧ BuiltAns w.heap.size s st sh c w' ∧ Below w.heap.size w w' := by
 have hmf : ∀ (fn : Fn) (first cap : Array Value) (w : World), (Instr.makeFunc fn first cap).run Tryz.prog w = .ok (.func fn first cap) w := fun _ _ _ _ => rfl
 have hmm := @run_makeMap Tryz.prog
 have HST := hide (startWorld_start w st sh)
 unfold startWorld at HST
 go_enter_defers Tryz.func77, Tryz.ntmps77
 go_wp2_with fail
 generalize (((((((w.alloc (.cells #[.int .i64 st, .bool sh] 27)).alloc (.cells #[.pointer (some ⟨w.heap.size + 1 + 1 + 1 + 1 + 1, 0, none⟩)] 23)).alloc (.cells #[.int .i64 0] 3)).alloc (.cells #[.int .i64 0] 30)).alloc (.map #[] 0)).alloc (.cells #[.map (some (w.heap.size + 1 + 1 + 1 + 1)), .int .i64 st, .bool sh] 170)).alloc (.cells #[.map (some (w.heap.size + 1 + 1 + 1 + 1)), .int .i64 0, .slice none 0 0, .slice none 0 0] 202)) = W at *
 have HTE : Hid (tableErr s.data.toList = match Tm.readLines [] 1 (Tm.split 10 s.data.toList) with
  | (_, some (n, e)) => (n, e)
  | (lns, none) => Tm.together lns) := rfl
 refine (readLines_any s _ _ _ _ _ _ _ hs HST.out.rep).mono ?_
 rintro e w1 hans
 rcases hrl : Tm.readLines [] 1 (Tm.split 10 s.data.toList) with ⟨lns, _ | ⟨n, q⟩⟩
 ·rw [hrl] at hans HTE
  obtain ⟨rfl, hb1, hn, col1, line1, vp1, vw1, hrep1⟩ := hans
  have HTE0 : Hid (tableErr s.data.toList = Tm.together lns) := HTE.out
  have HB1 := hide hb1
  have HR1 := hide hrep1
  have HRL := hide hrl
  clear hb1 hrep1 hrl HTE
  go_wp2_with fail
  refine (checkParts_any lns _ _ _ _ _ _ _ _ HR1.out hn).mono ?_
  rintro e w2 hans
  cases hf1 : lns.find? (Tm.badLoop lns) with
  | some o =>
   rw [hf1] at hans
   obtain ⟨ht, hb2, hc2⟩ := hans
   obtain rfl : e = _ := ht
   have HTE' : Hid (tableErr s.data.toList = (o.num, 3)) := by unfold Hid; rw [HTE0.out, Tm.together, hf1]
   have HB2 : Hid (Sole (w.heap.size + 1 + 1 + 1 + 1 + 1 + 1) (w.heap.size + 1 + 1 + 1 + 1) W w2) := HB1.out.trans hb2
   have HC := hide hc2
   clear hb2 hc2 hf1
   go_wp2
   refine leaves_cons (f := 119) (args := #[.pointer (some ⟨w.heap.size + 1 + 1 + 1 + 1 + 1 + 1, 0, none⟩), .pointer (some ⟨w.heap.size + 1, 0, none⟩), .pointer (some ⟨w.heap.size + 1 + 1, 0, none⟩), .pointer (some ⟨w.heap.size + 1 + 1 + 1, 0, none⟩)]) (by simp) (by simp [go_sem]) ?_
   refine (catch_panicking (w.heap.size + 1 + 1 + 1 + 1 + 1 + 1) (w.heap.size + 1) (w.heap.size + 1 + 1) (w.heap.size + 1 + 1 + 1) _ _ _ 3 o.num w2 (by omega) (by omega) (by omega) (by omega) (by rw [HB2.out.cell (p := ⟨w.heap.size + 1, 0, none⟩) (by simp only; omega) (by simp only; omega)]; exact HST.out.k1) (by rw [HB2.out.cell (p := ⟨w.heap.size + 1 + 1, 0, none⟩) (by simp only; omega) (by simp only; omega)]; exact HST.out.k2) (by rw [HB2.out.cell (p := ⟨w.heap.size + 1 + 1 + 1, 0, none⟩) (by simp only; omega) (by simp only; omega)]; exact HST.out.k3) (by rw [HB2.out.frozen (p := ⟨w.heap.size + 1, 0, none⟩) (by simp only; omega) (by simp only; omega)]; exact HST.out.f1) (by rw [HB2.out.frozen (p := ⟨w.heap.size + 1 + 1, 0, none⟩) (by simp only; omega) (by simp only; omega)]; exact HST.out.f2) (by rw [HB2.out.frozen (p := ⟨w.heap.size + 1 + 1 + 1, 0, none⟩) (by simp only; omega) (by simp only; omega)]; exact HST.out.f3) HC.out).mono ?_
   rintro x u' w'' ⟨rfl, rfl, hw⟩
   have HZ := hide (door_cells (w := w) (w1 := w2) (n := o.num) (q := 3) (by rw [HB2.out.cell (p := ⟨w.heap.size + 1, 0, none⟩) (by simp only; omega) (by simp only; omega)]; exact HST.out.k1) (by rw [HB2.out.cell (p := ⟨w.heap.size + 1 + 1, 0, none⟩) (by simp only; omega) (by simp only; omega)]; exact HST.out.k2) (by rw [HB2.out.cell (p := ⟨w.heap.size + 1 + 1 + 1, 0, none⟩) (by simp only; omega) (by simp only; omega)]; exact HST.out.k3) (HST.out.below.trans (HB2.out.below (by omega) (by omega))) hw)
   have z1 := HZ.out.1
   have z2 := HZ.out.2.1
   have z3 := HZ.out.2.2.1
   have HQ2 := hide HZ.out.2.2.2
   clear hw
   simp [Leaves, settle, results, Tryz.results77, go_sem, z1, z2, z3]
   exact ⟨none, ⟨rfl, by rw [HTE'.out], by rw [HTE'.out]⟩, BuiltAns.no (by rw [HTE'.out]; simp), HQ2.out⟩
  | none =>
  rw [hf1] at hans
  obtain ⟨rfl, hb2, col2, line2, vp2, vw2, hrep2⟩ := hans
  have HF1 := hide hf1
  have HB2 : Hid (Sole (w.heap.size + 1 + 1 + 1 + 1 + 1 + 1) (w.heap.size + 1 + 1 + 1 + 1) W w2) := HB1.out.trans hb2
  have HR2 := hide hrep2
  clear hb2 hrep2 hf1
  go_wp2_with fail
  refine (checkPrefixes_any lns _ _ _ _ _ _ _ _ HR2.out hn).mono ?_
  rintro e w3 hans
  cases hf2 : lns.find? (Tm.badPrefix lns) with
  | some o =>
   rw [hf2] at hans
   obtain ⟨ht, hb3, hc3⟩ := hans
   obtain rfl : e = _ := ht
   have HTE' : Hid (tableErr s.data.toList = (o.num, 5)) := by unfold Hid; rw [HTE0.out, Tm.together, HF1.out]; simp only; rw [hf2]
   have HB3 : Hid (Sole (w.heap.size + 1 + 1 + 1 + 1 + 1 + 1) (w.heap.size + 1 + 1 + 1 + 1) W w3) := HB2.out.trans hb3
   have HC := hide hc3
   clear hb3 hc3 hf2
   go_wp2
   refine leaves_cons (f := 119) (args := #[.pointer (some ⟨w.heap.size + 1 + 1 + 1 + 1 + 1 + 1, 0, none⟩), .pointer (some ⟨w.heap.size + 1, 0, none⟩), .pointer (some ⟨w.heap.size + 1 + 1, 0, none⟩), .pointer (some ⟨w.heap.size + 1 + 1 + 1, 0, none⟩)]) (by simp) (by simp [go_sem]) ?_
   refine (catch_panicking (w.heap.size + 1 + 1 + 1 + 1 + 1 + 1) (w.heap.size + 1) (w.heap.size + 1 + 1) (w.heap.size + 1 + 1 + 1) _ _ _ 5 o.num w3 (by omega) (by omega) (by omega) (by omega) (by rw [HB3.out.cell (p := ⟨w.heap.size + 1, 0, none⟩) (by simp only; omega) (by simp only; omega)]; exact HST.out.k1) (by rw [HB3.out.cell (p := ⟨w.heap.size + 1 + 1, 0, none⟩) (by simp only; omega) (by simp only; omega)]; exact HST.out.k2) (by rw [HB3.out.cell (p := ⟨w.heap.size + 1 + 1 + 1, 0, none⟩) (by simp only; omega) (by simp only; omega)]; exact HST.out.k3) (by rw [HB3.out.frozen (p := ⟨w.heap.size + 1, 0, none⟩) (by simp only; omega) (by simp only; omega)]; exact HST.out.f1) (by rw [HB3.out.frozen (p := ⟨w.heap.size + 1 + 1, 0, none⟩) (by simp only; omega) (by simp only; omega)]; exact HST.out.f2) (by rw [HB3.out.frozen (p := ⟨w.heap.size + 1 + 1 + 1, 0, none⟩) (by simp only; omega) (by simp only; omega)]; exact HST.out.f3) HC.out).mono ?_
   rintro x u' w'' ⟨rfl, rfl, hw⟩
   have HZ := hide (door_cells (w := w) (w1 := w3) (n := o.num) (q := 5) (by rw [HB3.out.cell (p := ⟨w.heap.size + 1, 0, none⟩) (by simp only; omega) (by simp only; omega)]; exact HST.out.k1) (by rw [HB3.out.cell (p := ⟨w.heap.size + 1 + 1, 0, none⟩) (by simp only; omega) (by simp only; omega)]; exact HST.out.k2) (by rw [HB3.out.cell (p := ⟨w.heap.size + 1 + 1 + 1, 0, none⟩) (by simp only; omega) (by simp only; omega)]; exact HST.out.k3) (HST.out.below.trans (HB3.out.below (by omega) (by omega))) hw)
   have z1 := HZ.out.1
   have z2 := HZ.out.2.1
   have z3 := HZ.out.2.2.1
   have HQ2 := hide HZ.out.2.2.2
   clear hw
   simp [Leaves, settle, results, Tryz.results77, go_sem, z1, z2, z3]
   exact ⟨none, ⟨rfl, by rw [HTE'.out], by rw [HTE'.out]⟩, BuiltAns.no (by rw [HTE'.out]; simp), HQ2.out⟩
  | none =>
  rw [hf2] at hans
  obtain ⟨rfl, hb3, col3, line3, vp3, vw3, hrep3⟩ := hans
  have HF2 := hide hf2
  have HB3 : Hid (Sole (w.heap.size + 1 + 1 + 1 + 1 + 1 + 1) (w.heap.size + 1 + 1 + 1 + 1) W w3) := HB2.out.trans hb3
  have HR3 := hide hrep3
  clear hb3 hrep3 hf2
  go_wp2_with fail
  refine (checkVariables_any lns _ _ _ _ _ _ _ _ HR3.out hn).mono ?_
  rintro e w4 hans
  cases hf3 : lns.find? (Tm.badWeight lns) with
  | some o =>
   rw [hf3] at hans
   obtain ⟨ht, hb4, hc4⟩ := hans
   obtain rfl : e = _ := ht
   have HTE' : Hid (tableErr s.data.toList = (o.num, 4)) := by unfold Hid; rw [HTE0.out, Tm.together, HF1.out]; simp only; rw [HF2.out]; simp only; rw [hf3]
   have HB4 : Hid (Sole (w.heap.size + 1 + 1 + 1 + 1 + 1 + 1) (w.heap.size + 1 + 1 + 1 + 1) W w4) := HB3.out.trans hb4
   have HC := hide hc4
   clear hb4 hc4 hf3
   go_wp2
   refine leaves_cons (f := 119) (args := #[.pointer (some ⟨w.heap.size + 1 + 1 + 1 + 1 + 1 + 1, 0, none⟩), .pointer (some ⟨w.heap.size + 1, 0, none⟩), .pointer (some ⟨w.heap.size + 1 + 1, 0, none⟩), .pointer (some ⟨w.heap.size + 1 + 1 + 1, 0, none⟩)]) (by simp) (by simp [go_sem]) ?_
   refine (catch_panicking (w.heap.size + 1 + 1 + 1 + 1 + 1 + 1) (w.heap.size + 1) (w.heap.size + 1 + 1) (w.heap.size + 1 + 1 + 1) _ _ _ 4 o.num w4 (by omega) (by omega) (by omega) (by omega) (by rw [HB4.out.cell (p := ⟨w.heap.size + 1, 0, none⟩) (by simp only; omega) (by simp only; omega)]; exact HST.out.k1) (by rw [HB4.out.cell (p := ⟨w.heap.size + 1 + 1, 0, none⟩) (by simp only; omega) (by simp only; omega)]; exact HST.out.k2) (by rw [HB4.out.cell (p := ⟨w.heap.size + 1 + 1 + 1, 0, none⟩) (by simp only; omega) (by simp only; omega)]; exact HST.out.k3) (by rw [HB4.out.frozen (p := ⟨w.heap.size + 1, 0, none⟩) (by simp only; omega) (by simp only; omega)]; exact HST.out.f1) (by rw [HB4.out.frozen (p := ⟨w.heap.size + 1 + 1, 0, none⟩) (by simp only; omega) (by simp only; omega)]; exact HST.out.f2) (by rw [HB4.out.frozen (p := ⟨w.heap.size + 1 + 1 + 1, 0, none⟩) (by simp only; omega) (by simp only; omega)]; exact HST.out.f3) HC.out).mono ?_
   rintro x u' w'' ⟨rfl, rfl, hw⟩
   have HZ := hide (door_cells (w := w) (w1 := w4) (n := o.num) (q := 4) (by rw [HB4.out.cell (p := ⟨w.heap.size + 1, 0, none⟩) (by simp only; omega) (by simp only; omega)]; exact HST.out.k1) (by rw [HB4.out.cell (p := ⟨w.heap.size + 1 + 1, 0, none⟩) (by simp only; omega) (by simp only; omega)]; exact HST.out.k2) (by rw [HB4.out.cell (p := ⟨w.heap.size + 1 + 1 + 1, 0, none⟩) (by simp only; omega) (by simp only; omega)]; exact HST.out.k3) (HST.out.below.trans (HB4.out.below (by omega) (by omega))) hw)
   have z1 := HZ.out.1
   have z2 := HZ.out.2.1
   have z3 := HZ.out.2.2.1
   have HQ2 := hide HZ.out.2.2.2
   clear hw
   simp [Leaves, settle, results, Tryz.results77, go_sem, z1, z2, z3]
   exact ⟨none, ⟨rfl, by rw [HTE'.out], by rw [HTE'.out]⟩, BuiltAns.no (by rw [HTE'.out]; simp), HQ2.out⟩
  | none =>
  rw [hf3] at hans
  obtain ⟨rfl, hb4, col4, line4, vp4, vw4, hrep4⟩ := hans
  have HTE' : Hid (tableErr s.data.toList = (0, 0)) := by unfold Hid; rw [HTE0.out, Tm.together, HF1.out]; simp only; rw [HF2.out]; simp only; rw [hf3]
  have HB4 : Hid (Sole (w.heap.size + 1 + 1 + 1 + 1 + 1 + 1) (w.heap.size + 1 + 1 + 1 + 1) W w4) := HB3.out.trans hb4
  have HR4 := hide hrep4
  clear hb4 hrep4 hf3
  have y1 : w4.cell? ⟨w.heap.size + 1, 0, none⟩ = some (.pointer (some ⟨w.heap.size + 1 + 1 + 1 + 1 + 1, 0, none⟩)) := (by rw [HB4.out.cell (p := ⟨w.heap.size + 1, 0, none⟩) (by simp only; omega) (by simp only; omega)]; exact HST.out.k1)
  have y2 : w4.cell? ⟨w.heap.size + 1 + 1, 0, none⟩ = some (.int .i64 0) := (by rw [HB4.out.cell (p := ⟨w.heap.size + 1 + 1, 0, none⟩) (by simp only; omega) (by simp only; omega)]; exact HST.out.k2)
  have y3 : w4.cell? ⟨w.heap.size + 1 + 1 + 1, 0, none⟩ = some (.int .i64 0) := (by rw [HB4.out.cell (p := ⟨w.heap.size + 1 + 1 + 1, 0, none⟩) (by simp only; omega) (by simp only; omega)]; exact HST.out.k3)
  have g1 : w4.frozen? ⟨w.heap.size + 1, 0, none⟩ = false := (by rw [HB4.out.frozen (p := ⟨w.heap.size + 1, 0, none⟩) (by simp only; omega) (by simp only; omega)]; exact HST.out.f1)
  have g2 : w4.frozen? ⟨w.heap.size + 1 + 1, 0, none⟩ = false := (by rw [HB4.out.frozen (p := ⟨w.heap.size + 1 + 1, 0, none⟩) (by simp only; omega) (by simp only; omega)]; exact HST.out.f2)
  have g3 : w4.frozen? ⟨w.heap.size + 1 + 1 + 1, 0, none⟩ = false := (by rw [HB4.out.frozen (p := ⟨w.heap.size + 1 + 1 + 1, 0, none⟩) (by simp only; omega) (by simp only; omega)]; exact HST.out.f3)
  go_wp2
  refine leaves_cons (f := 119) (args := #[.pointer (some ⟨w.heap.size + 1 + 1 + 1 + 1 + 1 + 1, 0, none⟩), .pointer (some ⟨w.heap.size + 1, 0, none⟩), .pointer (some ⟨w.heap.size + 1 + 1, 0, none⟩), .pointer (some ⟨w.heap.size + 1 + 1 + 1, 0, none⟩)]) (by simp) (by simp [go_sem]) ?_
  refine (catch_idle _ _ _ _ _).mono ?_
  rintro x u' w'' ⟨rfl, rfl, hw⟩
  have HZ := hide (door_idle (w := w) y1 y2 y3 (HST.out.below.trans (HB4.out.below (by omega) (by omega))) hw)
  have HCOLL : Hid (CollOwn w'' w.heap.size (w.heap.size + 1 + 1 + 1 + 1 + 1) (w.heap.size + 1 + 1 + 1 + 1) st sh lns) := by
   intro w3 hs3 hk3
   have e5 : ∀ o v, W.cell? ⟨w.heap.size + 1 + 1 + 1 + 1 + 1, o, none⟩ = some v → w''.cell? ⟨w.heap.size + 1 + 1 + 1 + 1 + 1, o, none⟩ = some v := fun o v hv => by
    rw [hw, World.cell?_setCell_other _ _ _ _ (by simp <;> omega), World.cell?_setCell_other _ _ _ _ (by simp <;> omega), World.cell?_setCell_other _ _ _ _ (by simp <;> omega), HB4.out.cell (p := ⟨w.heap.size + 1 + 1 + 1 + 1 + 1, o, none⟩) (by simp only; omega) (by simp only; omega)]; exact hv
   have hz : w''.heap.size = w4.heap.size := by rw [hw]; simp [World.setCell]
   have hk : ∀ g, w.heap.size + 1 + 1 + 1 + 1 ≤ g → w''.heap[g]? = w4.heap[g]? := fun g hg => by
    rw [hw, Below.heap_setCell _ _ _ _ (by simp only; omega), Below.heap_setCell _ _ _ _ (by simp only; omega), Below.heap_setCell _ _ _ _ (by simp only; omega)]
   have hlt := HR4.out.dr.lt
   have e6 : ∀ o v, W.cell? ⟨w.heap.size + 1 + 1 + 1 + 1 + 1, o, none⟩ = some v → w3.cell? ⟨w.heap.size + 1 + 1 + 1 + 1 + 1, o, none⟩ = some v := fun o v hv => by
    rw [World.cell?_of_block (a := ⟨w.heap.size + 1 + 1 + 1 + 1 + 1, o, none⟩) (hk3 (w.heap.size + 1 + 1 + 1 + 1 + 1) (by omega) (by omega))]; exact e5 o v hv
   exact ⟨by omega, e6 _ _ HST.out.m0, e6 _ _ HST.out.m1, e6 _ _ HST.out.m2, HR4.out.nd.rd_kept HR4.out.low (by omega) (fun g hg hl => (hk3 g (by omega) (by omega)).trans (hk g (by omega))) ((hk3 _ (by omega) (by omega)).trans (hk _ (Nat.le_refl _))), HR4.out.fit, hn⟩
  have z1 := HZ.out.1
  have z2 := HZ.out.2.1
  have z3 := HZ.out.2.2.1
  have HQ2 := hide HZ.out.2.2.2
  clear hw
  simp [Leaves, settle, results, Tryz.results77, go_sem, z1, z2, z3]
  exact ⟨_, ⟨rfl, by rw [HTE'.out], by rw [HTE'.out]⟩, ⟨fun h => absurd (by rw [HTE'.out]) h, fun _ => ⟨w.heap.size + 1 + 1 + 1 + 1 + 1, w.heap.size + 1 + 1 + 1 + 1, lns, rfl, HCOLL.out, HRL.out⟩⟩, HQ2.out⟩
 ·rw [hrl] at hans HTE
  obtain ⟨ht, hb1, hc1⟩ := hans
  obtain rfl : e = _ := ht
  have HTE' : Hid (tableErr s.data.toList = (n, q)) := HTE.out
  have HB1 := hide hb1
  have HC := hide hc1
  have HQ : Hid (q ≠ 0) := readLines_err _ _ _ _ _ _ hrl
  clear hb1 hc1 hrl
  go_wp2
  refine leaves_cons (f := 119) (args := #[.pointer (some ⟨w.heap.size + 1 + 1 + 1 + 1 + 1 + 1, 0, none⟩), .pointer (some ⟨w.heap.size + 1, 0, none⟩), .pointer (some ⟨w.heap.size + 1 + 1, 0, none⟩), .pointer (some ⟨w.heap.size + 1 + 1 + 1, 0, none⟩)]) (by simp) (by simp [go_sem]) ?_
  refine (catch_panicking (w.heap.size + 1 + 1 + 1 + 1 + 1 + 1) (w.heap.size + 1) (w.heap.size + 1 + 1) (w.heap.size + 1 + 1 + 1) _ _ _ q n w1 (by omega) (by omega) (by omega) (by omega) (by rw [HB1.out.cell (p := ⟨w.heap.size + 1, 0, none⟩) (by simp only; omega) (by simp only; omega)]; exact HST.out.k1) (by rw [HB1.out.cell (p := ⟨w.heap.size + 1 + 1, 0, none⟩) (by simp only; omega) (by simp only; omega)]; exact HST.out.k2) (by rw [HB1.out.cell (p := ⟨w.heap.size + 1 + 1 + 1, 0, none⟩) (by simp only; omega) (by simp only; omega)]; exact HST.out.k3) (by rw [HB1.out.frozen (p := ⟨w.heap.size + 1, 0, none⟩) (by simp only; omega) (by simp only; omega)]; exact HST.out.f1) (by rw [HB1.out.frozen (p := ⟨w.heap.size + 1 + 1, 0, none⟩) (by simp only; omega) (by simp only; omega)]; exact HST.out.f2) (by rw [HB1.out.frozen (p := ⟨w.heap.size + 1 + 1 + 1, 0, none⟩) (by simp only; omega) (by simp only; omega)]; exact HST.out.f3) HC.out).mono ?_
  rintro x u' w'' ⟨rfl, rfl, hw⟩
  have HZ := hide (door_cells (w := w) (w1 := w1) (n := n) (q := q) (by rw [HB1.out.cell (p := ⟨w.heap.size + 1, 0, none⟩) (by simp only; omega) (by simp only; omega)]; exact HST.out.k1) (by rw [HB1.out.cell (p := ⟨w.heap.size + 1 + 1, 0, none⟩) (by simp only; omega) (by simp only; omega)]; exact HST.out.k2) (by rw [HB1.out.cell (p := ⟨w.heap.size + 1 + 1 + 1, 0, none⟩) (by simp only; omega) (by simp only; omega)]; exact HST.out.k3) (HST.out.below.trans (HB1.out.below (by omega) (by omega))) hw)
  have z1 := HZ.out.1
  have z2 := HZ.out.2.1
  have z3 := HZ.out.2.2.1
  have HQ2 := hide HZ.out.2.2.2
  clear hw
  simp [Leaves, settle, results, Tryz.results77, go_sem, z1, z2, z3]
  exact ⟨none, ⟨rfl, by rw [HTE'.out], by rw [HTE'.out]⟩, BuiltAns.no (by rw [HTE'.out]; exact HQ.out), HQ2.out⟩
end Go.Proofs.YtmnjjjhmnhfapaaGreatDoor
