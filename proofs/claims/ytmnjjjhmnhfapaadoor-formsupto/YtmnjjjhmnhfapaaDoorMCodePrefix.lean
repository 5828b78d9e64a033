import Derived.Deep.RegionWith
import Derived.Test.YtmnjjjhmnhfapaaDoorMCodeWat
import Derived.Test.YtmnjjjhmnhfapaaDoorMSortMem
import Derived.Test.YtmnjjjhmnhfapaaDoorMRepW
namespace Go.Proofs.YtmnjjjhmnhfapaaDoor
open Go.RowKit

theorem anyEl_step {els : List Tm.El} {p : Tm.El → Bool} {k : Nat} (h : (els.take k).any p = false) (hk : k < els.length) (hx : p els[k] = false) : (els.take (k + 1)).any p = false := by
  rw [List.take_succ_eq_append_getElem hk, List.any_append, h]
  simp [hx]
theorem anyEl_hit {els : List Tm.El} {p : Tm.El → Bool} {k : Nat} (hk : k < els.length) (hx : p els[k] = true) : els.any p = true :=
  List.any_eq_true.2 ⟨els[k], List.getElem_mem hk, hx⟩

set_option maxRecDepth 100000 in
set_option maxHeartbeats 4000000 in
theorem checkVariables_any (lns : List Tm.Ln) (col : Nat → Int) (base bd bm : Nat) (line : Int) (vp vw : Value) (w : World) (hrep : Rep w col base bd bm line vp vw lns) (hn : lns.length ≤ 8192) :
    Calls Tryd.prog 71 #[.pointer (some ⟨bd, 0, none⟩)] w fun e w' => checkAns (lns.find? (Tm.badWeight lns)) 4 lns base bd bm w e w' := by
  obtain ⟨wl, hwl⟩ : ∃ wl, (Tm.wLines lns).length = wl := ⟨_, rfl⟩
  obtain ⟨a, cap, rfl⟩ : ∃ a cap, vw = .slice a wl cap := by
    obtain ⟨xs, hl, hr, hok⟩ := hrep.wt
    rw [← hwl]; exact (Reads.of_owns hr.1).shape
  have hdl := wLines_le lns
  have HREP := hide hrep
  have HWL := hide hwl
  have HFIND := hide (Tm.high_find hrep.fit)
  rw [hwl] at hdl
  clear hrep hwl
  go_enter Tryd.func71, Tryd.ntmps71
  go_wp2_with fail
  refine (leastPrimary_any lns _ bd _ HREP.out.dr.c3 HREP.out.wt.rd HREP.out.fit hn).mono ?_
  rintro e w1 ⟨rfl, hb1⟩
  have HR1 := hide (HREP.out.below hb1)
  have HB1 : Hid (Sole base bm w w1) := Sole.of (hb1.mono (by have h1 := HREP.out.dr.from_; have h2 := HREP.out.dr.lt; omega))
  have d3 := HR1.out.dr.c3
  obtain ⟨b, hbnd⟩ : ∃ b, Tm.bound lns = b := ⟨_, rfl⟩
  rw [hbnd] at HFIND
  rw [hbnd]
  clear hb1 hbnd
  go_wp2_with fail
  go_loopw [14] (fun i wr => ∃ (k : Nat) (line' : Int), k ≤ wl ∧ i = .int .i64 k ∧ ((Tm.wLines lns).take k).find? (fun o => o.els.any (Tm.highEl b)) = none ∧ Rep wr col base bd bm line' vp (.slice a wl cap) lns ∧ Sole base bm w wr) (fun i _ => wl - (intOf i).toNat)
  case atStart => exact ⟨0, line, Nat.zero_le _, rfl, by simp, HR1.out, HB1.out⟩
  case round =>
    obtain ⟨k, line', hk, rfl, hfind, hrep, hb⟩ := hrel
    have HR := hide hrep
    have HB := hide hb
    by_cases hlt : k < wl
    · have hlt' : k < (Tm.wLines lns).length := by rw [HWL.out]; exact hlt
      obtain ⟨g, off, x1, x2, rfl, hg, c0, c1, c2, hseq⟩ := weighed_at hrep.wt hlt'
      have HMORE := hide (fun hx => find_more (p := fun o => o.els.any (Tm.highEl b)) hfind hlt' hx)
      have HHERE := hide (fun hx => find_here (p := fun o => o.els.any (Tm.highEl b)) hfind hlt' hx)
      have hmem : (Tm.wLines lns)[k] ∈ lns := (List.mem_filter.1 (List.getElem_mem hlt')).1
      have hfit := hrep.fit _ hmem
      have e1 := hrep.dr.c1
      have ef := hrep.dr.free
      have el := hrep.dr.lt
      have bn : ¬ bd = wr.heap.size := by omega
      have bn' : ¬ wr.heap.size = bd := by omega
      have gn : ¬ g = wr.heap.size := by omega
      generalize hol : (Tm.wLines lns)[k] = o at *
      have r1 := hseq.1.1
      have r2 := hseq.2.1
      obtain ⟨a1, cap1, rfl⟩ := r1.shape
      obtain ⟨a2, cap2, rfl⟩ := r2.shape
      have HSQ := hide hseq
      have hel := hfit.els
      have HW : Hid (Rep ((wr.setCell ⟨bd, 1, none⟩ (.int .i64 o.num)).alloc (.cells #[.int .i64 o.num, .slice a1 o.runes.length cap1, .slice a2 o.els.length cap2] 155)) col base bd bm o.num vp (.slice (some ⟨g, off, none⟩) wl cap) lns) := (HR.out.at_line o.num).below ((Below.refl _ _).alloc (Nat.le_refl _) _)
      have HWB : Hid (Sole base bm w ((wr.setCell ⟨bd, 1, none⟩ (.int .i64 o.num)).alloc (.cells #[.int .i64 o.num, .slice a1 o.runes.length cap1, .slice a2 o.els.length cap2] 155))) := (HB.out.setCell (p := ⟨bd, 1, none⟩) HR.out.dr.from_ _).alloc (by have := HR.out.dr.from_; simp [World.setCell]; omega) _
      have HKX : Hid (Keeps wr ((wr.setCell ⟨bd, 1, none⟩ (.int .i64 o.num)).alloc (.cells #[.int .i64 o.num, .slice a1 o.runes.length cap1, .slice a2 o.els.length cap2] 155)) col col (· ≠ -3)) :=
        ⟨by simp [World.setCell], fun j hj hc => by rw [Below.heap_alloc _ _ _ (by simpa [World.setCell] using hj), Below.heap_setCell _ _ _ _ (by simp only; intro e; subst e; exact hc HR.out.dr.hue)], fun _ _ => rfl⟩
      have HRX := hide (HSQ.out.2.keep HKX.out (by decide)).1
      clear hfind hrep hb hmem hfit hol r1 r2 hseq
      go_wp2_with fail
      generalize ((wr.setCell ⟨bd, 1, none⟩ (.int .i64 o.num)).alloc (.cells #[.int .i64 o.num, .slice a1 o.runes.length cap1, .slice a2 o.els.length cap2] 155)) = wx at *
      go_loopw [27] (fun i wi => ∃ j : Nat, j ≤ o.els.length ∧ i = .int .i64 j ∧ (o.els.take j).any (Tm.highEl b) = false ∧ Below wx.heap.size wx wi) (fun i _ => o.els.length - (intOf i).toNat)
      case atStart => exact ⟨0, Nat.zero_le _, rfl, by simp, Below.refl _ _⟩
      case round =>
        obtain ⟨j, hj, rfl, hno, hb2⟩ := hrel
        have HB2 := hide hb2
        have hz2 := hb2.size
        have HRI := hide (HW.out.below hb2)
        have HBI : Hid (Sole base bm w wr) := HWB.out.then (hb2.mono (by have h1 := HW.out.dr.from_; have h2 := HW.out.dr.lt; omega))
        by_cases hjt : j < o.els.length
        · obtain ⟨g2, off2, rfl, hg2, q0, q1, q2, q3⟩ := els_at HRX.out hjt
          have hcc : ∀ o, wr.cell? ⟨g2, o, none⟩ = wx.cell? ⟨g2, o, none⟩ := fun o => hb2.cell (p := ⟨g2, o, none⟩) hg2
          rw [← hcc] at q0 q1 q2 q3
          have HS2 := hide (fun hx => anyEl_step (p := Tm.highEl b) hno hjt hx)
          have HH2 := hide (fun hx => anyEl_hit (p := Tm.highEl b) hjt hx)
          have g2n : ¬ g2 = wr.heap.size := by omega
          generalize hxx : o.els[j] = x at *
          have HB3 : Hid (Below wx.heap.size wx (wr.alloc (.cells #[.int .i64 x.p, .int .i64 x.s, .int .i64 x.t, .bool x.v] 64))) := HB2.out.alloc hz2 _
          clear hcc hb2 hno hxx
          have hne : ∀ q : Bool, Tm.highEl b x = q → q = (x.v && decide (b ≤ x.p)) := fun q hq => hq.symm
          cases hv : x.v
          · have HS3 := hide (HS2.out (by unfold Tm.highEl; rw [hv]; rfl))
            clear HS2 HH2 hne
            go_wp2_with fail
            refine (refuse_no 4 _).mono ?_
            rintro e w' ⟨rfl, rfl⟩
            go_wp2
            go_roundw
            case rel => exact ⟨j + 1, by omega, by go_num, HS3.out, by rw [← hv]; exact HB3.out⟩
            case measure => simp [intOf]; omega
          · cases hge : decide (b ≤ x.p)
            · have HS3 := hide (HS2.out (by unfold Tm.highEl; rw [hv, hge]; rfl))
              clear HS2 HH2 hne
              go_wp2_with fail
              refine (refuse_no 4 _).mono ?_
              rintro e w' ⟨rfl, rfl⟩
              go_wp2
              go_roundw
              case rel => exact ⟨j + 1, by omega, by go_num, HS3.out, by rw [← hv]; exact HB3.out⟩
              case measure => simp [intOf]; omega
            · have HH3 := hide (HH2.out (by unfold Tm.highEl; rw [hv, hge]; rfl))
              have HN : Hid (lns.find? (Tm.badWeight lns) = some o) := by unfold Hid; rw [← HFIND.out]; exact HHERE.out HH3.out
              clear HS2 HH2 hne
              go_wp2_with fail
              refine (refuse_yes 4 _).mono ?_
              rintro e w' ⟨rfl, rfl⟩
              go_wp2
              exact ⟨rfl, checkAns_no HN.out rfl (by rw [← hv]; exact HWB.out.then (HB3.out.mono (by have h1 := HW.out.dr.from_; have h2 := HW.out.dr.lt; omega))) (by rw [← hv, HB3.out.cell (p := ⟨bd, 1, none⟩) HW.out.dr.lt]; exact HW.out.dr.c1)⟩
        · have HS := hide (HMORE.out (by rw [List.take_of_length_le (by omega)] at hno; exact hno))
          clear hb2 hno
          go_wp2
          go_roundw
          case rel => exact ⟨k + 1, o.num, by omega, by go_num, HS.out, HRI.out, HBI.out⟩
          case measure => simp [intOf]; omega
    · have HN : Hid (lns.find? (Tm.badWeight lns) = none) := by
        rw [List.take_of_length_le (by rw [HWL.out]; omega)] at hfind
        unfold Hid; rw [← HFIND.out]; exact hfind
      clear hfind hrep hb
      go_wp2
      go_end0
      exact checkAns_ok HN.out rfl HB.out ⟨_, _, _, _, HR.out⟩
end Go.Proofs.YtmnjjjhmnhfapaaDoor
namespace Go.Proofs.YtmnjjjhmnhfapaaDoor
open Go.RowKit

theorem seqOf_some {lns : List Tm.Ln} {q : List Int} : ((Tm.seqsAt lns (q.getD 0 0)).any fun o => decide (o.runes = q)) = !(Tm.seqOf lns q).isNone := by
  unfold Tm.seqsAt Tm.seqOf
  rw [List.any_filter]
  have e : (fun o => Tm.isHead (q.getD 0 0) o && decide (o.runes = q)) = Tm.isSeq q := by
    funext o
    unfold Tm.isHead Tm.isSeq
    by_cases h : o.runes = q
    · subst h; simp
    · simp [h]
  rw [e]
  cases h : lns.find? (Tm.isSeq q) with
  | none =>
    have := List.find?_eq_none.1 h
    simp only [Option.map_none, Option.isNone_none, Bool.not_true]
    rw [List.any_eq_false]; exact this
  | some o =>
    simp only [Option.map_some, Option.isNone_some, Bool.not_false]
    exact List.any_eq_true.2 ⟨o, List.mem_of_find?_eq_some h, List.find?_some h⟩

set_option maxRecDepth 100000 in
set_option maxHeartbeats 1000000 in
theorem hasSequence_any (lns : List Tm.Ln) (bm : Nat) (vr : Value) (q : List Int) (w : World) (hrd : NodesRd w bm lns) (hr : Reads w vr 1 q.length (ints q)) (hq : 0 < q.length) (hrg : ∀ r ∈ q, 0 ≤ r ∧ r ≤ 1114111) (hl : q.length ≤ 3) (hn : lns.length ≤ 8192) (hf : ∀ o ∈ lns, Tm.Fit o) :
    Calls Tryd.prog 77 #[.map (some bm), vr] w fun e w' => e = .returned (.bool (!(Tm.seqOf lns q).isNone)) ∧ Below w.heap.size w w' := by
  obtain ⟨r, rs, rfl⟩ : ∃ r rs, q = r :: rs := by
    cases q with
    | nil => simp at hq
    | cons x y => exact ⟨x, y, rfl⟩
  have hr0 := hrg r (by simp)
  obtain ⟨f, vp, vs, hmap, hfv, _, hs⟩ := hrd.at hr0.1
  obtain ⟨a, cap, rfl⟩ := hr.shape
  obtain ⟨g, off, rfl, hg, c0⟩ := hr.at (k := 0) (by simp)
  rw [Nat.add_zero] at c0
  have HMAP := hide hmap
  have HR := hide hr
  have HSQ := hide hs
  have HE := hide (seqOf_some (lns := lns) (q := r :: rs))
  have hf1 := field_weighing
  have hle := seqsAt_le lns r
  have HFEW : Hid (∀ o ∈ Tm.seqsAt lns r, o.runes.length ≤ 1000000) := fun o ho => by have := (hf o (List.mem_filter.1 ho).1).few; omega
  have HELS := hide (seqs_els hf (r := r))
  clear hmap hr hs hrd hf
  have c0' : w.cell? ⟨g, off, none⟩ = some (.int .i64 r) := c0
  generalize hln : (r :: rs).length = ln at *
  have HLN := hide hln
  clear hln c0
  go_enter Tryd.func77, Tryd.ntmps77
  go_wp2_with (at_lookup; go_must (refine wpList_look rfl _ _ rfl bm lns.length f rfl HMAP.out r rfl (wf_rune hr0) _ hfv ?_))
  refine (has_any vs _ (Tm.seqsAt lns r) (r :: rs) _ HSQ.out (by rw [HLN.out]; exact HR.out) (by omega) HFEW.out (by rw [HLN.out]; omega) HELS.out).mono ?_
  rintro e w1 ⟨rfl, hb⟩
  have HB := hide hb
  clear hb
  go_wp2
  go_ret
  exact ⟨ret_bool HE.out, HB.out⟩
theorem Reads.two {w : World} {g off n cap : Nat} {l : List Int} (h : Reads w (.slice (some ⟨g, off, none⟩) n cap) 1 l.length (ints l)) {k : Nat} (hk : k ≤ l.length) :
    Reads w (.slice (some ⟨g, off, none⟩) k cap) 1 (l.take k).length (ints (l.take k)) := by
  obtain ⟨h1, hlt, a, cap', he, hcap, hc⟩ := h
  cases he
  have hlen : (l.take k).length = k := by simp; omega
  refine ⟨by rw [ints_length]; omega, fun g' hg' => hlt g' (by simpa [Value.ownBlock] using hg'), _, _, by rw [hlen], ⟨by omega, by omega⟩, fun j u hu => ?_⟩
  have hj : (ints l)[j]? = some u := by
    have : j < (l.take k).length := by
      by_cases e : j < (l.take k).length
      · exact e
      · rw [List.getElem?_eq_none (by rw [ints_length]; omega)] at hu; cases hu
    rw [← hu]
    simp only [ints, List.getElem?_map, List.getElem?_take]
    rw [if_pos (by omega)]
  obtain ⟨g', off', he, hcell⟩ := hc j u hj
  cases he
  exact ⟨g, off, rfl, hcell⟩

end Go.Proofs.YtmnjjjhmnhfapaaDoor
namespace Go.Proofs.YtmnjjjhmnhfapaaDoor
open Go.RowKit

set_option maxRecDepth 100000 in
set_option maxHeartbeats 1000000 in
theorem isParted_any (lns : List Tm.Ln) (bd bm : Nat) (r : Int) (w : World) (hc : w.cell? ⟨bd, 0, none⟩ = some (.map (some bm))) (hrd : NodesRd w bm lns) (hr : 0 ≤ r ∧ r ≤ 1114111) :
    Calls Tryd.prog 90 #[.pointer (some ⟨bd, 0, none⟩), .int .i64 r] w fun e w' => e = .returned (.bool (!decide ((Tm.parts lns r).length = 0))) ∧ Below w.heap.size w w' := by
  obtain ⟨f, vp, vs, hmap, hfv, hp, _⟩ := hrd.at hr.1
  have HMAP := hide hmap
  have HP := hide hp
  have hf1 := field_makeup
  clear hmap hp hrd
  go_enter Tryd.func90, Tryd.ntmps90
  go_wp2_with (at_lookup; go_must (refine wpList_look rfl _ _ rfl bm lns.length f rfl HMAP.out r rfl (wf_rune hr) _ hfv ?_))
  refine (hasParts_any _ _ _ _ HP.out).mono ?_
  rintro e w1 ⟨rfl, hb⟩
  have HB := hide hb
  clear hb
  go_wp2
  go_ret
  refine ⟨ret_bool ?_, HB.out⟩
  generalize (Tm.parts lns r).length = m
  cases m <;> simp

theorem anyInt_step {l : List Int} {p : Int → Bool} {k : Nat} (h : (l.take k).any p = false) (hk : k < l.length) (hx : p l[k] = false) : (l.take (k + 1)).any p = false := by
  rw [List.take_succ_eq_append_getElem hk, List.any_append, h]
  simp [hx]
theorem anyInt_hit {l : List Int} {p : Int → Bool} {k : Nat} (hk : k < l.length) (hx : p l[k] = true) : l.any p = true :=
  List.any_eq_true.2 ⟨l[k], List.getElem_mem hk, hx⟩

set_option maxRecDepth 100000 in
set_option maxHeartbeats 1000000 in
theorem IndexFunc_parted (lns : List Tm.Ln) (bd bm : Nat) (vr : Value) (rs : List Int) (w : World) (hbd : bd < w.heap.size) (hc : w.cell? ⟨bd, 0, none⟩ = some (.map (some bm))) (hrd : NodesRd w bm lns) (hr : Reads w vr 1 rs.length (ints rs)) (hrg : ∀ r ∈ rs, 0 ≤ r ∧ r ≤ 1114111) (hl : rs.length ≤ 1000000) :
    Calls Tryd.prog 100 #[vr, .func (.func 90) #[.pointer (some ⟨bd, 0, none⟩)] #[]] w fun e w' => foundAns (Tm.hasParts lns rs) e ∧ Below w.heap.size w w' := by
  obtain ⟨a, cap, rfl⟩ := hr.shape
  have HR := hide hr
  have HG := hide hrg
  have HRD := hide hrd
  have HH : Hid (Tm.hasParts lns rs = rs.any fun r => !decide ((Tm.parts lns r).length = 0)) := rfl
  clear hr hrg hrd
  go_enter Tryd.func100, Tryd.ntmps100
  go_wp2
  go_loopw [8] (fun i wr => ∃ k : Nat, k ≤ rs.length ∧ i = .int .i64 k ∧ ((rs.take k).any fun r => !decide ((Tm.parts lns r).length = 0)) = false ∧ Below w.heap.size w wr) (fun i _ => rs.length - (intOf i).toNat)
  case atStart => exact ⟨0, Nat.zero_le _, rfl, by simp, Below.refl _ _⟩
  case round =>
    obtain ⟨k, hk, rfl, hno, hb⟩ := hrel
    have hz := hb.size
    have HB := hide hb
    by_cases hlt : k < rs.length
    · obtain ⟨g, off, rfl, hg, c0⟩ := HR.out.at hlt
      have hcc : ∀ o, wr.cell? ⟨g, o, none⟩ = w.cell? ⟨g, o, none⟩ := fun o => hb.cell (p := ⟨g, o, none⟩) hg
      rw [← hcc] at c0
      have hcw : wr.cell? ⟨bd, 0, none⟩ = some (.map (some bm)) := by rw [hb.cell (p := ⟨bd, 0, none⟩) hbd]; exact hc
      have HS := hide (fun hx => anyInt_step (p := fun r => !decide ((Tm.parts lns r).length = 0)) hno hlt hx)
      have HY := hide (fun hx => anyInt_hit (p := fun r => !decide ((Tm.parts lns r).length = 0)) hlt hx)
      have hrr := HG.out _ (List.getElem_mem hlt)
      generalize rs[k] = x at *
      clear hcc hb hno
      go_wp2_with fail
      refine (isParted_any lns bd bm x _ hcw (HRD.out.below HB.out) hrr).mono ?_
      rintro e w1 ⟨rfl, hb1⟩
      have HB1 : Hid (Below w.heap.size w w1) := HB.out.trans (hb1.mono hz)
      clear hb1
      generalize hq : (!decide ((Tm.parts lns x).length = 0)) = q at *
      cases q
      · have HS' := hide (HS.out rfl)
        clear hq
        go_wp2
        go_roundw
        case rel => exact ⟨k + 1, by omega, by go_num, HS'.out, HB1.out⟩
        case measure => simp [intOf]; omega
      · have HY' := hide (HY.out rfl)
        clear hq
        go_wp2
        go_ret
        exact ⟨⟨k, rfl, by rw [HH.out, HY'.out]; simp⟩, HB1.out⟩
    · have HN : Hid (Tm.hasParts lns rs = false) := by
        rw [List.take_of_length_le (by omega)] at hno
        unfold Hid; rw [HH.out]; exact hno
      clear hno hb
      go_wp2
      go_ret
      exact ⟨⟨-1, rfl, by rw [HN.out]; rfl⟩, HB.out⟩
set_option maxRecDepth 100000 in
theorem ContainsFunc_parted (lns : List Tm.Ln) (bd bm : Nat) (vr : Value) (rs : List Int) (w : World) (hbd : bd < w.heap.size) (hc : w.cell? ⟨bd, 0, none⟩ = some (.map (some bm))) (hrd : NodesRd w bm lns) (hr : Reads w vr 1 rs.length (ints rs)) (hrg : ∀ r ∈ rs, 0 ≤ r ∧ r ≤ 1114111) (hl : rs.length ≤ 1000000) :
    Calls Tryd.prog 89 #[vr, .func (.func 90) #[.pointer (some ⟨bd, 0, none⟩)] #[]] w fun e w' => e = .returned (.bool (Tm.hasParts lns rs)) ∧ Below w.heap.size w w' := by
  go_enter Tryd.func89, Tryd.ntmps89
  go_wp2_with fail
  refine (IndexFunc_parted lns bd bm vr rs _ hbd hc hrd hr hrg hl).mono ?_
  rintro e w1 ⟨⟨i, rfl, hi⟩, hb⟩
  have HI := hide hi
  clear hi
  go_wp2
  go_ret
  exact ⟨ret_bool HI.out, hb⟩

/-- Is a line w one whose runes cannot be? -/
def unled (lns : List Tm.Ln) (o : Tm.Ln) : Bool := Tm.hasParts lns o.runes || (decide (o.runes.length = 3) && (Tm.seqOf lns (o.runes.take 2)).isNone)
theorem unled_find (lns : List Tm.Ln) : (Tm.wLines lns).find? (unled lns) = lns.find? (Tm.badPrefix lns) := by
  unfold Tm.wLines
  rw [List.find?_filter]
  congr 1
  funext o
  rw [Tm.badPrefix, unled]
  generalize (Tm.hasParts lns o.runes || (decide (o.runes.length = 3) && (Tm.seqOf lns (o.runes.take 2)).isNone)) = q
  generalize decide (o.kind = [119]) = p
  cases p <;> cases q <;> rfl
set_option maxRecDepth 100000 in
set_option maxHeartbeats 4000000 in
theorem checkPrefixes_any (lns : List Tm.Ln) (col : Nat → Int) (base bd bm : Nat) (line : Int) (vp vw : Value) (w : World) (hrep : Rep w col base bd bm line vp vw lns) (hn : lns.length ≤ 8192) :
    Calls Tryd.prog 70 #[.pointer (some ⟨bd, 0, none⟩)] w fun e w' => checkAns (lns.find? (Tm.badPrefix lns)) 5 lns base bd bm w e w' := by
  obtain ⟨wl, hwl⟩ : ∃ wl, (Tm.wLines lns).length = wl := ⟨_, rfl⟩
  obtain ⟨a, cap, rfl⟩ : ∃ a cap, vw = .slice a wl cap := by
    obtain ⟨xs, hl, hr, hok⟩ := hrep.wt
    rw [← hwl]; exact (Reads.of_owns hr.1).shape
  have hdl := wLines_le lns
  have d3 := hrep.dr.c3
  have HREP := hide hrep
  have HWL := hide hwl
  rw [hwl] at hdl
  clear hrep hwl
  go_enter Tryd.func70, Tryd.ntmps70
  go_wp2
  go_loopw [9] (fun i wr => ∃ (k : Nat) (line' : Int), k ≤ wl ∧ i = .int .i64 k ∧ ((Tm.wLines lns).take k).find? (unled lns) = none ∧ Rep wr col base bd bm line' vp (.slice a wl cap) lns ∧ Sole base bm w wr) (fun i _ => wl - (intOf i).toNat)
  case atStart => exact ⟨0, line, Nat.zero_le _, rfl, by simp, HREP.out, Sole.refl _ _ _⟩
  case round =>
    obtain ⟨k, line', hk, rfl, hfind, hrep, hb⟩ := hrel
    have HR := hide hrep
    have HB := hide hb
    by_cases hlt : k < wl
    · have hlt' : k < (Tm.wLines lns).length := by rw [HWL.out]; exact hlt
      obtain ⟨g, off, x1, x2, rfl, hg, c0, c1, c2, hseq⟩ := weighed_at hrep.wt hlt'
      have HMORE := hide (fun hx => find_more (p := unled lns) hfind hlt' hx)
      have HHERE := hide (fun hx => find_here (p := unled lns) hfind hlt' hx)
      have hmem : (Tm.wLines lns)[k] ∈ lns := (List.mem_filter.1 (List.getElem_mem hlt')).1
      have hfit := hrep.fit _ hmem
      have e1 := hrep.dr.c1
      have ef := hrep.dr.free
      have e0 := hrep.dr.c0
      have el := hrep.dr.lt
      have bn : ¬ bd = wr.heap.size := by omega
      have bn' : ¬ wr.heap.size = bd := by omega
      have gn : ¬ g = wr.heap.size := by omega
      generalize hol : (Tm.wLines lns)[k] = o at *
      have r1 := hseq.1.1
      have r2 := hseq.2.1
      obtain ⟨a1, cap1, rfl⟩ := r1.shape
      obtain ⟨a2, cap2, rfl⟩ := r2.shape
      obtain ⟨g1, off1, rfl, hg1, hcx⟩ := r1.at (k := 0) (List.length_pos_iff.2 hfit.some)
      have HSQ := hide hseq
      have HFIT := hide hfit
      have HW : Hid (Rep ((wr.setCell ⟨bd, 1, none⟩ (.int .i64 o.num)).alloc (.cells #[.int .i64 o.num, .slice (some ⟨g1, off1, none⟩) o.runes.length cap1, .slice a2 o.els.length cap2] 155)) col base bd bm o.num vp (.slice (some ⟨g, off, none⟩) wl cap) lns) := (HR.out.at_line o.num).below ((Below.refl _ _).alloc (Nat.le_refl _) _)
      have HWB : Hid (Sole base bm w ((wr.setCell ⟨bd, 1, none⟩ (.int .i64 o.num)).alloc (.cells #[.int .i64 o.num, .slice (some ⟨g1, off1, none⟩) o.runes.length cap1, .slice a2 o.els.length cap2] 155))) := (HB.out.setCell (p := ⟨bd, 1, none⟩) HR.out.dr.from_ _).alloc (by have := HR.out.dr.from_; simp [World.setCell]; omega) _
      clear hcx
      clear hfind hrep hb hmem hfit hol r1 r2 hseq
      have HKX : Hid (Keeps wr ((wr.setCell ⟨bd, 1, none⟩ (.int .i64 o.num)).alloc (.cells #[.int .i64 o.num, .slice (some ⟨g1, off1, none⟩) o.runes.length cap1, .slice a2 o.els.length cap2] 155)) col col (· ≠ -3)) :=
        ⟨by simp [World.setCell], fun j hj hc => by rw [Below.heap_alloc _ _ _ (by simpa [World.setCell] using hj), Below.heap_setCell _ _ _ _ (by simp only; intro e; subst e; exact hc HR.out.dr.hue)], fun _ _ => rfl⟩
      have HRX := hide (HSQ.out.1.keep HKX.out (by decide)).1
      have x1 : ((wr.setCell ⟨bd, 1, none⟩ (.int .i64 o.num)).alloc (.cells #[.int .i64 o.num, .slice (some ⟨g1, off1, none⟩) o.runes.length cap1, .slice a2 o.els.length cap2] 155)).cell? ⟨wr.heap.size, 1, none⟩ = some (.slice (some ⟨g1, off1, none⟩) o.runes.length cap1) := by rw [cell_new (by simp [World.setCell])]; rfl
      have hsx : wr.heap.size < ((wr.setCell ⟨bd, 1, none⟩ (.int .i64 o.num)).alloc (.cells #[.int .i64 o.num, .slice (some ⟨g1, off1, none⟩) o.runes.length cap1, .slice a2 o.els.length cap2] 155)).heap.size := by simp [World.setCell]
      go_wp2_with fail
      generalize ((wr.setCell ⟨bd, 1, none⟩ (.int .i64 o.num)).alloc (.cells #[.int .i64 o.num, .slice (some ⟨g1, off1, none⟩) o.runes.length cap1, .slice a2 o.els.length cap2] 155)) = wx at *
      have hfew := HFIT.out.few
      have HLX := hide HW.out.dr.lt
      refine (ContainsFunc_parted lns bd bm _ o.runes _ HW.out.dr.lt HW.out.dr.c0 HW.out.nd.rd HRX.out HFIT.out.rune (by omega)).mono ?_
      rintro e wy ⟨rfl, hby⟩
      have hsy := hby.size
      have HRY : Hid (Rep wy col base bd bm o.num vp (.slice (some ⟨g, off, none⟩) wl cap) lns) := HW.out.below hby
      have HBY : Hid (Sole base bm w wy) := HWB.out.then (hby.mono (by have h1 := HW.out.dr.from_; have h2 := HW.out.dr.lt; omega))
      have y1 : wy.cell? ⟨wr.heap.size, 1, none⟩ = some (.slice (some ⟨g1, off1, none⟩) o.runes.length cap1) := by rw [hby.cell (p := ⟨wr.heap.size, 1, none⟩) hsx]; exact x1
      have HRDY := hide (HRX.out.below hby HRX.out.2.1)
      have z0 := HRY.out.dr.c0
      have z1 := HRY.out.dr.c1
      clear hby
      cases hpp : Tm.hasParts lns o.runes
      case true =>
        have HN : Hid (lns.find? (Tm.badPrefix lns) = some o) := by unfold Hid; rw [← unled_find]; exact HHERE.out (by unfold unled; rw [hpp]; rfl)
        clear HMORE HHERE
        go_wp2_with fail
        refine (refuse_yes 5 _).mono ?_
        rintro e w' ⟨rfl, rfl⟩
        go_wp2
        exact ⟨rfl, checkAns_no HN.out rfl HBY.out z1⟩
      have HUN : Hid (unled lns o = (decide (o.runes.length = 3) && (Tm.seqOf lns (o.runes.take 2)).isNone)) := by unfold Hid unled; rw [hpp]; rfl
      go_wp2_with fail
      refine (refuse_no 5 _).mono ?_
      rintro e wy' ⟨rfl, rfl⟩
      go_wp2_with fail
      by_cases h3 : o.runes.length = 3
      · have hd3 : ((o.runes.length : Int) == 3) = true := by rw [h3]; rfl
        have hfx := HRDY.out.fits
        have hc2 : 3 ≤ cap1 := by have := hfx.2.1; omega
        have hc3 : cap1 ≤ 9223372036854775807 := by have := hfx.2.2; unfold maxLen at this; omega
        have hc4 : (2 : Int) ≤ (cap1 : Int) := by omega
        have HTWO := hide (HRDY.out.two (k := 2) (by omega))
        have hcall : ∀ wz, Below wy'.heap.size wy' wz → Calls Tryd.prog 77 #[.map (some bm), .slice (some ⟨g1, off1, none⟩) 2 cap1] wz fun e w' => e = .returned (.bool (!(Tm.seqOf lns (o.runes.take 2)).isNone)) ∧ Below wz.heap.size wz w' := fun wz hz =>
          hasSequence_any lns bm _ (o.runes.take 2) wz (HRY.out.nd.rd.below hz) (HTWO.out.below hz HTWO.out.2.1) (by simp; omega) (fun r hr => HFIT.out.rune r (List.mem_of_mem_take hr)) (by simp; omega) hn HRY.out.fit
        obtain ⟨nn, hnn⟩ : ∃ nn, (Tm.seqOf lns (o.runes.take 2)).isNone = nn := ⟨_, rfl⟩
        rw [hnn] at hcall HUN
        have HCALL := hide hcall
        clear hcall hfx hnn
        cases nn
        · have HS := hide (HMORE.out (by rw [HUN.out]; simp))
          clear HMORE HHERE
          go_region_with (first | (go_at_call 77; refine (HCALL.out _ (Below.refl _ _).drew).mono ?_; rintro e wz ⟨rfl, hbz⟩; have HBZ : Hid (Below wy'.heap.size wy' wz) := (Below.refl _ _).drew.trans hbz; clear hbz) | (go_at_call 87; refine (refuse_no 5 _).mono ?_; rintro e wq ⟨rfl, rfl⟩))
          all_goals go_wp2
          all_goals go_roundw
          all_goals first
            | exact ⟨k + 1, o.num, by omega, by go_num, HS.out, HRY.out.below HBZ.out, HBY.out.then (HBZ.out.mono (by have h1 := HRY.out.dr.from_; have h2 := HRY.out.dr.lt; omega))⟩
            | (simp [intOf]; omega)
        · have HN : Hid (lns.find? (Tm.badPrefix lns) = some o) := by unfold Hid; rw [← unled_find]; exact HHERE.out (by rw [HUN.out]; simp [h3])
          clear HMORE HHERE
          go_region_dies
          all_goals go_wp2_with (go_at_call 77; refine (HCALL.out _ (Below.refl _ _).drew).mono ?_; rintro e wz ⟨rfl, hbz⟩; have HBZ : Hid (Below wy'.heap.size wy' wz) := (Below.refl _ _).drew.trans hbz; clear hbz)
          all_goals (refine wpAny_ready (rs := [15]) (by decide +kernel) (by simp) ?_; refine AllReady.cons rfl (fun K hK => ?_) ?_; go_simp; refine hK _ _ ?_; clear hK K; rotate_left; exact AllReady.nil)
          all_goals (refine wpAny_ready (rs := [16]) (by decide +kernel) (by simp) ?_; refine AllReady.cons rfl (fun K hK => ?_) ?_; go_simp; refine hK _ _ ?_; clear hK K; rotate_left; exact AllReady.nil)
          all_goals (refine wpAny_ready (rs := [17]) (by decide +kernel) (by simp) ?_; refine AllReady.cons rfl (fun K hK => ?_) ?_; go_simp; rotate_left; exact AllReady.nil)
          all_goals (go_at_call 87; refine (refuse_yes 5 _).mono ?_; rintro e w' ⟨rfl, rfl⟩; exact ⟨rfl, checkAns_no HN.out rfl (HBY.out.then (HBZ.out.mono (by have h1 := HRY.out.dr.from_; have h2 := HRY.out.dr.lt; omega))) (by rw [HBZ.out.cell (p := ⟨bd, 1, none⟩) HRY.out.dr.lt]; exact z1)⟩)
      · have hd3 : ((o.runes.length : Int) == 3) = false := by rw [beq_eq_false_iff_ne]; omega
        have HS := hide (HMORE.out (by rw [HUN.out]; simp [h3]))
        clear HMORE HHERE
        go_quiet (first | (go_at_call 87; refine Calls.quiet_of_same (refuse_no 5 _)))
        go_wp2
        go_roundw
        case rel => exact ⟨k + 1, o.num, by omega, by go_num, HS.out, HRY.out.below ⟨rfl, rfl, rfl, Nat.le_refl _, fun _ _ => rfl⟩, HBY.out.then ⟨rfl, rfl, rfl, Nat.le_refl _, fun _ _ => rfl⟩⟩
        case measure => simp [intOf]; omega
    · have HN : Hid (lns.find? (Tm.badPrefix lns) = none) := by
        rw [List.take_of_length_le (by rw [HWL.out]; omega)] at hfind
        unfold Hid; rw [← unled_find]; exact hfind
      clear hfind hrep hb
      go_wp2
      go_end0
      exact checkAns_ok HN.out rfl HB.out ⟨_, _, _, _, HR.out⟩
end Go.Proofs.YtmnjjjhmnhfapaaDoor
