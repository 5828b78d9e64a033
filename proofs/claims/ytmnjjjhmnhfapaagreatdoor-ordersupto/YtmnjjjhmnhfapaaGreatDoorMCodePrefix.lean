import Derived.Deep.RegionWith
import Derived.Test.YtmnjjjhmnhfapaaGreatDoorMCodeVar
import Derived.Test.YtmnjjjhmnhfapaaGreatDoorMAppKeep
namespace Go.Proofs.YtmnjjjhmnhfapaaGreatDoor
open Go.RowKit

set_option maxRecDepth 100000 in
set_option maxHeartbeats 1000000 in
theorem isParted_any (lns : List Tm.Ln) (bd bm : Nat) (r : Int) (w : World) (hc : w.cell? ⟨bd, 0, none⟩ = some (.map (some bm))) (hrd : NodesRd w bm lns) (hr : 0 ≤ r ∧ r ≤ 1114111) :
    Calls Tryz.prog 157 #[.pointer (some ⟨bd, 0, none⟩), .int .i64 r] w fun e w' => e = .returned (.bool (!decide ((Tm.parts lns r).length = 0))) ∧ Below w.heap.size w w' := by
  obtain ⟨f, vp, vs, hmap, hfv, hp, _⟩ := hrd.at hr.1
  have HMAP := hide hmap
  have HP := hide hp
  have hf1 := field_makeup
  clear hmap hp hrd
  go_enter Tryz.func157, Tryz.ntmps157
  go_wp2_with (at_lookup; go_must (refine wpList_look rfl _ _ rfl bm lns.length f rfl HMAP.out r rfl (wf_rune hr) _ hfv ?_))
  refine (hasParts_any _ _ _ _ HP.out).mono ?_
  rintro e w1 ⟨rfl, hb⟩
  have HB := hide hb
  clear hb
  go_wp2
  go_ret
  refine ⟨ret_bool ?_, HB.out⟩
  generalize (Tm.parts lns r).length = m
  cases m <;> simp

theorem anyInt_step {l : List Int} {p : Int → Bool} {k : Nat} (h : (l.take k).any p = false) (hk : k < l.length) (hx : p l[k] = false) : (l.take (k + 1)).any p = false := by
  rw [List.take_succ_eq_append_getElem hk, List.any_append, h]
  simp [hx]
theorem anyInt_hit {l : List Int} {p : Int → Bool} {k : Nat} (hk : k < l.length) (hx : p l[k] = true) : l.any p = true :=
  List.any_eq_true.2 ⟨l[k], List.getElem_mem hk, hx⟩

set_option maxRecDepth 100000 in
set_option maxHeartbeats 1000000 in
theorem IndexFunc_parted (lns : List Tm.Ln) (bd bm : Nat) (vr : Value) (rs : List Int) (w : World) (hbd : bd < w.heap.size) (hc : w.cell? ⟨bd, 0, none⟩ = some (.map (some bm))) (hrd : NodesRd w bm lns) (hr : Reads w vr 1 rs.length (ints rs)) (hrg : ∀ r ∈ rs, 0 ≤ r ∧ r ≤ 1114111) (hl : rs.length ≤ 1000000) :
    Calls Tryz.prog 181 #[vr, .func (.func 157) #[.pointer (some ⟨bd, 0, none⟩)] #[]] w fun e w' => foundAns (Tm.hasParts lns rs) e ∧ Below w.heap.size w w' := by
  obtain ⟨a, cap, rfl⟩ := hr.shape
  have HR := hide hr
  have HG := hide hrg
  have HRD := hide hrd
  have HH : Hid (Tm.hasParts lns rs = rs.any fun r => !decide ((Tm.parts lns r).length = 0)) := rfl
  clear hr hrg hrd
  go_enter Tryz.func181, Tryz.ntmps181
  go_wp2
  go_loopw [8] (fun i wr => ∃ k : Nat, k ≤ rs.length ∧ i = .int .i64 k ∧ ((rs.take k).any fun r => !decide ((Tm.parts lns r).length = 0)) = false ∧ Below w.heap.size w wr) (fun i _ => rs.length - (intOf i).toNat)
  case atStart => exact ⟨0, Nat.zero_le _, rfl, by simp, Below.refl _ _⟩
  case round =>
    obtain ⟨k, hk, rfl, hno, hb⟩ := hrel
    have hz := hb.size
    have HB := hide hb
    by_cases hlt : k < rs.length
    · obtain ⟨g, off, rfl, hg, c0⟩ := HR.out.at hlt
      have hcc : ∀ o, wr.cell? ⟨g, o, none⟩ = w.cell? ⟨g, o, none⟩ := fun o => hb.cell (p := ⟨g, o, none⟩) hg
      rw [← hcc] at c0
      have hcw : wr.cell? ⟨bd, 0, none⟩ = some (.map (some bm)) := by rw [hb.cell (p := ⟨bd, 0, none⟩) hbd]; exact hc
      have HS := hide (fun hx => anyInt_step (p := fun r => !decide ((Tm.parts lns r).length = 0)) hno hlt hx)
      have HY := hide (fun hx => anyInt_hit (p := fun r => !decide ((Tm.parts lns r).length = 0)) hlt hx)
      have hrr := HG.out _ (List.getElem_mem hlt)
      generalize rs[k] = x at *
      clear hcc hb hno
      go_wp2_with fail
      refine (isParted_any lns bd bm x _ hcw (HRD.out.below HB.out) hrr).mono ?_
      rintro e w1 ⟨rfl, hb1⟩
      have HB1 : Hid (Below w.heap.size w w1) := HB.out.trans (hb1.mono hz)
      clear hb1
      generalize hq : (!decide ((Tm.parts lns x).length = 0)) = q at *
      cases q
      · have HS' := hide (HS.out rfl)
        clear hq
        go_wp2
        go_roundw
        case rel => exact ⟨k + 1, by omega, by go_num, HS'.out, HB1.out⟩
        case measure => simp [intOf]; omega
      · have HY' := hide (HY.out rfl)
        clear hq
        go_wp2
        go_ret
        exact ⟨⟨k, rfl, by rw [HH.out, HY'.out]; simp⟩, HB1.out⟩
    · have HN : Hid (Tm.hasParts lns rs = false) := by
        rw [List.take_of_length_le (by omega)] at hno
        unfold Hid; rw [HH.out]; exact hno
      clear hno hb
      go_wp2
      go_ret
      exact ⟨⟨-1, rfl, by rw [HN.out]; rfl⟩, HB.out⟩
set_option maxRecDepth 100000 in
theorem ContainsFunc_parted (lns : List Tm.Ln) (bd bm : Nat) (vr : Value) (rs : List Int) (w : World) (hbd : bd < w.heap.size) (hc : w.cell? ⟨bd, 0, none⟩ = some (.map (some bm))) (hrd : NodesRd w bm lns) (hr : Reads w vr 1 rs.length (ints rs)) (hrg : ∀ r ∈ rs, 0 ≤ r ∧ r ≤ 1114111) (hl : rs.length ≤ 1000000) :
    Calls Tryz.prog 156 #[vr, .func (.func 157) #[.pointer (some ⟨bd, 0, none⟩)] #[]] w fun e w' => e = .returned (.bool (Tm.hasParts lns rs)) ∧ Below w.heap.size w w' := by
  go_enter Tryz.func156, Tryz.ntmps156
  go_wp2_with fail
  refine (IndexFunc_parted lns bd bm vr rs _ hbd hc hrd hr hrg hl).mono ?_
  rintro e w1 ⟨⟨i, rfl, hi⟩, hb⟩
  have HI := hide hi
  clear hi
  go_wp2
  go_ret
  exact ⟨ret_bool HI.out, hb⟩

/-- Is a line w one whose runes cannot be? -/
def unled (lns : List Tm.Ln) (o : Tm.Ln) : Bool := Tm.hasParts lns o.runes || (decide (o.runes.length = 3) && (Tm.seqOf lns (o.runes.take 2)).isNone)
theorem unled_find (lns : List Tm.Ln) : (Tm.wLines lns).find? (unled lns) = lns.find? (Tm.badPrefix lns) := by
  unfold Tm.wLines
  rw [List.find?_filter]
  congr 1
  funext o
  rw [Tm.badPrefix, unled]
  generalize (Tm.hasParts lns o.runes || (decide (o.runes.length = 3) && (Tm.seqOf lns (o.runes.take 2)).isNone)) = q
  generalize decide (o.kind = [119]) = p
  cases p <;> cases q <;> rfl
set_option maxRecDepth 100000 in
set_option maxHeartbeats 4000000 in
theorem checkPrefixes_any (lns : List Tm.Ln) (col : Nat → Int) (base bd bm : Nat) (line : Int) (vp vw : Value) (w : World) (hrep : Rep w col base bd bm line vp vw lns) (hn : lns.length ≤ 8192) :
    Calls Tryz.prog 122 #[.pointer (some ⟨bd, 0, none⟩)] w fun e w' => checkAns (lns.find? (Tm.badPrefix lns)) 5 lns base bd bm w e w' := by
  obtain ⟨wl, hwl⟩ : ∃ wl, (Tm.wLines lns).length = wl := ⟨_, rfl⟩
  obtain ⟨a, cap, rfl⟩ : ∃ a cap, vw = .slice a wl cap := by
    obtain ⟨xs, hl, hr, hok⟩ := hrep.wt
    rw [← hwl]; exact (Reads.of_owns hr.1).shape
  have hdl := wLines_le lns
  have d3 := hrep.dr.c3
  have HREP := hide hrep
  have HWL := hide hwl
  rw [hwl] at hdl
  clear hrep hwl
  go_enter Tryz.func122, Tryz.ntmps122
  go_wp2
  go_loopw [9] (fun i wr => ∃ (k : Nat) (line' : Int), k ≤ wl ∧ i = .int .i64 k ∧ ((Tm.wLines lns).take k).find? (unled lns) = none ∧ Rep wr col base bd bm line' vp (.slice a wl cap) lns ∧ Sole base bm w wr) (fun i _ => wl - (intOf i).toNat)
  case atStart => exact ⟨0, line, Nat.zero_le _, rfl, by simp, HREP.out, Sole.refl _ _ _⟩
  case round =>
    obtain ⟨k, line', hk, rfl, hfind, hrep, hb⟩ := hrel
    have HR := hide hrep
    have HB := hide hb
    by_cases hlt : k < wl
    · have hlt' : k < (Tm.wLines lns).length := by rw [HWL.out]; exact hlt
      obtain ⟨g, off, x1, x2, rfl, hg, c0, c1, c2, hseq⟩ := weighed_at hrep.wt hlt'
      have HMORE := hide (fun hx => find_more (p := unled lns) hfind hlt' hx)
      have HHERE := hide (fun hx => find_here (p := unled lns) hfind hlt' hx)
      have hmem : (Tm.wLines lns)[k] ∈ lns := (List.mem_filter.1 (List.getElem_mem hlt')).1
      have hfit := hrep.fit _ hmem
      have e1 := hrep.dr.c1
      have ef := hrep.dr.free
      have e0 := hrep.dr.c0
      have el := hrep.dr.lt
      have bn : ¬ bd = wr.heap.size := by omega
      have bn' : ¬ wr.heap.size = bd := by omega
      have gn : ¬ g = wr.heap.size := by omega
      generalize hol : (Tm.wLines lns)[k] = o at *
      have r1 := hseq.1.1
      have r2 := hseq.2.1
      obtain ⟨a1, cap1, rfl⟩ := r1.shape
      obtain ⟨a2, cap2, rfl⟩ := r2.shape
      obtain ⟨g1, off1, rfl, hg1, hcx⟩ := r1.at (k := 0) (List.length_pos_iff.2 hfit.some)
      have HSQ := hide hseq
      have HFIT := hide hfit
      have HW : Hid (Rep ((wr.setCell ⟨bd, 1, none⟩ (.int .i64 o.num)).alloc (.cells #[.int .i64 o.num, .slice (some ⟨g1, off1, none⟩) o.runes.length cap1, .slice a2 o.els.length cap2] 240)) col base bd bm o.num vp (.slice (some ⟨g, off, none⟩) wl cap) lns) := (HR.out.at_line o.num).below ((Below.refl _ _).alloc (Nat.le_refl _) _)
      have HWB : Hid (Sole base bm w ((wr.setCell ⟨bd, 1, none⟩ (.int .i64 o.num)).alloc (.cells #[.int .i64 o.num, .slice (some ⟨g1, off1, none⟩) o.runes.length cap1, .slice a2 o.els.length cap2] 240))) := (HB.out.setCell (p := ⟨bd, 1, none⟩) HR.out.dr.from_ _).alloc (by have := HR.out.dr.from_; simp [World.setCell]; omega) _
      clear hcx
      clear hfind hrep hb hmem hfit hol r1 r2 hseq
      have HKX : Hid (Keeps wr ((wr.setCell ⟨bd, 1, none⟩ (.int .i64 o.num)).alloc (.cells #[.int .i64 o.num, .slice (some ⟨g1, off1, none⟩) o.runes.length cap1, .slice a2 o.els.length cap2] 240)) col col (· ≠ -3)) :=
        ⟨by simp [World.setCell], fun j hj hc => by rw [Below.heap_alloc _ _ _ (by simpa [World.setCell] using hj), Below.heap_setCell _ _ _ _ (by simp only; intro e; subst e; exact hc HR.out.dr.hue)], fun _ _ => rfl⟩
      have HRX := hide (HSQ.out.1.keep HKX.out (by decide)).1
      have x1 : ((wr.setCell ⟨bd, 1, none⟩ (.int .i64 o.num)).alloc (.cells #[.int .i64 o.num, .slice (some ⟨g1, off1, none⟩) o.runes.length cap1, .slice a2 o.els.length cap2] 240)).cell? ⟨wr.heap.size, 1, none⟩ = some (.slice (some ⟨g1, off1, none⟩) o.runes.length cap1) := by rw [cell_new (by simp [World.setCell])]; rfl
      have hsx : wr.heap.size < ((wr.setCell ⟨bd, 1, none⟩ (.int .i64 o.num)).alloc (.cells #[.int .i64 o.num, .slice (some ⟨g1, off1, none⟩) o.runes.length cap1, .slice a2 o.els.length cap2] 240)).heap.size := by simp [World.setCell]
      go_wp2_with fail
      generalize ((wr.setCell ⟨bd, 1, none⟩ (.int .i64 o.num)).alloc (.cells #[.int .i64 o.num, .slice (some ⟨g1, off1, none⟩) o.runes.length cap1, .slice a2 o.els.length cap2] 240)) = wx at *
      have hfew := HFIT.out.few
      have HLX := hide HW.out.dr.lt
      refine (ContainsFunc_parted lns bd bm _ o.runes _ HW.out.dr.lt HW.out.dr.c0 HW.out.nd.rd HRX.out HFIT.out.rune (by omega)).mono ?_
      rintro e wy ⟨rfl, hby⟩
      have hsy := hby.size
      have HRY : Hid (Rep wy col base bd bm o.num vp (.slice (some ⟨g, off, none⟩) wl cap) lns) := HW.out.below hby
      have HBY : Hid (Sole base bm w wy) := HWB.out.then (hby.mono (by have h1 := HW.out.dr.from_; have h2 := HW.out.dr.lt; omega))
      have y1 : wy.cell? ⟨wr.heap.size, 1, none⟩ = some (.slice (some ⟨g1, off1, none⟩) o.runes.length cap1) := by rw [hby.cell (p := ⟨wr.heap.size, 1, none⟩) hsx]; exact x1
      have HRDY := hide (HRX.out.below hby HRX.out.2.1)
      have z0 := HRY.out.dr.c0
      have z1 := HRY.out.dr.c1
      clear hby
      cases hpp : Tm.hasParts lns o.runes
      case true =>
        have HN : Hid (lns.find? (Tm.badPrefix lns) = some o) := by unfold Hid; rw [← unled_find]; exact HHERE.out (by unfold unled; rw [hpp]; rfl)
        clear HMORE HHERE
        go_wp2_with fail
        refine (refuse_yes 5 _).mono ?_
        rintro e w' ⟨rfl, rfl⟩
        go_wp2
        exact ⟨rfl, checkAns_no HN.out rfl HBY.out z1⟩
      have HUN : Hid (unled lns o = (decide (o.runes.length = 3) && (Tm.seqOf lns (o.runes.take 2)).isNone)) := by unfold Hid unled; rw [hpp]; rfl
      go_wp2_with fail
      refine (refuse_no 5 _).mono ?_
      rintro e wy' ⟨rfl, rfl⟩
      go_wp2_with fail
      by_cases h3 : o.runes.length = 3
      · have hd3 : ((o.runes.length : Int) == 3) = true := by rw [h3]; rfl
        have hfx := HRDY.out.fits
        have hc2 : 3 ≤ cap1 := by have := hfx.2.1; omega
        have hc3 : cap1 ≤ 9223372036854775807 := by have := hfx.2.2; unfold maxLen at this; omega
        have hc4 : (2 : Int) ≤ (cap1 : Int) := by omega
        have HTWO := hide (HRDY.out.two (k := 2) (by omega))
        have hcall : ∀ wz, Below wy'.heap.size wy' wz → Calls Tryz.prog 158 #[.map (some bm), .slice (some ⟨g1, off1, none⟩) 2 cap1] wz fun e w' => e = .returned (.bool (!(Tm.seqOf lns (o.runes.take 2)).isNone)) ∧ Below wz.heap.size wz w' := fun wz hz =>
          hasSequence_any lns bm _ (o.runes.take 2) wz (HRY.out.nd.rd.below hz) (HTWO.out.below hz HTWO.out.2.1) (by simp; omega) (fun r hr => HFIT.out.rune r (List.mem_of_mem_take hr)) (by simp; omega) hn HRY.out.fit
        obtain ⟨nn, hnn⟩ : ∃ nn, (Tm.seqOf lns (o.runes.take 2)).isNone = nn := ⟨_, rfl⟩
        rw [hnn] at hcall HUN
        have HCALL := hide hcall
        clear hcall hfx hnn
        cases nn
        · have HS := hide (HMORE.out (by rw [HUN.out]; simp))
          clear HMORE HHERE
          go_region_with (first | (go_at_call 158; refine (HCALL.out _ (Below.refl _ _).drew).mono ?_; rintro e wz ⟨rfl, hbz⟩; have HBZ : Hid (Below wy'.heap.size wy' wz) := (Below.refl _ _).drew.trans hbz; clear hbz) | (go_at_call 154; refine (refuse_no 5 _).mono ?_; rintro e wq ⟨rfl, rfl⟩))
          all_goals go_wp2
          all_goals go_roundw
          all_goals first
            | exact ⟨k + 1, o.num, by omega, by go_num, HS.out, HRY.out.below HBZ.out, HBY.out.then (HBZ.out.mono (by have h1 := HRY.out.dr.from_; have h2 := HRY.out.dr.lt; omega))⟩
            | (simp [intOf]; omega)
        · have HN : Hid (lns.find? (Tm.badPrefix lns) = some o) := by unfold Hid; rw [← unled_find]; exact HHERE.out (by rw [HUN.out]; simp [h3])
          clear HMORE HHERE
          go_region_dies
          all_goals go_wp2_with (go_at_call 158; refine (HCALL.out _ (Below.refl _ _).drew).mono ?_; rintro e wz ⟨rfl, hbz⟩; have HBZ : Hid (Below wy'.heap.size wy' wz) := (Below.refl _ _).drew.trans hbz; clear hbz)
          all_goals (refine wpAny_ready (rs := [15]) (by decide +kernel) (by simp) ?_; refine AllReady.cons rfl (fun K hK => ?_) ?_; go_simp; refine hK _ _ ?_; clear hK K; rotate_left; exact AllReady.nil)
          all_goals (refine wpAny_ready (rs := [16]) (by decide +kernel) (by simp) ?_; refine AllReady.cons rfl (fun K hK => ?_) ?_; go_simp; refine hK _ _ ?_; clear hK K; rotate_left; exact AllReady.nil)
          all_goals (refine wpAny_ready (rs := [17]) (by decide +kernel) (by simp) ?_; refine AllReady.cons rfl (fun K hK => ?_) ?_; go_simp; rotate_left; exact AllReady.nil)
          all_goals (go_at_call 154; refine (refuse_yes 5 _).mono ?_; rintro e w' ⟨rfl, rfl⟩; exact ⟨rfl, checkAns_no HN.out rfl (HBY.out.then (HBZ.out.mono (by have h1 := HRY.out.dr.from_; have h2 := HRY.out.dr.lt; omega))) (by rw [HBZ.out.cell (p := ⟨bd, 1, none⟩) HRY.out.dr.lt]; exact z1)⟩)
      · have hd3 : ((o.runes.length : Int) == 3) = false := by rw [beq_eq_false_iff_ne]; omega
        have HS := hide (HMORE.out (by rw [HUN.out]; simp [h3]))
        clear HMORE HHERE
        go_quiet (first | (go_at_call 154; refine Calls.quiet_of_same (refuse_no 5 _)))
        go_wp2
        go_roundw
        case rel => exact ⟨k + 1, o.num, by omega, by go_num, HS.out, HRY.out.below ⟨rfl, rfl, rfl, Nat.le_refl _, fun _ _ => rfl⟩, HBY.out.then ⟨rfl, rfl, rfl, Nat.le_refl _, fun _ _ => rfl⟩⟩
        case measure => simp [intOf]; omega
    · have HN : Hid (lns.find? (Tm.badPrefix lns) = none) := by
        rw [List.take_of_length_le (by rw [HWL.out]; omega)] at hfind
        unfold Hid; rw [← unled_find]; exact hfind
      clear hfind hrep hb
      go_wp2
      go_end0
      exact checkAns_ok HN.out rfl HB.out ⟨_, _, _, _, HR.out⟩
end Go.Proofs.YtmnjjjhmnhfapaaGreatDoor
