import Derived.Test.YtmnjjjhmnhfapaaGreatDoorMCodeCheck
import Derived.Test.YtmnjjjhmnhfapaaGreatDoorMPlain
namespace Go.Proofs.YtmnjjjhmnhfapaaGreatDoor
open Go.RowKit

/-- A slice value reads as the lines w. -/
def WsRd (w : World) (v : Value) (ls : List Tm.Ln) : Prop :=
  ∃ a cap, v = .slice a ls.length cap ∧ ∀ k (hk : k < ls.length), ∃ g off x1 x2, a = some ⟨g, off, none⟩ ∧ g < w.heap.size ∧ w.cell? ⟨g, off + k * 3, none⟩ = some (.int .i64 ls[k].num) ∧ w.cell? ⟨g, off + k * 3 + 1, none⟩ = some x1 ∧ w.cell? ⟨g, off + k * 3 + 2, none⟩ = some x2 ∧
    Reads w x1 1 ls[k].runes.length (ints ls[k].runes) ∧ Reads w x2 4 ls[k].els.length (elsCells ls[k].els)
theorem Wt.rd {w : World} {col : Nat → Int} {base : Nat} {v : Value} {lns : List Tm.Ln} (h : Wt w col base v lns) : WsRd w v (Tm.wLines lns) := by
  obtain ⟨xs, hl, hr, hok⟩ := h
  obtain ⟨a, cap, rfl⟩ := (Reads.of_owns hr.1).shape
  refine ⟨a, cap, rfl, fun k hk => ?_⟩
  have hk' : k < xs.length := by omega
  have hlen : (seqCells true xs (Tm.wLines lns)).length = (Tm.wLines lns).length * 3 := hr.1.1
  obtain ⟨g, off, cap', he, hg, hc⟩ := (Reads.of_owns hr.1).form (by omega)
  cases he
  refine ⟨g, off, xs[k].1, xs[k].2, rfl, hg, ?_, ?_, ?_, (hok k hk hk').1.1, (hok k hk hk').2.1⟩
  · exact hc (k * 3) _ (by have := seqCells_get3 hl hk hk' (f := 0) (by omega); simpa using this)
  · exact hc (k * 3 + 1) _ (by have := seqCells_get3 hl hk hk' (f := 1) (by omega); simpa using this)
  · exact hc (k * 3 + 2) _ (by have := seqCells_get3 hl hk hk' (f := 2) (by omega); simpa using this)
theorem WsRd.below {w w' : World} {v : Value} {ls : List Tm.Ln} (h : WsRd w v ls) (hb : Below w.heap.size w w') : WsRd w' v ls := by
  obtain ⟨a, cap, rfl, hc⟩ := h
  refine ⟨a, cap, rfl, fun k hk => ?_⟩
  obtain ⟨g, off, x1, x2, rfl, hg, c0, c1, c2, h1, h2⟩ := hc k hk
  exact ⟨g, off, x1, x2, rfl, Nat.lt_of_lt_of_le hg hb.size, by rw [hb.cell (p := ⟨g, off + k * 3, none⟩) hg]; exact c0, by rw [hb.cell (p := ⟨g, off + k * 3 + 1, none⟩) hg]; exact c1, by rw [hb.cell (p := ⟨g, off + k * 3 + 2, none⟩) hg]; exact c2, h1.below hb h1.2.1, h2.below hb h2.2.1⟩

theorem leastEls_range {els : List Tm.El} (h : ∀ e ∈ els, 0 ≤ e.p ∧ e.p ≤ 65535) {m : Int} (hm : 0 ≤ m ∧ m ≤ 65536) : 0 ≤ Tm.leastEls els m ∧ Tm.leastEls els m ≤ 65536 := by
  induction els generalizing m with
  | nil => exact hm
  | cons x r ih =>
    have : Tm.leastEls (x :: r) m = Tm.leastEls r (Tm.leastEl m x) := rfl
    rw [this]
    refine ih (fun e he => h e (by simp [he])) ?_
    have hx := h x (by simp)
    unfold Tm.leastEl
    split <;> omega

set_option maxRecDepth 100000 in
set_option maxHeartbeats 2000000 in
theorem leastPrimary_any (lns : List Tm.Ln) (vw : Value) (bd : Nat) (w : World) (hc : w.cell? ⟨bd, 3, none⟩ = some vw) (hw : WsRd w vw (Tm.wLines lns)) (hf : ∀ o ∈ lns, Tm.Fit o) (hn : lns.length ≤ 8192) :
    Calls Tryz.prog 159 #[.pointer (some ⟨bd, 0, none⟩)] w fun e w' => e = .returned (.int .i64 (Tm.bound lns)) ∧ Below w.heap.size w w' := by
  obtain ⟨ls, hls⟩ : ∃ ls, Tm.wLines lns = ls := ⟨_, rfl⟩
  have HB0 : Hid (Tm.bound lns = Tm.leastLns ls 65536) := by unfold Hid Tm.bound; rw [hls]
  have hle := wLines_le lns
  have HWT : Hid (∀ o ∈ ls, ∀ e ∈ o.els, 0 ≤ e.p ∧ e.p ≤ 65535) := fun o ho e he => ((hf o (by rw [← hls] at ho; exact (List.mem_filter.1 ho).1)).weight e he).1
  have HFW : Hid (∀ o ∈ ls, o.els.length ≤ 4) := fun o ho => (hf o (by rw [← hls] at ho; exact (List.mem_filter.1 ho).1)).els
  rw [hls] at hw hle
  have HW := hide hw
  obtain ⟨a, cap, rfl, _⟩ := hw
  clear hls hf
  go_enter Tryz.func159, Tryz.ntmps159
  go_wp2
  go_loopw [3, 13] (fun m i wr => ∃ (k : Nat) (q : Int), k ≤ ls.length ∧ i = .int .i64 k ∧ m = .int .i64 q ∧ q = Tm.leastLns (ls.take k) 65536 ∧ (0 ≤ q ∧ q ≤ 65536) ∧ Below w.heap.size w wr) (fun _ i _ => ls.length - (intOf i).toNat)
  case atStart => exact ⟨0, 65536, Nat.zero_le _, rfl, rfl, rfl, by omega, Below.refl _ _⟩
  case round =>
    obtain ⟨k, q, hk, rfl, rfl, hq, hqr, hb⟩ := hrel
    have HB := hide hb
    have HQ := hide hq
    have hz := hb.size
    clear hq
    by_cases hlt : k < ls.length
    · obtain ⟨a', cap', he, hcs⟩ := HW.out
      cases he
      obtain ⟨g, off, x1, x2, rfl, hg, c0, c1, c2, r1, r2⟩ := hcs k hlt
      have hcc : ∀ o, wr.cell? ⟨g, o, none⟩ = w.cell? ⟨g, o, none⟩ := fun o => hb.cell (p := ⟨g, o, none⟩) hg
      rw [← hcc] at c0 c1 c2
      obtain ⟨a1, cap1, rfl⟩ := r1.shape
      obtain ⟨a2, cap2, rfl⟩ := r2.shape
      have HST := hide (Tm.leastLns_snoc (m := 65536) hlt)
      have HEW := hide (HWT.out _ (List.getElem_mem hlt))
      have hel := HFW.out _ (List.getElem_mem hlt)
      have gn : ¬ g = wr.heap.size := by omega
      generalize ls[k].els = els at *
      generalize ls[k].num = num at *
      generalize ls[k].runes.length = rl at *
      have R2 := hide r2
      have HB1 : Hid (Below w.heap.size w (wr.alloc (.cells #[.int .i64 num, .slice a1 rl cap1, .slice a2 els.length cap2] 240))) := HB.out.alloc hz _
      clear hcs hb r1 r2 hcc
      go_wp2_with fail
      go_loopw [3, 21] (fun m i wi => ∃ (j : Nat) (p : Int), j ≤ els.length ∧ i = .int .i64 j ∧ m = .int .i64 p ∧ p = Tm.leastEls (els.take j) q ∧ (0 ≤ p ∧ p ≤ 65536) ∧ Below w.heap.size w wi) (fun _ i _ => els.length - (intOf i).toNat)
      case atStart => exact ⟨0, q, Nat.zero_le _, rfl, rfl, rfl, hqr, HB1.out⟩
      case round =>
        obtain ⟨j, p, hj, rfl, rfl, hp, hpr, hb2⟩ := hrel
        have HB2 := hide hb2
        have HP := hide hp
        have hz2 := hb2.size
        clear hp
        by_cases hjt : j < els.length
        · obtain ⟨g2, off2, rfl, hg2, e0, e1, e2, e3⟩ := els_at R2.out hjt
          have hcc : ∀ o, wr.cell? ⟨g2, o, none⟩ = w.cell? ⟨g2, o, none⟩ := fun o => hb2.cell (p := ⟨g2, o, none⟩) hg2
          rw [← hcc] at e0 e1 e2 e3
          have HS2 := hide (Tm.leastEls_snoc (m := q) hjt)
          have hx := HEW.out _ (List.getElem_mem hjt)
          have g2n : ¬ g2 = wr.heap.size := by omega
          generalize els[j] = x at *
          clear hcc hb2
          have HB3 : Hid (Below w.heap.size w (wr.alloc (.cells #[.int .i64 x.p, .int .i64 x.s, .int .i64 x.t, .bool x.v] 102))) := HB2.out.alloc hz2 _
          cases hv : x.v
          · cases hp0 : (x.p != 0)
            · have HE : Hid (Tm.leastEl p x = p) := by unfold Hid Tm.leastEl; rw [hv, hp0]; rfl
              go_wp2
              go_roundw
              case rel => exact ⟨j + 1, p, by omega, by go_num, rfl, by rw [HS2.out, ← HP.out, HE.out], hpr, by rw [← hv]; exact HB3.out⟩
              case measure => simp [intOf]; omega
            · have HE : Hid (Tm.leastEl p x = min p x.p) := by unfold Hid Tm.leastEl; rw [hv, hp0]; rfl
              go_wp2
              go_roundw
              case rel => exact ⟨j + 1, min p x.p, by omega, by go_num, by go_num, by rw [HS2.out, ← HP.out, HE.out], by omega, by rw [← hv]; exact HB3.out⟩
              case measure => simp [intOf]; omega
          · have HE : Hid (Tm.leastEl p x = p) := by unfold Hid Tm.leastEl; rw [hv]; rfl
            go_wp2
            go_roundw
            case rel => exact ⟨j + 1, p, by omega, by go_num, rfl, by rw [HS2.out, ← HP.out, HE.out], hpr, by rw [← hv]; exact HB3.out⟩
            case measure => simp [intOf]; omega
        · have HE : Hid (p = Tm.leastLns (ls.take (k + 1)) 65536) := by unfold Hid; rw [HST.out, ← HQ.out, HP.out, List.take_of_length_le (by omega)]
          clear hb2
          go_wp2
          go_roundw
          case rel => exact ⟨k + 1, p, by omega, by go_num, rfl, HE.out, hpr, HB2.out⟩
          case measure => simp [intOf]; omega
    · have HF : Hid (Tm.bound lns = q) := by unfold Hid; rw [HB0.out, HQ.out, List.take_of_length_le (by omega)]
      clear hb
      go_wp2
      go_ret
      exact ⟨ret_int HF.out.symm, HB.out⟩
end Go.Proofs.YtmnjjjhmnhfapaaGreatDoor
namespace Go.Proofs.YtmnjjjhmnhfapaaGreatDoor
open Go.RowKit

theorem weighed_at {w : World} {col : Nat → Int} {base : Nat} {a : Option Addr} {m cap : Nat} {lns : List Tm.Ln} (h : Wt w col base (.slice a m cap) lns) {k : Nat} (hk : k < (Tm.wLines lns).length) :
    ∃ g off x1 x2, a = some ⟨g, off, none⟩ ∧ g < w.heap.size ∧ w.cell? ⟨g, off + k * 3, none⟩ = some (.int .i64 (Tm.wLines lns)[k].num) ∧ w.cell? ⟨g, off + k * 3 + 1, none⟩ = some x1 ∧ w.cell? ⟨g, off + k * 3 + 2, none⟩ = some x2 ∧
      SeqOk w col (x1, x2) (Tm.wLines lns)[k] := by
  obtain ⟨xs, hl, hr, hok⟩ := h
  have hk' : k < xs.length := by omega
  have hlen : (seqCells true xs (Tm.wLines lns)).length = (Tm.wLines lns).length * 3 := hr.1.1
  obtain ⟨g, off, cap', he, hg, hc⟩ := (Reads.of_owns hr.1).form (by omega)
  cases he
  refine ⟨g, off, xs[k].1, xs[k].2, rfl, hg, ?_, ?_, ?_, hok k hk hk'⟩
  · exact hc (k * 3) _ (by have := seqCells_get3 hl hk hk' (f := 0) (by omega); simpa using this)
  · exact hc (k * 3 + 1) _ (by have := seqCells_get3 hl hk hk' (f := 1) (by omega); simpa using this)
  · exact hc (k * 3 + 2) _ (by have := seqCells_get3 hl hk hk' (f := 2) (by omega); simpa using this)
end Go.Proofs.YtmnjjjhmnhfapaaGreatDoor
namespace Go.Proofs.YtmnjjjhmnhfapaaGreatDoor
open Go.RowKit

theorem anyEl_step {els : List Tm.El} {p : Tm.El → Bool} {k : Nat} (h : (els.take k).any p = false) (hk : k < els.length) (hx : p els[k] = false) : (els.take (k + 1)).any p = false := by
  rw [List.take_succ_eq_append_getElem hk, List.any_append, h]
  simp [hx]
theorem anyEl_hit {els : List Tm.El} {p : Tm.El → Bool} {k : Nat} (hk : k < els.length) (hx : p els[k] = true) : els.any p = true :=
  List.any_eq_true.2 ⟨els[k], List.getElem_mem hk, hx⟩

set_option maxRecDepth 100000 in
set_option maxHeartbeats 4000000 in
theorem checkVariables_any (lns : List Tm.Ln) (col : Nat → Int) (base bd bm : Nat) (line : Int) (vp vw : Value) (w : World) (hrep : Rep w col base bd bm line vp vw lns) (hn : lns.length ≤ 8192) :
    Calls Tryz.prog 123 #[.pointer (some ⟨bd, 0, none⟩)] w fun e w' => checkAns (lns.find? (Tm.badWeight lns)) 4 lns base bd bm w e w' := by
  obtain ⟨wl, hwl⟩ : ∃ wl, (Tm.wLines lns).length = wl := ⟨_, rfl⟩
  obtain ⟨a, cap, rfl⟩ : ∃ a cap, vw = .slice a wl cap := by
    obtain ⟨xs, hl, hr, hok⟩ := hrep.wt
    rw [← hwl]; exact (Reads.of_owns hr.1).shape
  have hdl := wLines_le lns
  have HREP := hide hrep
  have HWL := hide hwl
  have HFIND := hide (Tm.high_find hrep.fit)
  rw [hwl] at hdl
  clear hrep hwl
  go_enter Tryz.func123, Tryz.ntmps123
  go_wp2_with fail
  refine (leastPrimary_any lns _ bd _ HREP.out.dr.c3 HREP.out.wt.rd HREP.out.fit hn).mono ?_
  rintro e w1 ⟨rfl, hb1⟩
  have HR1 := hide (HREP.out.below hb1)
  have HB1 : Hid (Sole base bm w w1) := Sole.of (hb1.mono (by have h1 := HREP.out.dr.from_; have h2 := HREP.out.dr.lt; omega))
  have d3 := HR1.out.dr.c3
  obtain ⟨b, hbnd⟩ : ∃ b, Tm.bound lns = b := ⟨_, rfl⟩
  rw [hbnd] at HFIND
  rw [hbnd]
  clear hb1 hbnd
  go_wp2_with fail
  go_loopw [14] (fun i wr => ∃ (k : Nat) (line' : Int), k ≤ wl ∧ i = .int .i64 k ∧ ((Tm.wLines lns).take k).find? (fun o => o.els.any (Tm.highEl b)) = none ∧ Rep wr col base bd bm line' vp (.slice a wl cap) lns ∧ Sole base bm w wr) (fun i _ => wl - (intOf i).toNat)
  case atStart => exact ⟨0, line, Nat.zero_le _, rfl, by simp, HR1.out, HB1.out⟩
  case round =>
    obtain ⟨k, line', hk, rfl, hfind, hrep, hb⟩ := hrel
    have HR := hide hrep
    have HB := hide hb
    by_cases hlt : k < wl
    · have hlt' : k < (Tm.wLines lns).length := by rw [HWL.out]; exact hlt
      obtain ⟨g, off, x1, x2, rfl, hg, c0, c1, c2, hseq⟩ := weighed_at hrep.wt hlt'
      have HMORE := hide (fun hx => find_more (p := fun o => o.els.any (Tm.highEl b)) hfind hlt' hx)
      have HHERE := hide (fun hx => find_here (p := fun o => o.els.any (Tm.highEl b)) hfind hlt' hx)
      have hmem : (Tm.wLines lns)[k] ∈ lns := (List.mem_filter.1 (List.getElem_mem hlt')).1
      have hfit := hrep.fit _ hmem
      have e1 := hrep.dr.c1
      have ef := hrep.dr.free
      have el := hrep.dr.lt
      have bn : ¬ bd = wr.heap.size := by omega
      have bn' : ¬ wr.heap.size = bd := by omega
      have gn : ¬ g = wr.heap.size := by omega
      generalize hol : (Tm.wLines lns)[k] = o at *
      have r1 := hseq.1.1
      have r2 := hseq.2.1
      obtain ⟨a1, cap1, rfl⟩ := r1.shape
      obtain ⟨a2, cap2, rfl⟩ := r2.shape
      have HSQ := hide hseq
      have hel := hfit.els
      have HW : Hid (Rep ((wr.setCell ⟨bd, 1, none⟩ (.int .i64 o.num)).alloc (.cells #[.int .i64 o.num, .slice a1 o.runes.length cap1, .slice a2 o.els.length cap2] 240)) col base bd bm o.num vp (.slice (some ⟨g, off, none⟩) wl cap) lns) := (HR.out.at_line o.num).below ((Below.refl _ _).alloc (Nat.le_refl _) _)
      have HWB : Hid (Sole base bm w ((wr.setCell ⟨bd, 1, none⟩ (.int .i64 o.num)).alloc (.cells #[.int .i64 o.num, .slice a1 o.runes.length cap1, .slice a2 o.els.length cap2] 240))) := (HB.out.setCell (p := ⟨bd, 1, none⟩) HR.out.dr.from_ _).alloc (by have := HR.out.dr.from_; simp [World.setCell]; omega) _
      have HKX : Hid (Keeps wr ((wr.setCell ⟨bd, 1, none⟩ (.int .i64 o.num)).alloc (.cells #[.int .i64 o.num, .slice a1 o.runes.length cap1, .slice a2 o.els.length cap2] 240)) col col (· ≠ -3)) :=
        ⟨by simp [World.setCell], fun j hj hc => by rw [Below.heap_alloc _ _ _ (by simpa [World.setCell] using hj), Below.heap_setCell _ _ _ _ (by simp only; intro e; subst e; exact hc HR.out.dr.hue)], fun _ _ => rfl⟩
      have HRX := hide (HSQ.out.2.keep HKX.out (by decide)).1
      clear hfind hrep hb hmem hfit hol r1 r2 hseq
      go_wp2_with fail
      generalize ((wr.setCell ⟨bd, 1, none⟩ (.int .i64 o.num)).alloc (.cells #[.int .i64 o.num, .slice a1 o.runes.length cap1, .slice a2 o.els.length cap2] 240)) = wx at *
      go_loopw [27] (fun i wi => ∃ j : Nat, j ≤ o.els.length ∧ i = .int .i64 j ∧ (o.els.take j).any (Tm.highEl b) = false ∧ Below wx.heap.size wx wi) (fun i _ => o.els.length - (intOf i).toNat)
      case atStart => exact ⟨0, Nat.zero_le _, rfl, by simp, Below.refl _ _⟩
      case round =>
        obtain ⟨j, hj, rfl, hno, hb2⟩ := hrel
        have HB2 := hide hb2
        have hz2 := hb2.size
        have HRI := hide (HW.out.below hb2)
        have HBI : Hid (Sole base bm w wr) := HWB.out.then (hb2.mono (by have h1 := HW.out.dr.from_; have h2 := HW.out.dr.lt; omega))
        by_cases hjt : j < o.els.length
        · obtain ⟨g2, off2, rfl, hg2, q0, q1, q2, q3⟩ := els_at HRX.out hjt
          have hcc : ∀ o, wr.cell? ⟨g2, o, none⟩ = wx.cell? ⟨g2, o, none⟩ := fun o => hb2.cell (p := ⟨g2, o, none⟩) hg2
          rw [← hcc] at q0 q1 q2 q3
          have HS2 := hide (fun hx => anyEl_step (p := Tm.highEl b) hno hjt hx)
          have HH2 := hide (fun hx => anyEl_hit (p := Tm.highEl b) hjt hx)
          have g2n : ¬ g2 = wr.heap.size := by omega
          generalize hxx : o.els[j] = x at *
          have HB3 : Hid (Below wx.heap.size wx (wr.alloc (.cells #[.int .i64 x.p, .int .i64 x.s, .int .i64 x.t, .bool x.v] 102))) := HB2.out.alloc hz2 _
          clear hcc hb2 hno hxx
          have hne : ∀ q : Bool, Tm.highEl b x = q → q = (x.v && decide (b ≤ x.p)) := fun q hq => hq.symm
          cases hv : x.v
          · have HS3 := hide (HS2.out (by unfold Tm.highEl; rw [hv]; rfl))
            clear HS2 HH2 hne
            go_wp2_with fail
            refine (refuse_no 4 _).mono ?_
            rintro e w' ⟨rfl, rfl⟩
            go_wp2
            go_roundw
            case rel => exact ⟨j + 1, by omega, by go_num, HS3.out, by rw [← hv]; exact HB3.out⟩
            case measure => simp [intOf]; omega
          · cases hge : decide (b ≤ x.p)
            · have HS3 := hide (HS2.out (by unfold Tm.highEl; rw [hv, hge]; rfl))
              clear HS2 HH2 hne
              go_wp2_with fail
              refine (refuse_no 4 _).mono ?_
              rintro e w' ⟨rfl, rfl⟩
              go_wp2
              go_roundw
              case rel => exact ⟨j + 1, by omega, by go_num, HS3.out, by rw [← hv]; exact HB3.out⟩
              case measure => simp [intOf]; omega
            · have HH3 := hide (HH2.out (by unfold Tm.highEl; rw [hv, hge]; rfl))
              have HN : Hid (lns.find? (Tm.badWeight lns) = some o) := by unfold Hid; rw [← HFIND.out]; exact HHERE.out HH3.out
              clear HS2 HH2 hne
              go_wp2_with fail
              refine (refuse_yes 4 _).mono ?_
              rintro e w' ⟨rfl, rfl⟩
              go_wp2
              exact ⟨rfl, checkAns_no HN.out rfl (by rw [← hv]; exact HWB.out.then (HB3.out.mono (by have h1 := HW.out.dr.from_; have h2 := HW.out.dr.lt; omega))) (by rw [← hv, HB3.out.cell (p := ⟨bd, 1, none⟩) HW.out.dr.lt]; exact HW.out.dr.c1)⟩
        · have HS := hide (HMORE.out (by rw [List.take_of_length_le (by omega)] at hno; exact hno))
          clear hb2 hno
          go_wp2
          go_roundw
          case rel => exact ⟨k + 1, o.num, by omega, by go_num, HS.out, HRI.out, HBI.out⟩
          case measure => simp [intOf]; omega
    · have HN : Hid (lns.find? (Tm.badWeight lns) = none) := by
        rw [List.take_of_length_le (by rw [HWL.out]; omega)] at hfind
        unfold Hid; rw [← HFIND.out]; exact hfind
      clear hfind hrep hb
      go_wp2
      go_end0
      exact checkAns_ok HN.out rfl HB.out ⟨_, _, _, _, HR.out⟩
end Go.Proofs.YtmnjjjhmnhfapaaGreatDoor
