import Derived.Deep.RegionWith
import Derived.Test.YtmnjjjhmnhfapaaGreatDoorMCodeCheck
import Derived.Test.YtmnjjjhmnhfapaaGreatDoorMPlain
import Derived.Test.YtmnjjjhmnhfapaaGreatDoorMCodeSeqs
import Derived.Test.YtmnjjjhmnhfapaaGreatDoorMCodeCatch
namespace Go.Proofs.YtmnjjjhmnhfapaaGreatDoor
open Go.RowKit

/-- A slice value reads as the lines w. -/
def WsRd (w : World) (v : Value) (ls : List Tm.Ln) : Prop :=
  ∃ a cap, v = .slice a ls.length cap ∧ ∀ k (hk : k < ls.length), ∃ g off x1 x2, a = some ⟨g, off, none⟩ ∧ g < w.heap.size ∧ w.cell? ⟨g, off + k * 3, none⟩ = some (.int .i64 ls[k].num) ∧ w.cell? ⟨g, off + k * 3 + 1, none⟩ = some x1 ∧ w.cell? ⟨g, off + k * 3 + 2, none⟩ = some x2 ∧
    Reads w x1 1 ls[k].runes.length (ints ls[k].runes) ∧ Reads w x2 4 ls[k].els.length (elsCells ls[k].els)
theorem Wt.rd {w : World} {col : Nat → Int} {base : Nat} {v : Value} {lns : List Tm.Ln} (h : Wt w col base v lns) : WsRd w v (Tm.wLines lns) := by
  obtain ⟨xs, hl, hr, hok⟩ := h
  obtain ⟨a, cap, rfl⟩ := (Reads.of_owns hr.1).shape
  refine ⟨a, cap, rfl, fun k hk => ?_⟩
  have hk' : k < xs.length := by omega
  have hlen : (seqCells true xs (Tm.wLines lns)).length = (Tm.wLines lns).length * 3 := hr.1.1
  obtain ⟨g, off, cap', he, hg, hc⟩ := (Reads.of_owns hr.1).form (by omega)
  cases he
  refine ⟨g, off, xs[k].1, xs[k].2, rfl, hg, ?_, ?_, ?_, (hok k hk hk').1.1, (hok k hk hk').2.1⟩
  · exact hc (k * 3) _ (by have := seqCells_get3 hl hk hk' (f := 0) (by omega); simpa using this)
  · exact hc (k * 3 + 1) _ (by have := seqCells_get3 hl hk hk' (f := 1) (by omega); simpa using this)
  · exact hc (k * 3 + 2) _ (by have := seqCells_get3 hl hk hk' (f := 2) (by omega); simpa using this)
theorem WsRd.below {w w' : World} {v : Value} {ls : List Tm.Ln} (h : WsRd w v ls) (hb : Below w.heap.size w w') : WsRd w' v ls := by
  obtain ⟨a, cap, rfl, hc⟩ := h
  refine ⟨a, cap, rfl, fun k hk => ?_⟩
  obtain ⟨g, off, x1, x2, rfl, hg, c0, c1, c2, h1, h2⟩ := hc k hk
  exact ⟨g, off, x1, x2, rfl, Nat.lt_of_lt_of_le hg hb.size, by rw [hb.cell (p := ⟨g, off + k * 3, none⟩) hg]; exact c0, by rw [hb.cell (p := ⟨g, off + k * 3 + 1, none⟩) hg]; exact c1, by rw [hb.cell (p := ⟨g, off + k * 3 + 2, none⟩) hg]; exact c2, h1.below hb h1.2.1, h2.below hb h2.2.1⟩

theorem leastEls_range {els : List Tm.El} (h : ∀ e ∈ els, 0 ≤ e.p ∧ e.p ≤ 65535) {m : Int} (hm : 0 ≤ m ∧ m ≤ 65536) : 0 ≤ Tm.leastEls els m ∧ Tm.leastEls els m ≤ 65536 := by
  induction els generalizing m with
  | nil => exact hm
  | cons x r ih =>
    have : Tm.leastEls (x :: r) m = Tm.leastEls r (Tm.leastEl m x) := rfl
    rw [this]
    refine ih (fun e he => h e (by simp [he])) ?_
    have hx := h x (by simp)
    unfold Tm.leastEl
    split <;> omega

set_option maxRecDepth 100000 in
set_option maxHeartbeats 2000000 in
theorem leastPrimary_any (lns : List Tm.Ln) (vw : Value) (bd : Nat) (w : World) (hc : w.cell? ⟨bd, 3, none⟩ = some vw) (hw : WsRd w vw (Tm.wLines lns)) (hf : ∀ o ∈ lns, Tm.Fit o) (hn : lns.length ≤ 8192) :
    Calls Tryz.prog 159 #[.pointer (some ⟨bd, 0, none⟩)] w fun e w' => e = .returned (.int .i64 (Tm.bound lns)) ∧ Below w.heap.size w w' := by
  obtain ⟨ls, hls⟩ : ∃ ls, Tm.wLines lns = ls := ⟨_, rfl⟩
  have HB0 : Hid (Tm.bound lns = Tm.leastLns ls 65536) := by unfold Hid Tm.bound; rw [hls]
  have hle := wLines_le lns
  have HWT : Hid (∀ o ∈ ls, ∀ e ∈ o.els, 0 ≤ e.p ∧ e.p ≤ 65535) := fun o ho e he => ((hf o (by rw [← hls] at ho; exact (List.mem_filter.1 ho).1)).weight e he).1
  have HFW : Hid (∀ o ∈ ls, o.els.length ≤ 4) := fun o ho => (hf o (by rw [← hls] at ho; exact (List.mem_filter.1 ho).1)).els
  rw [hls] at hw hle
  have HW := hide hw
  obtain ⟨a, cap, rfl, _⟩ := hw
  clear hls hf
  go_enter Tryz.func159, Tryz.ntmps159
  go_wp2
  go_loopw [3, 13] (fun m i wr => ∃ (k : Nat) (q : Int), k ≤ ls.length ∧ i = .int .i64 k ∧ m = .int .i64 q ∧ q = Tm.leastLns (ls.take k) 65536 ∧ (0 ≤ q ∧ q ≤ 65536) ∧ Below w.heap.size w wr) (fun _ i _ => ls.length - (intOf i).toNat)
  case atStart => exact ⟨0, 65536, Nat.zero_le _, rfl, rfl, rfl, by omega, Below.refl _ _⟩
  case round =>
    obtain ⟨k, q, hk, rfl, rfl, hq, hqr, hb⟩ := hrel
    have HB := hide hb
    have HQ := hide hq
    have hz := hb.size
    clear hq
    by_cases hlt : k < ls.length
    · obtain ⟨a', cap', he, hcs⟩ := HW.out
      cases he
      obtain ⟨g, off, x1, x2, rfl, hg, c0, c1, c2, r1, r2⟩ := hcs k hlt
      have hcc : ∀ o, wr.cell? ⟨g, o, none⟩ = w.cell? ⟨g, o, none⟩ := fun o => hb.cell (p := ⟨g, o, none⟩) hg
      rw [← hcc] at c0 c1 c2
      obtain ⟨a1, cap1, rfl⟩ := r1.shape
      obtain ⟨a2, cap2, rfl⟩ := r2.shape
      have HST := hide (Tm.leastLns_snoc (m := 65536) hlt)
      have HEW := hide (HWT.out _ (List.getElem_mem hlt))
      have hel := HFW.out _ (List.getElem_mem hlt)
      have gn : ¬ g = wr.heap.size := by omega
      generalize ls[k].els = els at *
      generalize ls[k].num = num at *
      generalize ls[k].runes.length = rl at *
      have R2 := hide r2
      have HB1 : Hid (Below w.heap.size w (wr.alloc (.cells #[.int .i64 num, .slice a1 rl cap1, .slice a2 els.length cap2] 240))) := HB.out.alloc hz _
      clear hcs hb r1 r2 hcc
      go_wp2_with fail
      go_loopw [3, 21] (fun m i wi => ∃ (j : Nat) (p : Int), j ≤ els.length ∧ i = .int .i64 j ∧ m = .int .i64 p ∧ p = Tm.leastEls (els.take j) q ∧ (0 ≤ p ∧ p ≤ 65536) ∧ Below w.heap.size w wi) (fun _ i _ => els.length - (intOf i).toNat)
      case atStart => exact ⟨0, q, Nat.zero_le _, rfl, rfl, rfl, hqr, HB1.out⟩
      case round =>
        obtain ⟨j, p, hj, rfl, rfl, hp, hpr, hb2⟩ := hrel
        have HB2 := hide hb2
        have HP := hide hp
        have hz2 := hb2.size
        clear hp
        by_cases hjt : j < els.length
        · obtain ⟨g2, off2, rfl, hg2, e0, e1, e2, e3⟩ := els_at R2.out hjt
          have hcc : ∀ o, wr.cell? ⟨g2, o, none⟩ = w.cell? ⟨g2, o, none⟩ := fun o => hb2.cell (p := ⟨g2, o, none⟩) hg2
          rw [← hcc] at e0 e1 e2 e3
          have HS2 := hide (Tm.leastEls_snoc (m := q) hjt)
          have hx := HEW.out _ (List.getElem_mem hjt)
          have g2n : ¬ g2 = wr.heap.size := by omega
          generalize els[j] = x at *
          clear hcc hb2
          have HB3 : Hid (Below w.heap.size w (wr.alloc (.cells #[.int .i64 x.p, .int .i64 x.s, .int .i64 x.t, .bool x.v] 102))) := HB2.out.alloc hz2 _
          cases hv : x.v
          · cases hp0 : (x.p != 0)
            · have HE : Hid (Tm.leastEl p x = p) := by unfold Hid Tm.leastEl; rw [hv, hp0]; rfl
              go_wp2
              go_roundw
              case rel => exact ⟨j + 1, p, by omega, by go_num, rfl, by rw [HS2.out, ← HP.out, HE.out], hpr, by rw [← hv]; exact HB3.out⟩
              case measure => simp [intOf]; omega
            · have HE : Hid (Tm.leastEl p x = min p x.p) := by unfold Hid Tm.leastEl; rw [hv, hp0]; rfl
              go_wp2
              go_roundw
              case rel => exact ⟨j + 1, min p x.p, by omega, by go_num, by go_num, by rw [HS2.out, ← HP.out, HE.out], by omega, by rw [← hv]; exact HB3.out⟩
              case measure => simp [intOf]; omega
          · have HE : Hid (Tm.leastEl p x = p) := by unfold Hid Tm.leastEl; rw [hv]; rfl
            go_wp2
            go_roundw
            case rel => exact ⟨j + 1, p, by omega, by go_num, rfl, by rw [HS2.out, ← HP.out, HE.out], hpr, by rw [← hv]; exact HB3.out⟩
            case measure => simp [intOf]; omega
        · have HE : Hid (p = Tm.leastLns (ls.take (k + 1)) 65536) := by unfold Hid; rw [HST.out, ← HQ.out, HP.out, List.take_of_length_le (by omega)]
          clear hb2
          go_wp2
          go_roundw
          case rel => exact ⟨k + 1, p, by omega, by go_num, rfl, HE.out, hpr, HB2.out⟩
          case measure => simp [intOf]; omega
    · have HF : Hid (Tm.bound lns = q) := by unfold Hid; rw [HB0.out, HQ.out, List.take_of_length_le (by omega)]
      clear hb
      go_wp2
      go_ret
      exact ⟨ret_int HF.out.symm, HB.out⟩
end Go.Proofs.YtmnjjjhmnhfapaaGreatDoor
namespace Go.Proofs.YtmnjjjhmnhfapaaGreatDoor
open Go.RowKit

theorem weighed_at {w : World} {col : Nat → Int} {base : Nat} {a : Option Addr} {m cap : Nat} {lns : List Tm.Ln} (h : Wt w col base (.slice a m cap) lns) {k : Nat} (hk : k < (Tm.wLines lns).length) :
    ∃ g off x1 x2, a = some ⟨g, off, none⟩ ∧ g < w.heap.size ∧ w.cell? ⟨g, off + k * 3, none⟩ = some (.int .i64 (Tm.wLines lns)[k].num) ∧ w.cell? ⟨g, off + k * 3 + 1, none⟩ = some x1 ∧ w.cell? ⟨g, off + k * 3 + 2, none⟩ = some x2 ∧
      SeqOk w col (x1, x2) (Tm.wLines lns)[k] := by
  obtain ⟨xs, hl, hr, hok⟩ := h
  have hk' : k < xs.length := by omega
  have hlen : (seqCells true xs (Tm.wLines lns)).length = (Tm.wLines lns).length * 3 := hr.1.1
  obtain ⟨g, off, cap', he, hg, hc⟩ := (Reads.of_owns hr.1).form (by omega)
  cases he
  refine ⟨g, off, xs[k].1, xs[k].2, rfl, hg, ?_, ?_, ?_, hok k hk hk'⟩
  · exact hc (k * 3) _ (by have := seqCells_get3 hl hk hk' (f := 0) (by omega); simpa using this)
  · exact hc (k * 3 + 1) _ (by have := seqCells_get3 hl hk hk' (f := 1) (by omega); simpa using this)
  · exact hc (k * 3 + 2) _ (by have := seqCells_get3 hl hk hk' (f := 2) (by omega); simpa using this)
end Go.Proofs.YtmnjjjhmnhfapaaGreatDoor
namespace Go.Proofs.YtmnjjjhmnhfapaaGreatDoor
open Go.RowKit

theorem anyEl_step {els : List Tm.El} {p : Tm.El → Bool} {k : Nat} (h : (els.take k).any p = false) (hk : k < els.length) (hx : p els[k] = false) : (els.take (k + 1)).any p = false := by
  rw [List.take_succ_eq_append_getElem hk, List.any_append, h]
  simp [hx]
theorem anyEl_hit {els : List Tm.El} {p : Tm.El → Bool} {k : Nat} (hk : k < els.length) (hx : p els[k] = true) : els.any p = true :=
  List.any_eq_true.2 ⟨els[k], List.getElem_mem hk, hx⟩

set_option maxRecDepth 100000 in
set_option maxHeartbeats 4000000 in
theorem checkVariables_any (lns : List Tm.Ln) (col : Nat → Int) (base bd bm : Nat) (line : Int) (vp vw : Value) (w : World) (hrep : Rep w col base bd bm line vp vw lns) (hn : lns.length ≤ 8192) :
    Calls Tryz.prog 123 #[.pointer (some ⟨bd, 0, none⟩)] w fun e w' => checkAns (lns.find? (Tm.badWeight lns)) 4 lns base bd bm w e w' := by
  obtain ⟨wl, hwl⟩ : ∃ wl, (Tm.wLines lns).length = wl := ⟨_, rfl⟩
  obtain ⟨a, cap, rfl⟩ : ∃ a cap, vw = .slice a wl cap := by
    obtain ⟨xs, hl, hr, hok⟩ := hrep.wt
    rw [← hwl]; exact (Reads.of_owns hr.1).shape
  have hdl := wLines_le lns
  have HREP := hide hrep
  have HWL := hide hwl
  have HFIND := hide (Tm.high_find hrep.fit)
  rw [hwl] at hdl
  clear hrep hwl
  go_enter Tryz.func123, Tryz.ntmps123
  go_wp2_with fail
  refine (leastPrimary_any lns _ bd _ HREP.out.dr.c3 HREP.out.wt.rd HREP.out.fit hn).mono ?_
  rintro e w1 ⟨rfl, hb1⟩
  have HR1 := hide (HREP.out.below hb1)
  have HB1 : Hid (Sole base bm w w1) := Sole.of (hb1.mono (by have h1 := HREP.out.dr.from_; have h2 := HREP.out.dr.lt; omega))
  have d3 := HR1.out.dr.c3
  obtain ⟨b, hbnd⟩ : ∃ b, Tm.bound lns = b := ⟨_, rfl⟩
  rw [hbnd] at HFIND
  rw [hbnd]
  clear hb1 hbnd
  go_wp2_with fail
  go_loopw [14] (fun i wr => ∃ (k : Nat) (line' : Int), k ≤ wl ∧ i = .int .i64 k ∧ ((Tm.wLines lns).take k).find? (fun o => o.els.any (Tm.highEl b)) = none ∧ Rep wr col base bd bm line' vp (.slice a wl cap) lns ∧ Sole base bm w wr) (fun i _ => wl - (intOf i).toNat)
  case atStart => exact ⟨0, line, Nat.zero_le _, rfl, by simp, HR1.out, HB1.out⟩
  case round =>
    obtain ⟨k, line', hk, rfl, hfind, hrep, hb⟩ := hrel
    have HR := hide hrep
    have HB := hide hb
    by_cases hlt : k < wl
    · have hlt' : k < (Tm.wLines lns).length := by rw [HWL.out]; exact hlt
      obtain ⟨g, off, x1, x2, rfl, hg, c0, c1, c2, hseq⟩ := weighed_at hrep.wt hlt'
      have HMORE := hide (fun hx => find_more (p := fun o => o.els.any (Tm.highEl b)) hfind hlt' hx)
      have HHERE := hide (fun hx => find_here (p := fun o => o.els.any (Tm.highEl b)) hfind hlt' hx)
      have hmem : (Tm.wLines lns)[k] ∈ lns := (List.mem_filter.1 (List.getElem_mem hlt')).1
      have hfit := hrep.fit _ hmem
      have e1 := hrep.dr.c1
      have ef := hrep.dr.free
      have el := hrep.dr.lt
      have bn : ¬ bd = wr.heap.size := by omega
      have bn' : ¬ wr.heap.size = bd := by omega
      have gn : ¬ g = wr.heap.size := by omega
      generalize hol : (Tm.wLines lns)[k] = o at *
      have r1 := hseq.1.1
      have r2 := hseq.2.1
      obtain ⟨a1, cap1, rfl⟩ := r1.shape
      obtain ⟨a2, cap2, rfl⟩ := r2.shape
      have HSQ := hide hseq
      have hel := hfit.els
      have HW : Hid (Rep ((wr.setCell ⟨bd, 1, none⟩ (.int .i64 o.num)).alloc (.cells #[.int .i64 o.num, .slice a1 o.runes.length cap1, .slice a2 o.els.length cap2] 240)) col base bd bm o.num vp (.slice (some ⟨g, off, none⟩) wl cap) lns) := (HR.out.at_line o.num).below ((Below.refl _ _).alloc (Nat.le_refl _) _)
      have HWB : Hid (Sole base bm w ((wr.setCell ⟨bd, 1, none⟩ (.int .i64 o.num)).alloc (.cells #[.int .i64 o.num, .slice a1 o.runes.length cap1, .slice a2 o.els.length cap2] 240))) := (HB.out.setCell (p := ⟨bd, 1, none⟩) HR.out.dr.from_ _).alloc (by have := HR.out.dr.from_; simp [World.setCell]; omega) _
      have HKX : Hid (Keeps wr ((wr.setCell ⟨bd, 1, none⟩ (.int .i64 o.num)).alloc (.cells #[.int .i64 o.num, .slice a1 o.runes.length cap1, .slice a2 o.els.length cap2] 240)) col col (· ≠ -3)) :=
        ⟨by simp [World.setCell], fun j hj hc => by rw [Below.heap_alloc _ _ _ (by simpa [World.setCell] using hj), Below.heap_setCell _ _ _ _ (by simp only; intro e; subst e; exact hc HR.out.dr.hue)], fun _ _ => rfl⟩
      have HRX := hide (HSQ.out.2.keep HKX.out (by decide)).1
      clear hfind hrep hb hmem hfit hol r1 r2 hseq
      go_wp2_with fail
      generalize ((wr.setCell ⟨bd, 1, none⟩ (.int .i64 o.num)).alloc (.cells #[.int .i64 o.num, .slice a1 o.runes.length cap1, .slice a2 o.els.length cap2] 240)) = wx at *
      go_loopw [27] (fun i wi => ∃ j : Nat, j ≤ o.els.length ∧ i = .int .i64 j ∧ (o.els.take j).any (Tm.highEl b) = false ∧ Below wx.heap.size wx wi) (fun i _ => o.els.length - (intOf i).toNat)
      case atStart => exact ⟨0, Nat.zero_le _, rfl, by simp, Below.refl _ _⟩
      case round =>
        obtain ⟨j, hj, rfl, hno, hb2⟩ := hrel
        have HB2 := hide hb2
        have hz2 := hb2.size
        have HRI := hide (HW.out.below hb2)
        have HBI : Hid (Sole base bm w wr) := HWB.out.then (hb2.mono (by have h1 := HW.out.dr.from_; have h2 := HW.out.dr.lt; omega))
        by_cases hjt : j < o.els.length
        · obtain ⟨g2, off2, rfl, hg2, q0, q1, q2, q3⟩ := els_at HRX.out hjt
          have hcc : ∀ o, wr.cell? ⟨g2, o, none⟩ = wx.cell? ⟨g2, o, none⟩ := fun o => hb2.cell (p := ⟨g2, o, none⟩) hg2
          rw [← hcc] at q0 q1 q2 q3
          have HS2 := hide (fun hx => anyEl_step (p := Tm.highEl b) hno hjt hx)
          have HH2 := hide (fun hx => anyEl_hit (p := Tm.highEl b) hjt hx)
          have g2n : ¬ g2 = wr.heap.size := by omega
          generalize hxx : o.els[j] = x at *
          have HB3 : Hid (Below wx.heap.size wx (wr.alloc (.cells #[.int .i64 x.p, .int .i64 x.s, .int .i64 x.t, .bool x.v] 102))) := HB2.out.alloc hz2 _
          clear hcc hb2 hno hxx
          have hne : ∀ q : Bool, Tm.highEl b x = q → q = (x.v && decide (b ≤ x.p)) := fun q hq => hq.symm
          cases hv : x.v
          · have HS3 := hide (HS2.out (by unfold Tm.highEl; rw [hv]; rfl))
            clear HS2 HH2 hne
            go_wp2_with fail
            refine (refuse_no 4 _).mono ?_
            rintro e w' ⟨rfl, rfl⟩
            go_wp2
            go_roundw
            case rel => exact ⟨j + 1, by omega, by go_num, HS3.out, by rw [← hv]; exact HB3.out⟩
            case measure => simp [intOf]; omega
          · cases hge : decide (b ≤ x.p)
            · have HS3 := hide (HS2.out (by unfold Tm.highEl; rw [hv, hge]; rfl))
              clear HS2 HH2 hne
              go_wp2_with fail
              refine (refuse_no 4 _).mono ?_
              rintro e w' ⟨rfl, rfl⟩
              go_wp2
              go_roundw
              case rel => exact ⟨j + 1, by omega, by go_num, HS3.out, by rw [← hv]; exact HB3.out⟩
              case measure => simp [intOf]; omega
            · have HH3 := hide (HH2.out (by unfold Tm.highEl; rw [hv, hge]; rfl))
              have HN : Hid (lns.find? (Tm.badWeight lns) = some o) := by unfold Hid; rw [← HFIND.out]; exact HHERE.out HH3.out
              clear HS2 HH2 hne
              go_wp2_with fail
              refine (refuse_yes 4 _).mono ?_
              rintro e w' ⟨rfl, rfl⟩
              go_wp2
              exact ⟨rfl, checkAns_no HN.out rfl (by rw [← hv]; exact HWB.out.then (HB3.out.mono (by have h1 := HW.out.dr.from_; have h2 := HW.out.dr.lt; omega))) (by rw [← hv, HB3.out.cell (p := ⟨bd, 1, none⟩) HW.out.dr.lt]; exact HW.out.dr.c1)⟩
        · have HS := hide (HMORE.out (by rw [List.take_of_length_le (by omega)] at hno; exact hno))
          clear hb2 hno
          go_wp2
          go_roundw
          case rel => exact ⟨k + 1, o.num, by omega, by go_num, HS.out, HRI.out, HBI.out⟩
          case measure => simp [intOf]; omega
    · have HN : Hid (lns.find? (Tm.badWeight lns) = none) := by
        rw [List.take_of_length_le (by rw [HWL.out]; omega)] at hfind
        unfold Hid; rw [← HFIND.out]; exact hfind
      clear hfind hrep hb
      go_wp2
      go_end0
      exact checkAns_ok HN.out rfl HB.out ⟨_, _, _, _, HR.out⟩
end Go.Proofs.YtmnjjjhmnhfapaaGreatDoor
namespace Go.Proofs.YtmnjjjhmnhfapaaGreatDoor
open Go.RowKit

set_option maxRecDepth 100000 in
set_option maxHeartbeats 1000000 in
theorem isParted_any (lns : List Tm.Ln) (bd bm : Nat) (r : Int) (w : World) (hc : w.cell? ⟨bd, 0, none⟩ = some (.map (some bm))) (hrd : NodesRd w bm lns) (hr : 0 ≤ r ∧ r ≤ 1114111) :
    Calls Tryz.prog 157 #[.pointer (some ⟨bd, 0, none⟩), .int .i64 r] w fun e w' => e = .returned (.bool (!decide ((Tm.parts lns r).length = 0))) ∧ Below w.heap.size w w' := by
  obtain ⟨f, vp, vs, hmap, hfv, hp, _⟩ := hrd.at hr.1
  have HMAP := hide hmap
  have HP := hide hp
  have hf1 := field_makeup
  clear hmap hp hrd
  go_enter Tryz.func157, Tryz.ntmps157
  go_wp2_with (at_lookup; go_must (refine wpList_look rfl _ _ rfl bm lns.length f rfl HMAP.out r rfl (wf_rune hr) _ hfv ?_))
  refine (hasParts_any _ _ _ _ HP.out).mono ?_
  rintro e w1 ⟨rfl, hb⟩
  have HB := hide hb
  clear hb
  go_wp2
  go_ret
  refine ⟨ret_bool ?_, HB.out⟩
  generalize (Tm.parts lns r).length = m
  cases m <;> simp

theorem anyInt_step {l : List Int} {p : Int → Bool} {k : Nat} (h : (l.take k).any p = false) (hk : k < l.length) (hx : p l[k] = false) : (l.take (k + 1)).any p = false := by
  rw [List.take_succ_eq_append_getElem hk, List.any_append, h]
  simp [hx]
theorem anyInt_hit {l : List Int} {p : Int → Bool} {k : Nat} (hk : k < l.length) (hx : p l[k] = true) : l.any p = true :=
  List.any_eq_true.2 ⟨l[k], List.getElem_mem hk, hx⟩

set_option maxRecDepth 100000 in
set_option maxHeartbeats 1000000 in
theorem IndexFunc_parted (lns : List Tm.Ln) (bd bm : Nat) (vr : Value) (rs : List Int) (w : World) (hbd : bd < w.heap.size) (hc : w.cell? ⟨bd, 0, none⟩ = some (.map (some bm))) (hrd : NodesRd w bm lns) (hr : Reads w vr 1 rs.length (ints rs)) (hrg : ∀ r ∈ rs, 0 ≤ r ∧ r ≤ 1114111) (hl : rs.length ≤ 1000000) :
    Calls Tryz.prog 181 #[vr, .func (.func 157) #[.pointer (some ⟨bd, 0, none⟩)] #[]] w fun e w' => foundAns (Tm.hasParts lns rs) e ∧ Below w.heap.size w w' := by
  obtain ⟨a, cap, rfl⟩ := hr.shape
  have HR := hide hr
  have HG := hide hrg
  have HRD := hide hrd
  have HH : Hid (Tm.hasParts lns rs = rs.any fun r => !decide ((Tm.parts lns r).length = 0)) := rfl
  clear hr hrg hrd
  go_enter Tryz.func181, Tryz.ntmps181
  go_wp2
  go_loopw [8] (fun i wr => ∃ k : Nat, k ≤ rs.length ∧ i = .int .i64 k ∧ ((rs.take k).any fun r => !decide ((Tm.parts lns r).length = 0)) = false ∧ Below w.heap.size w wr) (fun i _ => rs.length - (intOf i).toNat)
  case atStart => exact ⟨0, Nat.zero_le _, rfl, by simp, Below.refl _ _⟩
  case round =>
    obtain ⟨k, hk, rfl, hno, hb⟩ := hrel
    have hz := hb.size
    have HB := hide hb
    by_cases hlt : k < rs.length
    · obtain ⟨g, off, rfl, hg, c0⟩ := HR.out.at hlt
      have hcc : ∀ o, wr.cell? ⟨g, o, none⟩ = w.cell? ⟨g, o, none⟩ := fun o => hb.cell (p := ⟨g, o, none⟩) hg
      rw [← hcc] at c0
      have hcw : wr.cell? ⟨bd, 0, none⟩ = some (.map (some bm)) := by rw [hb.cell (p := ⟨bd, 0, none⟩) hbd]; exact hc
      have HS := hide (fun hx => anyInt_step (p := fun r => !decide ((Tm.parts lns r).length = 0)) hno hlt hx)
      have HY := hide (fun hx => anyInt_hit (p := fun r => !decide ((Tm.parts lns r).length = 0)) hlt hx)
      have hrr := HG.out _ (List.getElem_mem hlt)
      generalize rs[k] = x at *
      clear hcc hb hno
      go_wp2_with fail
      refine (isParted_any lns bd bm x _ hcw (HRD.out.below HB.out) hrr).mono ?_
      rintro e w1 ⟨rfl, hb1⟩
      have HB1 : Hid (Below w.heap.size w w1) := HB.out.trans (hb1.mono hz)
      clear hb1
      generalize hq : (!decide ((Tm.parts lns x).length = 0)) = q at *
      cases q
      · have HS' := hide (HS.out rfl)
        clear hq
        go_wp2
        go_roundw
        case rel => exact ⟨k + 1, by omega, by go_num, HS'.out, HB1.out⟩
        case measure => simp [intOf]; omega
      · have HY' := hide (HY.out rfl)
        clear hq
        go_wp2
        go_ret
        exact ⟨⟨k, rfl, by rw [HH.out, HY'.out]; simp⟩, HB1.out⟩
    · have HN : Hid (Tm.hasParts lns rs = false) := by
        rw [List.take_of_length_le (by omega)] at hno
        unfold Hid; rw [HH.out]; exact hno
      clear hno hb
      go_wp2
      go_ret
      exact ⟨⟨-1, rfl, by rw [HN.out]; rfl⟩, HB.out⟩
set_option maxRecDepth 100000 in
theorem ContainsFunc_parted (lns : List Tm.Ln) (bd bm : Nat) (vr : Value) (rs : List Int) (w : World) (hbd : bd < w.heap.size) (hc : w.cell? ⟨bd, 0, none⟩ = some (.map (some bm))) (hrd : NodesRd w bm lns) (hr : Reads w vr 1 rs.length (ints rs)) (hrg : ∀ r ∈ rs, 0 ≤ r ∧ r ≤ 1114111) (hl : rs.length ≤ 1000000) :
    Calls Tryz.prog 156 #[vr, .func (.func 157) #[.pointer (some ⟨bd, 0, none⟩)] #[]] w fun e w' => e = .returned (.bool (Tm.hasParts lns rs)) ∧ Below w.heap.size w w' := by
  go_enter Tryz.func156, Tryz.ntmps156
  go_wp2_with fail
  refine (IndexFunc_parted lns bd bm vr rs _ hbd hc hrd hr hrg hl).mono ?_
  rintro e w1 ⟨⟨i, rfl, hi⟩, hb⟩
  have HI := hide hi
  clear hi
  go_wp2
  go_ret
  exact ⟨ret_bool HI.out, hb⟩

/-- Is a line w one whose runes cannot be? -/
def unled (lns : List Tm.Ln) (o : Tm.Ln) : Bool := Tm.hasParts lns o.runes || (decide (o.runes.length = 3) && (Tm.seqOf lns (o.runes.take 2)).isNone)
theorem unled_find (lns : List Tm.Ln) : (Tm.wLines lns).find? (unled lns) = lns.find? (Tm.badPrefix lns) := by
  unfold Tm.wLines
  rw [List.find?_filter]
  congr 1
  funext o
  rw [Tm.badPrefix, unled]
  generalize (Tm.hasParts lns o.runes || (decide (o.runes.length = 3) && (Tm.seqOf lns (o.runes.take 2)).isNone)) = q
  generalize decide (o.kind = [119]) = p
  cases p <;> cases q <;> rfl
set_option maxRecDepth 100000 in
set_option maxHeartbeats 4000000 in
theorem checkPrefixes_any (lns : List Tm.Ln) (col : Nat → Int) (base bd bm : Nat) (line : Int) (vp vw : Value) (w : World) (hrep : Rep w col base bd bm line vp vw lns) (hn : lns.length ≤ 8192) :
    Calls Tryz.prog 122 #[.pointer (some ⟨bd, 0, none⟩)] w fun e w' => checkAns (lns.find? (Tm.badPrefix lns)) 5 lns base bd bm w e w' := by
  obtain ⟨wl, hwl⟩ : ∃ wl, (Tm.wLines lns).length = wl := ⟨_, rfl⟩
  obtain ⟨a, cap, rfl⟩ : ∃ a cap, vw = .slice a wl cap := by
    obtain ⟨xs, hl, hr, hok⟩ := hrep.wt
    rw [← hwl]; exact (Reads.of_owns hr.1).shape
  have hdl := wLines_le lns
  have d3 := hrep.dr.c3
  have HREP := hide hrep
  have HWL := hide hwl
  rw [hwl] at hdl
  clear hrep hwl
  go_enter Tryz.func122, Tryz.ntmps122
  go_wp2
  go_loopw [9] (fun i wr => ∃ (k : Nat) (line' : Int), k ≤ wl ∧ i = .int .i64 k ∧ ((Tm.wLines lns).take k).find? (unled lns) = none ∧ Rep wr col base bd bm line' vp (.slice a wl cap) lns ∧ Sole base bm w wr) (fun i _ => wl - (intOf i).toNat)
  case atStart => exact ⟨0, line, Nat.zero_le _, rfl, by simp, HREP.out, Sole.refl _ _ _⟩
  case round =>
    obtain ⟨k, line', hk, rfl, hfind, hrep, hb⟩ := hrel
    have HR := hide hrep
    have HB := hide hb
    by_cases hlt : k < wl
    · have hlt' : k < (Tm.wLines lns).length := by rw [HWL.out]; exact hlt
      obtain ⟨g, off, x1, x2, rfl, hg, c0, c1, c2, hseq⟩ := weighed_at hrep.wt hlt'
      have HMORE := hide (fun hx => find_more (p := unled lns) hfind hlt' hx)
      have HHERE := hide (fun hx => find_here (p := unled lns) hfind hlt' hx)
      have hmem : (Tm.wLines lns)[k] ∈ lns := (List.mem_filter.1 (List.getElem_mem hlt')).1
      have hfit := hrep.fit _ hmem
      have e1 := hrep.dr.c1
      have ef := hrep.dr.free
      have e0 := hrep.dr.c0
      have el := hrep.dr.lt
      have bn : ¬ bd = wr.heap.size := by omega
      have bn' : ¬ wr.heap.size = bd := by omega
      have gn : ¬ g = wr.heap.size := by omega
      generalize hol : (Tm.wLines lns)[k] = o at *
      have r1 := hseq.1.1
      have r2 := hseq.2.1
      obtain ⟨a1, cap1, rfl⟩ := r1.shape
      obtain ⟨a2, cap2, rfl⟩ := r2.shape
      obtain ⟨g1, off1, rfl, hg1, hcx⟩ := r1.at (k := 0) (List.length_pos_iff.2 hfit.some)
      have HSQ := hide hseq
      have HFIT := hide hfit
      have HW : Hid (Rep ((wr.setCell ⟨bd, 1, none⟩ (.int .i64 o.num)).alloc (.cells #[.int .i64 o.num, .slice (some ⟨g1, off1, none⟩) o.runes.length cap1, .slice a2 o.els.length cap2] 240)) col base bd bm o.num vp (.slice (some ⟨g, off, none⟩) wl cap) lns) := (HR.out.at_line o.num).below ((Below.refl _ _).alloc (Nat.le_refl _) _)
      have HWB : Hid (Sole base bm w ((wr.setCell ⟨bd, 1, none⟩ (.int .i64 o.num)).alloc (.cells #[.int .i64 o.num, .slice (some ⟨g1, off1, none⟩) o.runes.length cap1, .slice a2 o.els.length cap2] 240))) := (HB.out.setCell (p := ⟨bd, 1, none⟩) HR.out.dr.from_ _).alloc (by have := HR.out.dr.from_; simp [World.setCell]; omega) _
      clear hcx
      clear hfind hrep hb hmem hfit hol r1 r2 hseq
      have HKX : Hid (Keeps wr ((wr.setCell ⟨bd, 1, none⟩ (.int .i64 o.num)).alloc (.cells #[.int .i64 o.num, .slice (some ⟨g1, off1, none⟩) o.runes.length cap1, .slice a2 o.els.length cap2] 240)) col col (· ≠ -3)) :=
        ⟨by simp [World.setCell], fun j hj hc => by rw [Below.heap_alloc _ _ _ (by simpa [World.setCell] using hj), Below.heap_setCell _ _ _ _ (by simp only; intro e; subst e; exact hc HR.out.dr.hue)], fun _ _ => rfl⟩
      have HRX := hide (HSQ.out.1.keep HKX.out (by decide)).1
      have x1 : ((wr.setCell ⟨bd, 1, none⟩ (.int .i64 o.num)).alloc (.cells #[.int .i64 o.num, .slice (some ⟨g1, off1, none⟩) o.runes.length cap1, .slice a2 o.els.length cap2] 240)).cell? ⟨wr.heap.size, 1, none⟩ = some (.slice (some ⟨g1, off1, none⟩) o.runes.length cap1) := by rw [cell_new (by simp [World.setCell])]; rfl
      have hsx : wr.heap.size < ((wr.setCell ⟨bd, 1, none⟩ (.int .i64 o.num)).alloc (.cells #[.int .i64 o.num, .slice (some ⟨g1, off1, none⟩) o.runes.length cap1, .slice a2 o.els.length cap2] 240)).heap.size := by simp [World.setCell]
      go_wp2_with fail
      generalize ((wr.setCell ⟨bd, 1, none⟩ (.int .i64 o.num)).alloc (.cells #[.int .i64 o.num, .slice (some ⟨g1, off1, none⟩) o.runes.length cap1, .slice a2 o.els.length cap2] 240)) = wx at *
      have hfew := HFIT.out.few
      have HLX := hide HW.out.dr.lt
      refine (ContainsFunc_parted lns bd bm _ o.runes _ HW.out.dr.lt HW.out.dr.c0 HW.out.nd.rd HRX.out HFIT.out.rune (by omega)).mono ?_
      rintro e wy ⟨rfl, hby⟩
      have hsy := hby.size
      have HRY : Hid (Rep wy col base bd bm o.num vp (.slice (some ⟨g, off, none⟩) wl cap) lns) := HW.out.below hby
      have HBY : Hid (Sole base bm w wy) := HWB.out.then (hby.mono (by have h1 := HW.out.dr.from_; have h2 := HW.out.dr.lt; omega))
      have y1 : wy.cell? ⟨wr.heap.size, 1, none⟩ = some (.slice (some ⟨g1, off1, none⟩) o.runes.length cap1) := by rw [hby.cell (p := ⟨wr.heap.size, 1, none⟩) hsx]; exact x1
      have HRDY := hide (HRX.out.below hby HRX.out.2.1)
      have z0 := HRY.out.dr.c0
      have z1 := HRY.out.dr.c1
      clear hby
      cases hpp : Tm.hasParts lns o.runes
      case true =>
        have HN : Hid (lns.find? (Tm.badPrefix lns) = some o) := by unfold Hid; rw [← unled_find]; exact HHERE.out (by unfold unled; rw [hpp]; rfl)
        clear HMORE HHERE
        go_wp2_with fail
        refine (refuse_yes 5 _).mono ?_
        rintro e w' ⟨rfl, rfl⟩
        go_wp2
        exact ⟨rfl, checkAns_no HN.out rfl HBY.out z1⟩
      have HUN : Hid (unled lns o = (decide (o.runes.length = 3) && (Tm.seqOf lns (o.runes.take 2)).isNone)) := by unfold Hid unled; rw [hpp]; rfl
      go_wp2_with fail
      refine (refuse_no 5 _).mono ?_
      rintro e wy' ⟨rfl, rfl⟩
      go_wp2_with fail
      by_cases h3 : o.runes.length = 3
      · have hd3 : ((o.runes.length : Int) == 3) = true := by rw [h3]; rfl
        have hfx := HRDY.out.fits
        have hc2 : 3 ≤ cap1 := by have := hfx.2.1; omega
        have hc3 : cap1 ≤ 9223372036854775807 := by have := hfx.2.2; unfold maxLen at this; omega
        have hc4 : (2 : Int) ≤ (cap1 : Int) := by omega
        have HTWO := hide (HRDY.out.two (k := 2) (by omega))
        have hcall : ∀ wz, Below wy'.heap.size wy' wz → Calls Tryz.prog 158 #[.map (some bm), .slice (some ⟨g1, off1, none⟩) 2 cap1] wz fun e w' => e = .returned (.bool (!(Tm.seqOf lns (o.runes.take 2)).isNone)) ∧ Below wz.heap.size wz w' := fun wz hz =>
          hasSequence_any lns bm _ (o.runes.take 2) wz (HRY.out.nd.rd.below hz) (HTWO.out.below hz HTWO.out.2.1) (by simp; omega) (fun r hr => HFIT.out.rune r (List.mem_of_mem_take hr)) (by simp; omega) hn HRY.out.fit
        obtain ⟨nn, hnn⟩ : ∃ nn, (Tm.seqOf lns (o.runes.take 2)).isNone = nn := ⟨_, rfl⟩
        rw [hnn] at hcall HUN
        have HCALL := hide hcall
        clear hcall hfx hnn
        cases nn
        · have HS := hide (HMORE.out (by rw [HUN.out]; simp))
          clear HMORE HHERE
          go_region_with (first | (go_at_call 158; refine (HCALL.out _ (Below.refl _ _).drew).mono ?_; rintro e wz ⟨rfl, hbz⟩; have HBZ : Hid (Below wy'.heap.size wy' wz) := (Below.refl _ _).drew.trans hbz; clear hbz) | (go_at_call 154; refine (refuse_no 5 _).mono ?_; rintro e wq ⟨rfl, rfl⟩))
          all_goals go_wp2
          all_goals go_roundw
          all_goals first
            | exact ⟨k + 1, o.num, by omega, by go_num, HS.out, HRY.out.below HBZ.out, HBY.out.then (HBZ.out.mono (by have h1 := HRY.out.dr.from_; have h2 := HRY.out.dr.lt; omega))⟩
            | (simp [intOf]; omega)
        · have HN : Hid (lns.find? (Tm.badPrefix lns) = some o) := by unfold Hid; rw [← unled_find]; exact HHERE.out (by rw [HUN.out]; simp [h3])
          clear HMORE HHERE
          go_region_dies
          all_goals go_wp2_with (go_at_call 158; refine (HCALL.out _ (Below.refl _ _).drew).mono ?_; rintro e wz ⟨rfl, hbz⟩; have HBZ : Hid (Below wy'.heap.size wy' wz) := (Below.refl _ _).drew.trans hbz; clear hbz)
          all_goals (refine wpAny_ready (rs := [15]) (by decide +kernel) (by simp) ?_; refine AllReady.cons rfl (fun K hK => ?_) ?_; go_simp; refine hK _ _ ?_; clear hK K; rotate_left; exact AllReady.nil)
          all_goals (refine wpAny_ready (rs := [16]) (by decide +kernel) (by simp) ?_; refine AllReady.cons rfl (fun K hK => ?_) ?_; go_simp; refine hK _ _ ?_; clear hK K; rotate_left; exact AllReady.nil)
          all_goals (refine wpAny_ready (rs := [17]) (by decide +kernel) (by simp) ?_; refine AllReady.cons rfl (fun K hK => ?_) ?_; go_simp; rotate_left; exact AllReady.nil)
          all_goals (go_at_call 154; refine (refuse_yes 5 _).mono ?_; rintro e w' ⟨rfl, rfl⟩; exact ⟨rfl, checkAns_no HN.out rfl (HBY.out.then (HBZ.out.mono (by have h1 := HRY.out.dr.from_; have h2 := HRY.out.dr.lt; omega))) (by rw [HBZ.out.cell (p := ⟨bd, 1, none⟩) HRY.out.dr.lt]; exact z1)⟩)
      · have hd3 : ((o.runes.length : Int) == 3) = false := by rw [beq_eq_false_iff_ne]; omega
        have HS := hide (HMORE.out (by rw [HUN.out]; simp [h3]))
        clear HMORE HHERE
        go_quiet (first | (go_at_call 154; refine Calls.quiet_of_same (refuse_no 5 _)))
        go_wp2
        go_roundw
        case rel => exact ⟨k + 1, o.num, by omega, by go_num, HS.out, HRY.out.below ⟨rfl, rfl, rfl, Nat.le_refl _, fun _ _ => rfl⟩, HBY.out.then ⟨rfl, rfl, rfl, Nat.le_refl _, fun _ _ => rfl⟩⟩
        case measure => simp [intOf]; omega
    · have HN : Hid (lns.find? (Tm.badPrefix lns) = none) := by
        rw [List.take_of_length_le (by rw [HWL.out]; omega)] at hfind
        unfold Hid; rw [← unled_find]; exact hfind
      clear hfind hrep hb
      go_wp2
      go_end0
      exact checkAns_ok HN.out rfl HB.out ⟨_, _, _, _, HR.out⟩
end Go.Proofs.YtmnjjjhmnhfapaaGreatDoor
namespace Go.Proofs.YtmnjjjhmnhfapaaGreatDoor
open Go.RowKit

/-- The line and the error of a table. -/
def tableErr (s : List UInt8) : Int × Int := match Tm.readLines [] 1 (Tm.split 10 s) with
  | (_, some (n, e)) => (n, e)
  | (lns, none) => Tm.together lns

theorem readLines_err : ∀ (xs : List (List UInt8)) (lns l : List Tm.Ln) (n m q : Int), Tm.readLines lns n xs = (l, some (m, q)) → q ≠ 0
  | [], lns, l, n, m, q, h => by simp [Tm.readLines] at h
  | x :: r, lns, l, n, m, q, h => by
    rw [Tm.readLines] at h
    split at h
    · exact readLines_err r _ _ _ _ _ h
    · split at h
      · simp at h; omega
      · split at h
        · simp at h; omega
        · split at h
          · simp at h; omega
          · exact readLines_err r _ _ _ _ _ h

/-- What build lays ahead of reading. -/
def startWorld (w : World) (st : Int) (sh : Bool) : World := (((((((w.alloc (.cells #[.int .i64 st, .bool sh] 27)).alloc (.cells #[.pointer (some ⟨w.heap.size + 1 + 1 + 1 + 1 + 1, 0, none⟩)] 23)).alloc (.cells #[.int .i64 0] 3)).alloc (.cells #[.int .i64 0] 30)).alloc (.map #[] 0)).alloc (.cells #[.map (some (w.heap.size + 1 + 1 + 1 + 1)), .int .i64 st, .bool sh] 170)).alloc (.cells #[.map (some (w.heap.size + 1 + 1 + 1 + 1)), .int .i64 0, .slice none 0 0, .slice none 0 0] 202))
def startCol (bm bd : Nat) : Nat → Int := fun g => if g = bm then -2 else if g = bd then -3 else if g < bd then -9 else -1

/-- What is known of it. -/
structure Start (w : World) (st : Int) (sh : Bool) (W : World) : Prop where
  rep : Rep W (startCol (w.heap.size + 1 + 1 + 1 + 1) (w.heap.size + 1 + 1 + 1 + 1 + 1 + 1)) (w.heap.size + 1 + 1 + 1 + 1 + 1 + 1) (w.heap.size + 1 + 1 + 1 + 1 + 1 + 1) (w.heap.size + 1 + 1 + 1 + 1) 0 (.slice none 0 0) (.slice none 0 0) []
  below : Below w.heap.size w W
  k1 : W.cell? ⟨w.heap.size + 1, 0, none⟩ = some (.pointer (some ⟨w.heap.size + 1 + 1 + 1 + 1 + 1, 0, none⟩))
  k2 : W.cell? ⟨w.heap.size + 1 + 1, 0, none⟩ = some (.int .i64 0)
  k3 : W.cell? ⟨w.heap.size + 1 + 1 + 1, 0, none⟩ = some (.int .i64 0)
  f1 : W.frozen? ⟨w.heap.size + 1, 0, none⟩ = false
  f2 : W.frozen? ⟨w.heap.size + 1 + 1, 0, none⟩ = false
  f3 : W.frozen? ⟨w.heap.size + 1 + 1 + 1, 0, none⟩ = false
  m0 : W.cell? ⟨w.heap.size + 1 + 1 + 1 + 1 + 1, 0, none⟩ = some (.map (some (w.heap.size + 1 + 1 + 1 + 1)))
  m1 : W.cell? ⟨w.heap.size + 1 + 1 + 1 + 1 + 1, 1, none⟩ = some (.int .i64 st)
  m2 : W.cell? ⟨w.heap.size + 1 + 1 + 1 + 1 + 1, 2, none⟩ = some (.bool sh)

theorem startWorld_start (w : World) (st : Int) (sh : Bool) : Start w st sh (startWorld w st sh) := by
  unfold startWorld
  refine ⟨⟨⟨?_, by omega, by simp, ?_, ?_, ?_, ?_, fun o => ?_⟩, ⟨?_, Nat.zero_le _, fun _ => zeroNode, ?_, fun r _ => ⟨.slice none 0 0, .slice none 0 0, rfl, ⟨?_, fun g hg => by cases hg⟩, SeqRow.nil _ _ _ _ _ _⟩⟩, ⟨World.ownsRow_nil _ _ _ _, fun g hg => by cases hg⟩, SeqRow.nil _ _ _ _ _ _, (fun o ho => by cases ho), fun g hg => ?_⟩, ?_, ?_, ?_, ?_, ?_, ?_, ?_, ?_, ?_, ?_⟩
  · unfold startCol; rw [if_neg (by omega), if_pos rfl]
  · rw [cell_new (by simp)]; rfl
  · rw [cell_new (by simp)]; rfl
  · rw [cell_new (by simp)]; rfl
  · rw [cell_new (by simp)]; rfl
  · rw [frozen_new (by simp)]
  · unfold startCol; rw [if_pos rfl]
  · have hm := MapIs.made ((((w.alloc (.cells #[.int .i64 st, .bool sh] 27)).alloc (.cells #[.pointer (some ⟨w.heap.size + 1 + 1 + 1 + 1 + 1, 0, none⟩)] 23)).alloc (.cells #[.int .i64 0] 3)).alloc (.cells #[.int .i64 0] 30))
    have e : ((((w.alloc (.cells #[.int .i64 st, .bool sh] 27)).alloc (.cells #[.pointer (some ⟨w.heap.size + 1 + 1 + 1 + 1 + 1, 0, none⟩)] 23)).alloc (.cells #[.int .i64 0] 3)).alloc (.cells #[.int .i64 0] 30)).heap.size = w.heap.size + 1 + 1 + 1 + 1 := by simp
    rw [e] at hm
    refine MapIs.same hm ?_
    rw [Below.heap_alloc _ _ _ (by simp <;> omega), Below.heap_alloc _ _ _ (by simp)]
  · exact ⟨rfl, (fun g hg => by cases hg), none, 0, rfl, ⟨Nat.le_refl _, Nat.zero_le _⟩, by simp [Tm.parts, ints]⟩
  · unfold startCol
    (repeat' split) <;> omega
  · exact (((((((Below.refl _ _).alloc (by simp) _).alloc (by simp <;> omega) _).alloc (by simp <;> omega) _).alloc (by simp <;> omega) _).alloc (by simp <;> omega) _).alloc (by simp <;> omega) _).alloc (by simp <;> omega) _
  · rw [cell_old (by simp <;> omega), cell_old (by simp <;> omega), cell_old (by simp <;> omega), cell_old (by simp <;> omega), cell_old (by simp), cell_new (by simp)]; rfl
  · rw [cell_old (by simp <;> omega), cell_old (by simp <;> omega), cell_old (by simp <;> omega), cell_old (by simp), cell_new (by simp)]; rfl
  · rw [cell_old (by simp <;> omega), cell_old (by simp <;> omega), cell_old (by simp), cell_new (by simp)]; rfl
  · rw [frozen_old (by simp <;> omega), frozen_old (by simp <;> omega), frozen_old (by simp <;> omega), frozen_old (by simp <;> omega), frozen_old (by simp), frozen_new (by simp)]
  · rw [frozen_old (by simp <;> omega), frozen_old (by simp <;> omega), frozen_old (by simp <;> omega), frozen_old (by simp), frozen_new (by simp)]
  · rw [frozen_old (by simp <;> omega), frozen_old (by simp <;> omega), frozen_old (by simp), frozen_new (by simp)]
  · rw [cell_old (by simp), cell_new (by simp)]; rfl
  · rw [cell_old (by simp), cell_new (by simp)]; rfl
  · rw [cell_old (by simp), cell_new (by simp)]; rfl

/-- A collator as it lies: its map of nodes and its options. -/
structure Coll (w : World) (bc bm : Nat) (st : Int) (sh : Bool) (lns : List Tm.Ln) : Prop where
  lt : bc < w.heap.size
  c0 : w.cell? ⟨bc, 0, none⟩ = some (.map (some bm))
  c1 : w.cell? ⟨bc, 1, none⟩ = some (.int .i64 st)
  c2 : w.cell? ⟨bc, 2, none⟩ = some (.bool sh)
  rd : NodesRd w bm lns
  fit : ∀ o ∈ lns, Tm.Fit o
  few : lns.length ≤ 8192
theorem Coll.below {w w' : World} {bc bm : Nat} {st : Int} {sh : Bool} {lns : List Tm.Ln} (h : Coll w bc bm st sh lns) (hb : Below w.heap.size w w') : Coll w' bc bm st sh lns :=
  ⟨Nat.lt_of_lt_of_le h.lt hb.size, by rw [hb.cell (p := ⟨bc, 0, none⟩) h.lt]; exact h.c0, by rw [hb.cell (p := ⟨bc, 1, none⟩) h.lt]; exact h.c1, by rw [hb.cell (p := ⟨bc, 2, none⟩) h.lt]; exact h.c2, h.rd.below hb, h.fit, h.few⟩
/-- A collator that lies whole at the blocks from B on: it stays, whatever is done below B and behind. -/
def CollOwn (w : World) (B bc bm : Nat) (st : Int) (sh : Bool) (lns : List Tm.Ln) : Prop :=
  ∀ w', w.heap.size ≤ w'.heap.size → (∀ g, B ≤ g → g < w.heap.size → w'.heap[g]? = w.heap[g]?) → Coll w' bc bm st sh lns
theorem CollOwn.here {w : World} {B bc bm : Nat} {st : Int} {sh : Bool} {lns : List Tm.Ln} (h : CollOwn w B bc bm st sh lns) : Coll w bc bm st sh lns := h w (Nat.le_refl _) (fun _ _ _ => rfl)
theorem CollOwn.stays {w w' : World} {B B' bc bm : Nat} {st : Int} {sh : Bool} {lns : List Tm.Ln} (h : CollOwn w B bc bm st sh lns) (hB : B' ≤ B) (hs : w.heap.size ≤ w'.heap.size) (hk : ∀ g, B ≤ g → g < w.heap.size → w'.heap[g]? = w.heap[g]?) : CollOwn w' B' bc bm st sh lns :=
  fun w'' hs' hk' => h w'' (Nat.le_trans hs hs') (fun g hg hl => (hk' g (by omega) (by omega)).trans (hk g hg hl))
/-- What build answers beside the line and the error: a collator, just where there is no error. -/
def BuiltAns (B : Nat) (s : ByteArray) (st : Int) (sh : Bool) (c : Option Addr) (w' : World) : Prop :=
  ((tableErr s.data.toList).2 ≠ 0 → c = none) ∧ ((tableErr s.data.toList).2 = 0 → ∃ bc bm lns, c = some ⟨bc, 0, none⟩ ∧ CollOwn w' B bc bm st sh lns ∧ Tm.readLines [] 1 (Tm.split 10 s.data.toList) = (lns, none))
theorem BuiltAns.no {B : Nat} {s : ByteArray} {st : Int} {sh : Bool} {w' : World} (h : (tableErr s.data.toList).2 ≠ 0) : BuiltAns B s st sh none w' := ⟨fun _ => rfl, fun h' => absurd h' h⟩

theorem door_cells {w w1 w'' : World} {n q : Int} {v1 v2 v3 : Value} (k1 : w1.cell? ⟨w.heap.size + 1, 0, none⟩ = some v1) (k2 : w1.cell? ⟨w.heap.size + 1 + 1, 0, none⟩ = some v2) (k3 : w1.cell? ⟨w.heap.size + 1 + 1 + 1, 0, none⟩ = some v3) (hb : Below w.heap.size w w1)
    (hw : w'' = (((w1.setCell ⟨w.heap.size + 1, 0, none⟩ (.pointer none)).setCell ⟨w.heap.size + 1 + 1, 0, none⟩ (.int .i64 n)).setCell ⟨w.heap.size + 1 + 1 + 1, 0, none⟩ (.int .i64 1)).setCell ⟨w.heap.size + 1 + 1 + 1, 0, none⟩ (.int .i64 q)) :
    w''.cell? ⟨w.heap.size + 1, 0, none⟩ = some (.pointer none) ∧ w''.cell? ⟨w.heap.size + 1 + 1, 0, none⟩ = some (.int .i64 n) ∧ w''.cell? ⟨w.heap.size + 1 + 1 + 1, 0, none⟩ = some (.int .i64 q) ∧ Below w.heap.size w w'' := by
  subst hw
  have e3 : ((w1.setCell ⟨w.heap.size + 1, 0, none⟩ (.pointer none)).setCell ⟨w.heap.size + 1 + 1, 0, none⟩ (.int .i64 n)).cell? ⟨w.heap.size + 1 + 1 + 1, 0, none⟩ = some v3 := by
    rw [World.cell?_setCell_other _ _ _ _ (by simp <;> omega), World.cell?_setCell_other _ _ _ _ (by simp <;> omega)]; exact k3
  refine ⟨?_, ?_, ?_, ?_⟩
  · rw [World.cell?_setCell_other _ _ _ _ (by simp <;> omega), World.cell?_setCell_other _ _ _ _ (by simp <;> omega), World.cell?_setCell_other _ _ _ _ (by simp <;> omega)]
    exact World.cell?_setCell_same _ _ _ k1
  · rw [World.cell?_setCell_other _ _ _ _ (by simp <;> omega), World.cell?_setCell_other _ _ _ _ (by simp <;> omega)]
    exact World.cell?_setCell_same _ _ _ ((World.cell?_setCell_other _ _ _ _ (by simp <;> omega)).trans k2)
  · exact World.cell?_setCell_same _ _ _ (World.cell?_setCell_same _ _ _ e3)
  · exact (((hb.setCell (p := ⟨w.heap.size + 1, 0, none⟩) (by simp only; omega) _).setCell (p := ⟨w.heap.size + 1 + 1, 0, none⟩) (by simp only; omega) _).setCell (p := ⟨w.heap.size + 1 + 1 + 1, 0, none⟩) (by simp only; omega) _).setCell (p := ⟨w.heap.size + 1 + 1 + 1, 0, none⟩) (by simp only; omega) _

theorem door_idle {w w1 w'' : World} {v1 v2 v3 x1 x2 x3 : Value} (k1 : w1.cell? ⟨w.heap.size + 1, 0, none⟩ = some v1) (k2 : w1.cell? ⟨w.heap.size + 1 + 1, 0, none⟩ = some v2) (k3 : w1.cell? ⟨w.heap.size + 1 + 1 + 1, 0, none⟩ = some v3) (hb : Below w.heap.size w w1)
    (hw : w'' = ((w1.setCell ⟨w.heap.size + 1, 0, none⟩ x1).setCell ⟨w.heap.size + 1 + 1, 0, none⟩ x2).setCell ⟨w.heap.size + 1 + 1 + 1, 0, none⟩ x3) :
    w''.cell? ⟨w.heap.size + 1, 0, none⟩ = some x1 ∧ w''.cell? ⟨w.heap.size + 1 + 1, 0, none⟩ = some x2 ∧ w''.cell? ⟨w.heap.size + 1 + 1 + 1, 0, none⟩ = some x3 ∧ Below w.heap.size w w'' := by
  subst hw
  refine ⟨?_, ?_, ?_, ?_⟩
  · rw [World.cell?_setCell_other _ _ _ _ (by simp <;> omega), World.cell?_setCell_other _ _ _ _ (by simp <;> omega)]
    exact World.cell?_setCell_same _ _ _ k1
  · rw [World.cell?_setCell_other _ _ _ _ (by simp <;> omega)]
    exact World.cell?_setCell_same _ _ _ ((World.cell?_setCell_other _ _ _ _ (by simp <;> omega)).trans k2)
  · exact World.cell?_setCell_same _ _ _ ((World.cell?_setCell_other _ _ _ _ (by simp <;> omega)).trans ((World.cell?_setCell_other _ _ _ _ (by simp <;> omega)).trans k3))
  · exact ((hb.setCell (p := ⟨w.heap.size + 1, 0, none⟩) (by simp only; omega) _).setCell (p := ⟨w.heap.size + 1 + 1, 0, none⟩) (by simp only; omega) _).setCell (p := ⟨w.heap.size + 1 + 1 + 1, 0, none⟩) (by simp only; omega) _

set_option maxRecDepth 100000 in
set_option maxHeartbeats 4000000 in
theorem build_any (s : ByteArray) (st : Int) (sh : Bool) (w : World) (hs : s.size ≤ 8192) :
    Calls Tryz.prog 77 #[.string s, .agg #[.int .i64 st, .bool sh]] w fun e w' => ∃ c, e = .returned (.tuple #[.pointer c, .int .i64 (tableErr s.data.toList).1, .int .i64 (tableErr s.data.toList).2]) ∧ BuiltAns w.heap.size s st sh c w' ∧ Below w.heap.size w w' := by
  have hmf : ∀ (fn : Fn) (first cap : Array Value) (w : World), (Instr.makeFunc fn first cap).run Tryz.prog w = .ok (.func fn first cap) w := fun _ _ _ _ => rfl
  have hmm := @run_makeMap Tryz.prog
  have HST := hide (startWorld_start w st sh)
  unfold startWorld at HST
  go_enter_defers Tryz.func77, Tryz.ntmps77
  go_wp2_with fail
  generalize (((((((w.alloc (.cells #[.int .i64 st, .bool sh] 27)).alloc (.cells #[.pointer (some ⟨w.heap.size + 1 + 1 + 1 + 1 + 1, 0, none⟩)] 23)).alloc (.cells #[.int .i64 0] 3)).alloc (.cells #[.int .i64 0] 30)).alloc (.map #[] 0)).alloc (.cells #[.map (some (w.heap.size + 1 + 1 + 1 + 1)), .int .i64 st, .bool sh] 170)).alloc (.cells #[.map (some (w.heap.size + 1 + 1 + 1 + 1)), .int .i64 0, .slice none 0 0, .slice none 0 0] 202)) = W at *
  have HTE : Hid (tableErr s.data.toList = match Tm.readLines [] 1 (Tm.split 10 s.data.toList) with
    | (_, some (n, e)) => (n, e)
    | (lns, none) => Tm.together lns) := rfl
  refine (readLines_any s _ _ _ _ _ _ _ hs HST.out.rep).mono ?_
  rintro e w1 hans
  rcases hrl : Tm.readLines [] 1 (Tm.split 10 s.data.toList) with ⟨lns, _ | ⟨n, q⟩⟩
  · rw [hrl] at hans HTE
    obtain ⟨rfl, hb1, hn, col1, line1, vp1, vw1, hrep1⟩ := hans
    have HTE0 : Hid (tableErr s.data.toList = Tm.together lns) := HTE.out
    have HB1 := hide hb1
    have HR1 := hide hrep1
    have HRL := hide hrl
    clear hb1 hrep1 hrl HTE
    go_wp2_with fail
    refine (checkParts_any lns _ _ _ _ _ _ _ _ HR1.out hn).mono ?_
    rintro e w2 hans
    cases hf1 : lns.find? (Tm.badLoop lns) with
    | some o =>
      rw [hf1] at hans
      obtain ⟨ht, hb2, hc2⟩ := hans
      obtain rfl : e = _ := ht
      have HTE' : Hid (tableErr s.data.toList = (o.num, 3)) := by unfold Hid; rw [HTE0.out, Tm.together, hf1]
      have HB2 : Hid (Sole (w.heap.size + 1 + 1 + 1 + 1 + 1 + 1) (w.heap.size + 1 + 1 + 1 + 1) W w2) := HB1.out.trans hb2
      have HC := hide hc2
      clear hb2 hc2 hf1
      go_wp2
      refine leaves_cons (f := 119) (args := #[.pointer (some ⟨w.heap.size + 1 + 1 + 1 + 1 + 1 + 1, 0, none⟩), .pointer (some ⟨w.heap.size + 1, 0, none⟩), .pointer (some ⟨w.heap.size + 1 + 1, 0, none⟩), .pointer (some ⟨w.heap.size + 1 + 1 + 1, 0, none⟩)]) (by simp) (by simp [go_sem]) ?_
      refine (catch_panicking (w.heap.size + 1 + 1 + 1 + 1 + 1 + 1) (w.heap.size + 1) (w.heap.size + 1 + 1) (w.heap.size + 1 + 1 + 1) _ _ _ 3 o.num w2 (by omega) (by omega) (by omega) (by omega) (by rw [HB2.out.cell (p := ⟨w.heap.size + 1, 0, none⟩) (by simp only; omega) (by simp only; omega)]; exact HST.out.k1) (by rw [HB2.out.cell (p := ⟨w.heap.size + 1 + 1, 0, none⟩) (by simp only; omega) (by simp only; omega)]; exact HST.out.k2) (by rw [HB2.out.cell (p := ⟨w.heap.size + 1 + 1 + 1, 0, none⟩) (by simp only; omega) (by simp only; omega)]; exact HST.out.k3) (by rw [HB2.out.frozen (p := ⟨w.heap.size + 1, 0, none⟩) (by simp only; omega) (by simp only; omega)]; exact HST.out.f1) (by rw [HB2.out.frozen (p := ⟨w.heap.size + 1 + 1, 0, none⟩) (by simp only; omega) (by simp only; omega)]; exact HST.out.f2) (by rw [HB2.out.frozen (p := ⟨w.heap.size + 1 + 1 + 1, 0, none⟩) (by simp only; omega) (by simp only; omega)]; exact HST.out.f3) HC.out).mono ?_
      rintro x u' w'' ⟨rfl, rfl, hw⟩
      have HZ := hide (door_cells (w := w) (w1 := w2) (n := o.num) (q := 3) (by rw [HB2.out.cell (p := ⟨w.heap.size + 1, 0, none⟩) (by simp only; omega) (by simp only; omega)]; exact HST.out.k1) (by rw [HB2.out.cell (p := ⟨w.heap.size + 1 + 1, 0, none⟩) (by simp only; omega) (by simp only; omega)]; exact HST.out.k2) (by rw [HB2.out.cell (p := ⟨w.heap.size + 1 + 1 + 1, 0, none⟩) (by simp only; omega) (by simp only; omega)]; exact HST.out.k3) (HST.out.below.trans (HB2.out.below (by omega) (by omega))) hw)
      have z1 := HZ.out.1
      have z2 := HZ.out.2.1
      have z3 := HZ.out.2.2.1
      have HQ2 := hide HZ.out.2.2.2
      clear hw
      simp [Leaves, settle, results, Tryz.results77, go_sem, z1, z2, z3]
      exact ⟨none, ⟨rfl, by rw [HTE'.out], by rw [HTE'.out]⟩, BuiltAns.no (by rw [HTE'.out]; simp), HQ2.out⟩
    | none =>
    rw [hf1] at hans
    obtain ⟨rfl, hb2, col2, line2, vp2, vw2, hrep2⟩ := hans
    have HF1 := hide hf1
    have HB2 : Hid (Sole (w.heap.size + 1 + 1 + 1 + 1 + 1 + 1) (w.heap.size + 1 + 1 + 1 + 1) W w2) := HB1.out.trans hb2
    have HR2 := hide hrep2
    clear hb2 hrep2 hf1
    go_wp2_with fail
    refine (checkPrefixes_any lns _ _ _ _ _ _ _ _ HR2.out hn).mono ?_
    rintro e w3 hans
    cases hf2 : lns.find? (Tm.badPrefix lns) with
    | some o =>
      rw [hf2] at hans
      obtain ⟨ht, hb3, hc3⟩ := hans
      obtain rfl : e = _ := ht
      have HTE' : Hid (tableErr s.data.toList = (o.num, 5)) := by unfold Hid; rw [HTE0.out, Tm.together, HF1.out]; simp only; rw [hf2]
      have HB3 : Hid (Sole (w.heap.size + 1 + 1 + 1 + 1 + 1 + 1) (w.heap.size + 1 + 1 + 1 + 1) W w3) := HB2.out.trans hb3
      have HC := hide hc3
      clear hb3 hc3 hf2
      go_wp2
      refine leaves_cons (f := 119) (args := #[.pointer (some ⟨w.heap.size + 1 + 1 + 1 + 1 + 1 + 1, 0, none⟩), .pointer (some ⟨w.heap.size + 1, 0, none⟩), .pointer (some ⟨w.heap.size + 1 + 1, 0, none⟩), .pointer (some ⟨w.heap.size + 1 + 1 + 1, 0, none⟩)]) (by simp) (by simp [go_sem]) ?_
      refine (catch_panicking (w.heap.size + 1 + 1 + 1 + 1 + 1 + 1) (w.heap.size + 1) (w.heap.size + 1 + 1) (w.heap.size + 1 + 1 + 1) _ _ _ 5 o.num w3 (by omega) (by omega) (by omega) (by omega) (by rw [HB3.out.cell (p := ⟨w.heap.size + 1, 0, none⟩) (by simp only; omega) (by simp only; omega)]; exact HST.out.k1) (by rw [HB3.out.cell (p := ⟨w.heap.size + 1 + 1, 0, none⟩) (by simp only; omega) (by simp only; omega)]; exact HST.out.k2) (by rw [HB3.out.cell (p := ⟨w.heap.size + 1 + 1 + 1, 0, none⟩) (by simp only; omega) (by simp only; omega)]; exact HST.out.k3) (by rw [HB3.out.frozen (p := ⟨w.heap.size + 1, 0, none⟩) (by simp only; omega) (by simp only; omega)]; exact HST.out.f1) (by rw [HB3.out.frozen (p := ⟨w.heap.size + 1 + 1, 0, none⟩) (by simp only; omega) (by simp only; omega)]; exact HST.out.f2) (by rw [HB3.out.frozen (p := ⟨w.heap.size + 1 + 1 + 1, 0, none⟩) (by simp only; omega) (by simp only; omega)]; exact HST.out.f3) HC.out).mono ?_
      rintro x u' w'' ⟨rfl, rfl, hw⟩
      have HZ := hide (door_cells (w := w) (w1 := w3) (n := o.num) (q := 5) (by rw [HB3.out.cell (p := ⟨w.heap.size + 1, 0, none⟩) (by simp only; omega) (by simp only; omega)]; exact HST.out.k1) (by rw [HB3.out.cell (p := ⟨w.heap.size + 1 + 1, 0, none⟩) (by simp only; omega) (by simp only; omega)]; exact HST.out.k2) (by rw [HB3.out.cell (p := ⟨w.heap.size + 1 + 1 + 1, 0, none⟩) (by simp only; omega) (by simp only; omega)]; exact HST.out.k3) (HST.out.below.trans (HB3.out.below (by omega) (by omega))) hw)
      have z1 := HZ.out.1
      have z2 := HZ.out.2.1
      have z3 := HZ.out.2.2.1
      have HQ2 := hide HZ.out.2.2.2
      clear hw
      simp [Leaves, settle, results, Tryz.results77, go_sem, z1, z2, z3]
      exact ⟨none, ⟨rfl, by rw [HTE'.out], by rw [HTE'.out]⟩, BuiltAns.no (by rw [HTE'.out]; simp), HQ2.out⟩
    | none =>
    rw [hf2] at hans
    obtain ⟨rfl, hb3, col3, line3, vp3, vw3, hrep3⟩ := hans
    have HF2 := hide hf2
    have HB3 : Hid (Sole (w.heap.size + 1 + 1 + 1 + 1 + 1 + 1) (w.heap.size + 1 + 1 + 1 + 1) W w3) := HB2.out.trans hb3
    have HR3 := hide hrep3
    clear hb3 hrep3 hf2
    go_wp2_with fail
    refine (checkVariables_any lns _ _ _ _ _ _ _ _ HR3.out hn).mono ?_
    rintro e w4 hans
    cases hf3 : lns.find? (Tm.badWeight lns) with
    | some o =>
      rw [hf3] at hans
      obtain ⟨ht, hb4, hc4⟩ := hans
      obtain rfl : e = _ := ht
      have HTE' : Hid (tableErr s.data.toList = (o.num, 4)) := by unfold Hid; rw [HTE0.out, Tm.together, HF1.out]; simp only; rw [HF2.out]; simp only; rw [hf3]
      have HB4 : Hid (Sole (w.heap.size + 1 + 1 + 1 + 1 + 1 + 1) (w.heap.size + 1 + 1 + 1 + 1) W w4) := HB3.out.trans hb4
      have HC := hide hc4
      clear hb4 hc4 hf3
      go_wp2
      refine leaves_cons (f := 119) (args := #[.pointer (some ⟨w.heap.size + 1 + 1 + 1 + 1 + 1 + 1, 0, none⟩), .pointer (some ⟨w.heap.size + 1, 0, none⟩), .pointer (some ⟨w.heap.size + 1 + 1, 0, none⟩), .pointer (some ⟨w.heap.size + 1 + 1 + 1, 0, none⟩)]) (by simp) (by simp [go_sem]) ?_
      refine (catch_panicking (w.heap.size + 1 + 1 + 1 + 1 + 1 + 1) (w.heap.size + 1) (w.heap.size + 1 + 1) (w.heap.size + 1 + 1 + 1) _ _ _ 4 o.num w4 (by omega) (by omega) (by omega) (by omega) (by rw [HB4.out.cell (p := ⟨w.heap.size + 1, 0, none⟩) (by simp only; omega) (by simp only; omega)]; exact HST.out.k1) (by rw [HB4.out.cell (p := ⟨w.heap.size + 1 + 1, 0, none⟩) (by simp only; omega) (by simp only; omega)]; exact HST.out.k2) (by rw [HB4.out.cell (p := ⟨w.heap.size + 1 + 1 + 1, 0, none⟩) (by simp only; omega) (by simp only; omega)]; exact HST.out.k3) (by rw [HB4.out.frozen (p := ⟨w.heap.size + 1, 0, none⟩) (by simp only; omega) (by simp only; omega)]; exact HST.out.f1) (by rw [HB4.out.frozen (p := ⟨w.heap.size + 1 + 1, 0, none⟩) (by simp only; omega) (by simp only; omega)]; exact HST.out.f2) (by rw [HB4.out.frozen (p := ⟨w.heap.size + 1 + 1 + 1, 0, none⟩) (by simp only; omega) (by simp only; omega)]; exact HST.out.f3) HC.out).mono ?_
      rintro x u' w'' ⟨rfl, rfl, hw⟩
      have HZ := hide (door_cells (w := w) (w1 := w4) (n := o.num) (q := 4) (by rw [HB4.out.cell (p := ⟨w.heap.size + 1, 0, none⟩) (by simp only; omega) (by simp only; omega)]; exact HST.out.k1) (by rw [HB4.out.cell (p := ⟨w.heap.size + 1 + 1, 0, none⟩) (by simp only; omega) (by simp only; omega)]; exact HST.out.k2) (by rw [HB4.out.cell (p := ⟨w.heap.size + 1 + 1 + 1, 0, none⟩) (by simp only; omega) (by simp only; omega)]; exact HST.out.k3) (HST.out.below.trans (HB4.out.below (by omega) (by omega))) hw)
      have z1 := HZ.out.1
      have z2 := HZ.out.2.1
      have z3 := HZ.out.2.2.1
      have HQ2 := hide HZ.out.2.2.2
      clear hw
      simp [Leaves, settle, results, Tryz.results77, go_sem, z1, z2, z3]
      exact ⟨none, ⟨rfl, by rw [HTE'.out], by rw [HTE'.out]⟩, BuiltAns.no (by rw [HTE'.out]; simp), HQ2.out⟩
    | none =>
    rw [hf3] at hans
    obtain ⟨rfl, hb4, col4, line4, vp4, vw4, hrep4⟩ := hans
    have HTE' : Hid (tableErr s.data.toList = (0, 0)) := by unfold Hid; rw [HTE0.out, Tm.together, HF1.out]; simp only; rw [HF2.out]; simp only; rw [hf3]
    have HB4 : Hid (Sole (w.heap.size + 1 + 1 + 1 + 1 + 1 + 1) (w.heap.size + 1 + 1 + 1 + 1) W w4) := HB3.out.trans hb4
    have HR4 := hide hrep4
    clear hb4 hrep4 hf3
    have y1 : w4.cell? ⟨w.heap.size + 1, 0, none⟩ = some (.pointer (some ⟨w.heap.size + 1 + 1 + 1 + 1 + 1, 0, none⟩)) := (by rw [HB4.out.cell (p := ⟨w.heap.size + 1, 0, none⟩) (by simp only; omega) (by simp only; omega)]; exact HST.out.k1)
    have y2 : w4.cell? ⟨w.heap.size + 1 + 1, 0, none⟩ = some (.int .i64 0) := (by rw [HB4.out.cell (p := ⟨w.heap.size + 1 + 1, 0, none⟩) (by simp only; omega) (by simp only; omega)]; exact HST.out.k2)
    have y3 : w4.cell? ⟨w.heap.size + 1 + 1 + 1, 0, none⟩ = some (.int .i64 0) := (by rw [HB4.out.cell (p := ⟨w.heap.size + 1 + 1 + 1, 0, none⟩) (by simp only; omega) (by simp only; omega)]; exact HST.out.k3)
    have g1 : w4.frozen? ⟨w.heap.size + 1, 0, none⟩ = false := (by rw [HB4.out.frozen (p := ⟨w.heap.size + 1, 0, none⟩) (by simp only; omega) (by simp only; omega)]; exact HST.out.f1)
    have g2 : w4.frozen? ⟨w.heap.size + 1 + 1, 0, none⟩ = false := (by rw [HB4.out.frozen (p := ⟨w.heap.size + 1 + 1, 0, none⟩) (by simp only; omega) (by simp only; omega)]; exact HST.out.f2)
    have g3 : w4.frozen? ⟨w.heap.size + 1 + 1 + 1, 0, none⟩ = false := (by rw [HB4.out.frozen (p := ⟨w.heap.size + 1 + 1 + 1, 0, none⟩) (by simp only; omega) (by simp only; omega)]; exact HST.out.f3)
    go_wp2
    refine leaves_cons (f := 119) (args := #[.pointer (some ⟨w.heap.size + 1 + 1 + 1 + 1 + 1 + 1, 0, none⟩), .pointer (some ⟨w.heap.size + 1, 0, none⟩), .pointer (some ⟨w.heap.size + 1 + 1, 0, none⟩), .pointer (some ⟨w.heap.size + 1 + 1 + 1, 0, none⟩)]) (by simp) (by simp [go_sem]) ?_
    refine (catch_idle _ _ _ _ _).mono ?_
    rintro x u' w'' ⟨rfl, rfl, hw⟩
    have HZ := hide (door_idle (w := w) y1 y2 y3 (HST.out.below.trans (HB4.out.below (by omega) (by omega))) hw)
    have HCOLL : Hid (CollOwn w'' w.heap.size (w.heap.size + 1 + 1 + 1 + 1 + 1) (w.heap.size + 1 + 1 + 1 + 1) st sh lns) := by
      intro w3 hs3 hk3
      have e5 : ∀ o v, W.cell? ⟨w.heap.size + 1 + 1 + 1 + 1 + 1, o, none⟩ = some v → w''.cell? ⟨w.heap.size + 1 + 1 + 1 + 1 + 1, o, none⟩ = some v := fun o v hv => by
        rw [hw, World.cell?_setCell_other _ _ _ _ (by simp <;> omega), World.cell?_setCell_other _ _ _ _ (by simp <;> omega), World.cell?_setCell_other _ _ _ _ (by simp <;> omega), HB4.out.cell (p := ⟨w.heap.size + 1 + 1 + 1 + 1 + 1, o, none⟩) (by simp only; omega) (by simp only; omega)]; exact hv
      have hz : w''.heap.size = w4.heap.size := by rw [hw]; simp [World.setCell]
      have hk : ∀ g, w.heap.size + 1 + 1 + 1 + 1 ≤ g → w''.heap[g]? = w4.heap[g]? := fun g hg => by
        rw [hw, Below.heap_setCell _ _ _ _ (by simp only; omega), Below.heap_setCell _ _ _ _ (by simp only; omega), Below.heap_setCell _ _ _ _ (by simp only; omega)]
      have hlt := HR4.out.dr.lt
      have e6 : ∀ o v, W.cell? ⟨w.heap.size + 1 + 1 + 1 + 1 + 1, o, none⟩ = some v → w3.cell? ⟨w.heap.size + 1 + 1 + 1 + 1 + 1, o, none⟩ = some v := fun o v hv => by
        rw [World.cell?_of_block (a := ⟨w.heap.size + 1 + 1 + 1 + 1 + 1, o, none⟩) (hk3 (w.heap.size + 1 + 1 + 1 + 1 + 1) (by omega) (by omega))]; exact e5 o v hv
      exact ⟨by omega, e6 _ _ HST.out.m0, e6 _ _ HST.out.m1, e6 _ _ HST.out.m2, HR4.out.nd.rd_kept HR4.out.low (by omega) (fun g hg hl => (hk3 g (by omega) (by omega)).trans (hk g (by omega))) ((hk3 _ (by omega) (by omega)).trans (hk _ (Nat.le_refl _))), HR4.out.fit, hn⟩
    have z1 := HZ.out.1
    have z2 := HZ.out.2.1
    have z3 := HZ.out.2.2.1
    have HQ2 := hide HZ.out.2.2.2
    clear hw
    simp [Leaves, settle, results, Tryz.results77, go_sem, z1, z2, z3]
    exact ⟨_, ⟨rfl, by rw [HTE'.out], by rw [HTE'.out]⟩, ⟨fun h => absurd (by rw [HTE'.out]) h, fun _ => ⟨w.heap.size + 1 + 1 + 1 + 1 + 1, w.heap.size + 1 + 1 + 1 + 1, lns, rfl, HCOLL.out, HRL.out⟩⟩, HQ2.out⟩
  · rw [hrl] at hans HTE
    obtain ⟨ht, hb1, hc1⟩ := hans
    obtain rfl : e = _ := ht
    have HTE' : Hid (tableErr s.data.toList = (n, q)) := HTE.out
    have HB1 := hide hb1
    have HC := hide hc1
    have HQ : Hid (q ≠ 0) := readLines_err _ _ _ _ _ _ hrl
    clear hb1 hc1 hrl
    go_wp2
    refine leaves_cons (f := 119) (args := #[.pointer (some ⟨w.heap.size + 1 + 1 + 1 + 1 + 1 + 1, 0, none⟩), .pointer (some ⟨w.heap.size + 1, 0, none⟩), .pointer (some ⟨w.heap.size + 1 + 1, 0, none⟩), .pointer (some ⟨w.heap.size + 1 + 1 + 1, 0, none⟩)]) (by simp) (by simp [go_sem]) ?_
    refine (catch_panicking (w.heap.size + 1 + 1 + 1 + 1 + 1 + 1) (w.heap.size + 1) (w.heap.size + 1 + 1) (w.heap.size + 1 + 1 + 1) _ _ _ q n w1 (by omega) (by omega) (by omega) (by omega) (by rw [HB1.out.cell (p := ⟨w.heap.size + 1, 0, none⟩) (by simp only; omega) (by simp only; omega)]; exact HST.out.k1) (by rw [HB1.out.cell (p := ⟨w.heap.size + 1 + 1, 0, none⟩) (by simp only; omega) (by simp only; omega)]; exact HST.out.k2) (by rw [HB1.out.cell (p := ⟨w.heap.size + 1 + 1 + 1, 0, none⟩) (by simp only; omega) (by simp only; omega)]; exact HST.out.k3) (by rw [HB1.out.frozen (p := ⟨w.heap.size + 1, 0, none⟩) (by simp only; omega) (by simp only; omega)]; exact HST.out.f1) (by rw [HB1.out.frozen (p := ⟨w.heap.size + 1 + 1, 0, none⟩) (by simp only; omega) (by simp only; omega)]; exact HST.out.f2) (by rw [HB1.out.frozen (p := ⟨w.heap.size + 1 + 1 + 1, 0, none⟩) (by simp only; omega) (by simp only; omega)]; exact HST.out.f3) HC.out).mono ?_
    rintro x u' w'' ⟨rfl, rfl, hw⟩
    have HZ := hide (door_cells (w := w) (w1 := w1) (n := n) (q := q) (by rw [HB1.out.cell (p := ⟨w.heap.size + 1, 0, none⟩) (by simp only; omega) (by simp only; omega)]; exact HST.out.k1) (by rw [HB1.out.cell (p := ⟨w.heap.size + 1 + 1, 0, none⟩) (by simp only; omega) (by simp only; omega)]; exact HST.out.k2) (by rw [HB1.out.cell (p := ⟨w.heap.size + 1 + 1 + 1, 0, none⟩) (by simp only; omega) (by simp only; omega)]; exact HST.out.k3) (HST.out.below.trans (HB1.out.below (by omega) (by omega))) hw)
    have z1 := HZ.out.1
    have z2 := HZ.out.2.1
    have z3 := HZ.out.2.2.1
    have HQ2 := hide HZ.out.2.2.2
    clear hw
    simp [Leaves, settle, results, Tryz.results77, go_sem, z1, z2, z3]
    exact ⟨none, ⟨rfl, by rw [HTE'.out], by rw [HTE'.out]⟩, BuiltAns.no (by rw [HTE'.out]; exact HQ.out), HQ2.out⟩
end Go.Proofs.YtmnjjjhmnhfapaaGreatDoor
