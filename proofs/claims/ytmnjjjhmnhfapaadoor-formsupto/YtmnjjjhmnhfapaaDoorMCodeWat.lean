import Derived.Test.YtmnjjjhmnhfapaaDoorMCodeLines
import Derived.Test.YtmnjjjhmnhfapaaDoorMSortMem
import Derived.Test.YtmnjjjhmnhfapaaDoorMPlain
namespace Go.Proofs.YtmnjjjhmnhfapaaDoor
open Go.RowKit

/-- What a check of all lines comes to. -/
def checkAns (r : Option Tm.Ln) (q : Int) (lns : List Tm.Ln) (base bd bm : Nat) (w : World) (e : Ending) (w' : World) : Prop := match r with
  | none => e = .returned (.tuple #[]) ∧ Sole base bm w w' ∧ ∃ col line vp vw, Rep w' col base bd bm line vp vw lns
  | some o => tells e q ∧ Sole base bm w w' ∧ w'.cell? ⟨bd, 1, none⟩ = some (.int .i64 o.num)
theorem checkAns_ok {r : Option Tm.Ln} {q : Int} {lns : List Tm.Ln} {base bd bm : Nat} {w : World} {e : Ending} {w' : World} (h : r = none) (he : e = .returned (.tuple #[])) (hb : Sole base bm w w') (hr : ∃ col line vp vw, Rep w' col base bd bm line vp vw lns) : checkAns r q lns base bd bm w e w' := by
  subst h; exact ⟨he, hb, hr⟩
theorem checkAns_no {r : Option Tm.Ln} {o : Tm.Ln} {q : Int} {lns : List Tm.Ln} {base bd bm : Nat} {w : World} {e : Ending} {w' : World} (h : r = some o) (he : tells e q) (hb : Sole base bm w w') (hc : w'.cell? ⟨bd, 1, none⟩ = some (.int .i64 o.num)) : checkAns r q lns base bd bm w e w' := by
  subst h; exact ⟨he, hb, hc⟩

theorem find_more {l : List Tm.Ln} {p : Tm.Ln → Bool} {k : Nat} (h : (l.take k).find? p = none) (hk : k < l.length) (hx : p l[k] = false) : (l.take (k + 1)).find? p = none := by
  rw [List.take_succ_eq_append_getElem hk, List.find?_append, h]; simp [hx]
theorem find_here {l : List Tm.Ln} {p : Tm.Ln → Bool} {k : Nat} (h : (l.take k).find? p = none) (hk : k < l.length) (hx : p l[k] = true) : l.find? p = some l[k] := by
  have e : l.find? p = (l.take k ++ l.drop k).find? p := by rw [List.take_append_drop]
  rw [e, List.find?_append, h, List.drop_eq_getElem_cons hk, List.find?_cons, hx]; rfl

theorem parted_at {w : World} {col : Nat → Int} {base : Nat} {a : Option Addr} {m cap : Nat} {lns : List Tm.Ln} (h : Pt w col base (.slice a m cap) lns) {k : Nat} (hk : k < (Tm.dLines lns).length) :
    ∃ g off, a = some ⟨g, off, none⟩ ∧ g < w.heap.size ∧ w.cell? ⟨g, off + k * 2, none⟩ = some (.int .i64 (Tm.dLines lns)[k].num) ∧ w.cell? ⟨g, off + k * 2 + 1, none⟩ = some (.int .i64 ((Tm.dLines lns)[k].runes.getD 0 0)) := by
  have hlen : (partCells (Tm.dLines lns)).length = (Tm.dLines lns).length * 2 := h.1.1
  obtain ⟨g, off, cap', he, hg, hc⟩ := (Reads.of_owns h.1).form (by omega)
  cases he
  refine ⟨g, off, rfl, hg, ?_, ?_⟩
  · exact hc (k * 2) _ (by have := partCells_get hk (f := 0) (by omega); simpa using this)
  · exact hc (k * 2 + 1) _ (by have := partCells_get hk (f := 1) (by omega); simpa using this)

/-- Does a line's parts not end? -/
def loops (lns : List Tm.Ln) (o : Tm.Ln) : Bool := !Tm.ends lns 4 (o.runes.getD 0 0)
theorem loops_find (lns : List Tm.Ln) : (Tm.dLines lns).find? (loops lns) = lns.find? (Tm.badLoop lns) := by
  unfold Tm.dLines
  rw [List.find?_filter]
  congr 1
  funext o
  rw [Tm.badLoop_ends, loops]
  simp

set_option maxRecDepth 100000 in
set_option maxHeartbeats 2000000 in
theorem checkParts_any (lns : List Tm.Ln) (col : Nat → Int) (base bd bm : Nat) (line : Int) (vp vw : Value) (w : World) (hrep : Rep w col base bd bm line vp vw lns) (hn : lns.length ≤ 8192) :
    Calls Tryd.prog 69 #[.pointer (some ⟨bd, 0, none⟩)] w fun e w' => checkAns (lns.find? (Tm.badLoop lns)) 3 lns base bd bm w e w' := by
  obtain ⟨a, cap, rfl⟩ := (Reads.of_owns hrep.pt.1).shape
  have hdl := dLines_le lns
  have d2 := hrep.dr.c2
  have HREP := hide hrep
  clear hrep
  go_enter Tryd.func69, Tryd.ntmps69
  go_wp2
  go_loopw [9] (fun i wr => ∃ (k : Nat) (line' : Int), k ≤ (Tm.dLines lns).length ∧ i = .int .i64 k ∧ ((Tm.dLines lns).take k).find? (loops lns) = none ∧ Rep wr col base bd bm line' (.slice a (Tm.dLines lns).length cap) vw lns ∧ Sole base bm w wr) (fun i _ => (Tm.dLines lns).length - (intOf i).toNat)
  case atStart => exact ⟨0, line, Nat.zero_le _, rfl, by simp, HREP.out, Sole.refl _ _ _⟩
  case round =>
    obtain ⟨k, line', hk, rfl, hfind, hrep, hb⟩ := hrel
    have HR := hide hrep
    have HB := hide hb
    by_cases hlt : k < (Tm.dLines lns).length
    · obtain ⟨g, off, rfl, hg, c0, c1⟩ := parted_at hrep.pt hlt
      have HMORE := hide (fun hx => find_more (p := loops lns) hfind hlt hx)
      have HHERE := hide (fun hx => find_here (p := loops lns) hfind hlt hx)
      have hmem : (Tm.dLines lns)[k] ∈ lns := (List.mem_filter.1 (List.getElem_mem hlt)).1
      have hfit := hrep.fit _ hmem
      have hrr : 0 ≤ (Tm.dLines lns)[k].runes.getD 0 0 ∧ (Tm.dLines lns)[k].runes.getD 0 0 ≤ 1114111 := by
        cases hr : (Tm.dLines lns)[k].runes with
        | nil => exact absurd hr hfit.some
        | cons x y => exact hfit.rune x (by rw [hr]; simp)
      have e1 := hrep.dr.c1
      have ef := hrep.dr.free
      have e0 := hrep.dr.c0
      have el := hrep.dr.lt
      have bn : ¬ bd = wr.heap.size := by omega
      have bn' : ¬ wr.heap.size = bd := by omega
      have gn : ¬ g = wr.heap.size := by omega
      have HW : Hid (∀ n t : Int, Rep ((wr.setCell ⟨bd, 1, none⟩ (.int .i64 n)).alloc (.cells #[.int .i64 n, .int .i64 t] 149)) col base bd bm n (.slice (some ⟨g, off, none⟩) (Tm.dLines lns).length cap) vw lns) := fun n t => (HR.out.at_line n).below ((Below.refl _ _).alloc (Nat.le_refl _) _)
      have HWB : Hid (∀ n t : Int, Sole base bm w ((wr.setCell ⟨bd, 1, none⟩ (.int .i64 n)).alloc (.cells #[.int .i64 n, .int .i64 t] 149))) := fun n t => (HB.out.setCell (p := ⟨bd, 1, none⟩) HR.out.dr.from_ _).alloc (by have := HR.out.dr.from_; simp [World.setCell]; omega) _
      have hlo : loops lns (Tm.dLines lns)[k] = !Tm.ends lns 4 ((Tm.dLines lns)[k].runes.getD 0 0) := rfl
      rw [hlo] at HMORE HHERE
      generalize hnum : (Tm.dLines lns)[k].num = num at *
      generalize (Tm.dLines lns)[k].runes.getD 0 0 = top at *
      have HNUM := hide hnum
      clear hfind hrep hb hmem hfit hlo hnum
      go_wp2_with fail
      have HRW := hide (HW.out num top)
      have HBW := hide (HWB.out num top)
      have y0 := HRW.out.dr.c0
      have y1 := HRW.out.dr.c1
      have x1 : ((wr.setCell ⟨bd, 1, none⟩ (.int .i64 num)).alloc (.cells #[.int .i64 num, .int .i64 top] 149)).cell? ⟨wr.heap.size, 1, none⟩ = some (.int .i64 top) := by
        rw [cell_new (by simp [World.setCell])]; rfl
      generalize ((wr.setCell ⟨bd, 1, none⟩ (.int .i64 num)).alloc (.cells #[.int .i64 num, .int .i64 top] 149)) = wx at *
      cases hends : Tm.ends lns 4 top
      · have HN : Hid (lns.find? (Tm.badLoop lns) = some (Tm.dLines lns)[k]) := by unfold Hid; rw [← loops_find]; exact HHERE.out (by rw [hends]; rfl)
        clear HMORE HHERE
        go_region_dies
        all_goals go_wp2_with (go_at_call 88; refine (endsWithin_any lns HRW.out.fit bm 4 top _ (Nat.le_refl _) (HRW.out.nd.rd.below (Below.refl _ _).drew) hrr).mono ?_; rintro e w' ⟨rfl, rfl⟩)
        all_goals (refine wpAny_ready (rs := [7]) (by decide +kernel) (by simp) ?_; refine AllReady.cons rfl (fun K hK => ?_) ?_; go_simp; refine hK _ _ ?_; clear hK K; rotate_left; exact AllReady.nil)
        all_goals (refine wpAny_ready (rs := [8]) (by decide +kernel) (by simp) ?_; refine AllReady.cons rfl (fun K hK => ?_) ?_; go_simp; rotate_left; exact AllReady.nil)
        all_goals (go_at_call 87; refine (refuse_yes 3 _).mono ?_; rintro e w' ⟨rfl, rfl⟩; exact ⟨rfl, checkAns_no HN.out rfl HBW.out.drew (by rw [HNUM.out]; exact y1)⟩)
      · have HS := hide (HMORE.out (by rw [hends]; rfl))
        clear HMORE HHERE
        go_quiet (first | (go_at_call 88; refine Calls.quiet_of_same ((endsWithin_any lns HRW.out.fit bm 4 top _ (Nat.le_refl _) (HRW.out.nd.rd.below ⟨rfl, rfl, rfl, Nat.le_refl _, fun _ _ => rfl⟩) hrr))) | (go_at_call 87; refine Calls.quiet_of_same (refuse_no 3 _)))
        go_wp2
        go_roundw
        case rel => exact ⟨k + 1, num, by omega, by go_num, HS.out, HRW.out.below ⟨rfl, rfl, rfl, Nat.le_refl _, fun _ _ => rfl⟩, HBW.out.then ⟨rfl, rfl, rfl, Nat.le_refl _, fun _ _ => rfl⟩⟩
        case measure => simp [intOf]; omega
    · have HN : Hid (lns.find? (Tm.badLoop lns) = none) := by
        rw [List.take_of_length_le (by omega)] at hfind
        unfold Hid; rw [← loops_find]; exact hfind
      clear hfind hrep hb
      go_wp2
      go_end0
      exact checkAns_ok HN.out rfl HB.out ⟨_, _, _, _, HR.out⟩
end Go.Proofs.YtmnjjjhmnhfapaaDoor
namespace Go.Proofs.YtmnjjjhmnhfapaaDoor
open Go.RowKit

/-- A slice value reads as the lines w. -/
def WsRd (w : World) (v : Value) (ls : List Tm.Ln) : Prop :=
  ∃ a cap, v = .slice a ls.length cap ∧ ∀ k (hk : k < ls.length), ∃ g off x1 x2, a = some ⟨g, off, none⟩ ∧ g < w.heap.size ∧ w.cell? ⟨g, off + k * 3, none⟩ = some (.int .i64 ls[k].num) ∧ w.cell? ⟨g, off + k * 3 + 1, none⟩ = some x1 ∧ w.cell? ⟨g, off + k * 3 + 2, none⟩ = some x2 ∧
    Reads w x1 1 ls[k].runes.length (ints ls[k].runes) ∧ Reads w x2 4 ls[k].els.length (elsCells ls[k].els)
theorem Wt.rd {w : World} {col : Nat → Int} {base : Nat} {v : Value} {lns : List Tm.Ln} (h : Wt w col base v lns) : WsRd w v (Tm.wLines lns) := by
  obtain ⟨xs, hl, hr, hok⟩ := h
  obtain ⟨a, cap, rfl⟩ := (Reads.of_owns hr.1).shape
  refine ⟨a, cap, rfl, fun k hk => ?_⟩
  have hk' : k < xs.length := by omega
  have hlen : (seqCells true xs (Tm.wLines lns)).length = (Tm.wLines lns).length * 3 := hr.1.1
  obtain ⟨g, off, cap', he, hg, hc⟩ := (Reads.of_owns hr.1).form (by omega)
  cases he
  refine ⟨g, off, xs[k].1, xs[k].2, rfl, hg, ?_, ?_, ?_, (hok k hk hk').1.1, (hok k hk hk').2.1⟩
  · exact hc (k * 3) _ (by have := seqCells_get3 hl hk hk' (f := 0) (by omega); simpa using this)
  · exact hc (k * 3 + 1) _ (by have := seqCells_get3 hl hk hk' (f := 1) (by omega); simpa using this)
  · exact hc (k * 3 + 2) _ (by have := seqCells_get3 hl hk hk' (f := 2) (by omega); simpa using this)
theorem WsRd.below {w w' : World} {v : Value} {ls : List Tm.Ln} (h : WsRd w v ls) (hb : Below w.heap.size w w') : WsRd w' v ls := by
  obtain ⟨a, cap, rfl, hc⟩ := h
  refine ⟨a, cap, rfl, fun k hk => ?_⟩
  obtain ⟨g, off, x1, x2, rfl, hg, c0, c1, c2, h1, h2⟩ := hc k hk
  exact ⟨g, off, x1, x2, rfl, Nat.lt_of_lt_of_le hg hb.size, by rw [hb.cell (p := ⟨g, off + k * 3, none⟩) hg]; exact c0, by rw [hb.cell (p := ⟨g, off + k * 3 + 1, none⟩) hg]; exact c1, by rw [hb.cell (p := ⟨g, off + k * 3 + 2, none⟩) hg]; exact c2, h1.below hb h1.2.1, h2.below hb h2.2.1⟩

theorem leastEls_range {els : List Tm.El} (h : ∀ e ∈ els, 0 ≤ e.p ∧ e.p ≤ 65535) {m : Int} (hm : 0 ≤ m ∧ m ≤ 65536) : 0 ≤ Tm.leastEls els m ∧ Tm.leastEls els m ≤ 65536 := by
  induction els generalizing m with
  | nil => exact hm
  | cons x r ih =>
    have : Tm.leastEls (x :: r) m = Tm.leastEls r (Tm.leastEl m x) := rfl
    rw [this]
    refine ih (fun e he => h e (by simp [he])) ?_
    have hx := h x (by simp)
    unfold Tm.leastEl
    split <;> omega

set_option maxRecDepth 100000 in
set_option maxHeartbeats 2000000 in
theorem leastPrimary_any (lns : List Tm.Ln) (vw : Value) (bd : Nat) (w : World) (hc : w.cell? ⟨bd, 3, none⟩ = some vw) (hw : WsRd w vw (Tm.wLines lns)) (hf : ∀ o ∈ lns, Tm.Fit o) (hn : lns.length ≤ 8192) :
    Calls Tryd.prog 91 #[.pointer (some ⟨bd, 0, none⟩)] w fun e w' => e = .returned (.int .i64 (Tm.bound lns)) ∧ Below w.heap.size w w' := by
  obtain ⟨ls, hls⟩ : ∃ ls, Tm.wLines lns = ls := ⟨_, rfl⟩
  have HB0 : Hid (Tm.bound lns = Tm.leastLns ls 65536) := by unfold Hid Tm.bound; rw [hls]
  have hle := wLines_le lns
  have HWT : Hid (∀ o ∈ ls, ∀ e ∈ o.els, 0 ≤ e.p ∧ e.p ≤ 65535) := fun o ho e he => ((hf o (by rw [← hls] at ho; exact (List.mem_filter.1 ho).1)).weight e he).1
  have HFW : Hid (∀ o ∈ ls, o.els.length ≤ 4) := fun o ho => (hf o (by rw [← hls] at ho; exact (List.mem_filter.1 ho).1)).els
  rw [hls] at hw hle
  have HW := hide hw
  obtain ⟨a, cap, rfl, _⟩ := hw
  clear hls hf
  go_enter Tryd.func91, Tryd.ntmps91
  go_wp2
  go_loopw [3, 13] (fun m i wr => ∃ (k : Nat) (q : Int), k ≤ ls.length ∧ i = .int .i64 k ∧ m = .int .i64 q ∧ q = Tm.leastLns (ls.take k) 65536 ∧ (0 ≤ q ∧ q ≤ 65536) ∧ Below w.heap.size w wr) (fun _ i _ => ls.length - (intOf i).toNat)
  case atStart => exact ⟨0, 65536, Nat.zero_le _, rfl, rfl, rfl, by omega, Below.refl _ _⟩
  case round =>
    obtain ⟨k, q, hk, rfl, rfl, hq, hqr, hb⟩ := hrel
    have HB := hide hb
    have HQ := hide hq
    have hz := hb.size
    clear hq
    by_cases hlt : k < ls.length
    · obtain ⟨a', cap', he, hcs⟩ := HW.out
      cases he
      obtain ⟨g, off, x1, x2, rfl, hg, c0, c1, c2, r1, r2⟩ := hcs k hlt
      have hcc : ∀ o, wr.cell? ⟨g, o, none⟩ = w.cell? ⟨g, o, none⟩ := fun o => hb.cell (p := ⟨g, o, none⟩) hg
      rw [← hcc] at c0 c1 c2
      obtain ⟨a1, cap1, rfl⟩ := r1.shape
      obtain ⟨a2, cap2, rfl⟩ := r2.shape
      have HST := hide (Tm.leastLns_snoc (m := 65536) hlt)
      have HEW := hide (HWT.out _ (List.getElem_mem hlt))
      have hel := HFW.out _ (List.getElem_mem hlt)
      have gn : ¬ g = wr.heap.size := by omega
      generalize ls[k].els = els at *
      generalize ls[k].num = num at *
      generalize ls[k].runes.length = rl at *
      have R2 := hide r2
      have HB1 : Hid (Below w.heap.size w (wr.alloc (.cells #[.int .i64 num, .slice a1 rl cap1, .slice a2 els.length cap2] 155))) := HB.out.alloc hz _
      clear hcs hb r1 r2 hcc
      go_wp2_with fail
      go_loopw [3, 21] (fun m i wi => ∃ (j : Nat) (p : Int), j ≤ els.length ∧ i = .int .i64 j ∧ m = .int .i64 p ∧ p = Tm.leastEls (els.take j) q ∧ (0 ≤ p ∧ p ≤ 65536) ∧ Below w.heap.size w wi) (fun _ i _ => els.length - (intOf i).toNat)
      case atStart => exact ⟨0, q, Nat.zero_le _, rfl, rfl, rfl, hqr, HB1.out⟩
      case round =>
        obtain ⟨j, p, hj, rfl, rfl, hp, hpr, hb2⟩ := hrel
        have HB2 := hide hb2
        have HP := hide hp
        have hz2 := hb2.size
        clear hp
        by_cases hjt : j < els.length
        · obtain ⟨g2, off2, rfl, hg2, e0, e1, e2, e3⟩ := els_at R2.out hjt
          have hcc : ∀ o, wr.cell? ⟨g2, o, none⟩ = w.cell? ⟨g2, o, none⟩ := fun o => hb2.cell (p := ⟨g2, o, none⟩) hg2
          rw [← hcc] at e0 e1 e2 e3
          have HS2 := hide (Tm.leastEls_snoc (m := q) hjt)
          have hx := HEW.out _ (List.getElem_mem hjt)
          have g2n : ¬ g2 = wr.heap.size := by omega
          generalize els[j] = x at *
          clear hcc hb2
          have HB3 : Hid (Below w.heap.size w (wr.alloc (.cells #[.int .i64 x.p, .int .i64 x.s, .int .i64 x.t, .bool x.v] 64))) := HB2.out.alloc hz2 _
          cases hv : x.v
          · cases hp0 : (x.p != 0)
            · have HE : Hid (Tm.leastEl p x = p) := by unfold Hid Tm.leastEl; rw [hv, hp0]; rfl
              go_wp2
              go_roundw
              case rel => exact ⟨j + 1, p, by omega, by go_num, rfl, by rw [HS2.out, ← HP.out, HE.out], hpr, by rw [← hv]; exact HB3.out⟩
              case measure => simp [intOf]; omega
            · have HE : Hid (Tm.leastEl p x = min p x.p) := by unfold Hid Tm.leastEl; rw [hv, hp0]; rfl
              go_wp2
              go_roundw
              case rel => exact ⟨j + 1, min p x.p, by omega, by go_num, by go_num, by rw [HS2.out, ← HP.out, HE.out], by omega, by rw [← hv]; exact HB3.out⟩
              case measure => simp [intOf]; omega
          · have HE : Hid (Tm.leastEl p x = p) := by unfold Hid Tm.leastEl; rw [hv]; rfl
            go_wp2
            go_roundw
            case rel => exact ⟨j + 1, p, by omega, by go_num, rfl, by rw [HS2.out, ← HP.out, HE.out], hpr, by rw [← hv]; exact HB3.out⟩
            case measure => simp [intOf]; omega
        · have HE : Hid (p = Tm.leastLns (ls.take (k + 1)) 65536) := by unfold Hid; rw [HST.out, ← HQ.out, HP.out, List.take_of_length_le (by omega)]
          clear hb2
          go_wp2
          go_roundw
          case rel => exact ⟨k + 1, p, by omega, by go_num, rfl, HE.out, hpr, HB2.out⟩
          case measure => simp [intOf]; omega
    · have HF : Hid (Tm.bound lns = q) := by unfold Hid; rw [HB0.out, HQ.out, List.take_of_length_le (by omega)]
      clear hb
      go_wp2
      go_ret
      exact ⟨ret_int HF.out.symm, HB.out⟩
end Go.Proofs.YtmnjjjhmnhfapaaDoor
namespace Go.Proofs.YtmnjjjhmnhfapaaDoor
open Go.RowKit

theorem weighed_at {w : World} {col : Nat → Int} {base : Nat} {a : Option Addr} {m cap : Nat} {lns : List Tm.Ln} (h : Wt w col base (.slice a m cap) lns) {k : Nat} (hk : k < (Tm.wLines lns).length) :
    ∃ g off x1 x2, a = some ⟨g, off, none⟩ ∧ g < w.heap.size ∧ w.cell? ⟨g, off + k * 3, none⟩ = some (.int .i64 (Tm.wLines lns)[k].num) ∧ w.cell? ⟨g, off + k * 3 + 1, none⟩ = some x1 ∧ w.cell? ⟨g, off + k * 3 + 2, none⟩ = some x2 ∧
      SeqOk w col (x1, x2) (Tm.wLines lns)[k] := by
  obtain ⟨xs, hl, hr, hok⟩ := h
  have hk' : k < xs.length := by omega
  have hlen : (seqCells true xs (Tm.wLines lns)).length = (Tm.wLines lns).length * 3 := hr.1.1
  obtain ⟨g, off, cap', he, hg, hc⟩ := (Reads.of_owns hr.1).form (by omega)
  cases he
  refine ⟨g, off, xs[k].1, xs[k].2, rfl, hg, ?_, ?_, ?_, hok k hk hk'⟩
  · exact hc (k * 3) _ (by have := seqCells_get3 hl hk hk' (f := 0) (by omega); simpa using this)
  · exact hc (k * 3 + 1) _ (by have := seqCells_get3 hl hk hk' (f := 1) (by omega); simpa using this)
  · exact hc (k * 3 + 2) _ (by have := seqCells_get3 hl hk hk' (f := 2) (by omega); simpa using this)
end Go.Proofs.YtmnjjjhmnhfapaaDoor
