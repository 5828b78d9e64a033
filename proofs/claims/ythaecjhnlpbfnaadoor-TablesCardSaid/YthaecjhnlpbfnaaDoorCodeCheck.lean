import Derived.Test.YthaecjhnlpbfnaaDoorCodeLines
import Derived.Test.YthaecjhnlpbfnaaDoorCodeEnds
namespace Go.Proofs.YthaecjhnlpbfnaaDoor
open Go.RowKit

/-- What a check of all lines comes to. -/
def checkAns (r : Option Tm.Ln) (q : Int) (lns : List Tm.Ln) (base bd bm : Nat) (w : World) (e : Ending) (w' : World) : Prop := match r with
  | none => e = .returned (.tuple #[]) ∧ Sole base bm w w' ∧ ∃ col line vp vw, Rep w' col base bd bm line vp vw lns
  | some o => tells e q ∧ Sole base bm w w' ∧ w'.cell? ⟨bd, 1, none⟩ = some (.int .i64 o.num)
theorem checkAns_ok {r : Option Tm.Ln} {q : Int} {lns : List Tm.Ln} {base bd bm : Nat} {w : World} {e : Ending} {w' : World} (h : r = none) (he : e = .returned (.tuple #[])) (hb : Sole base bm w w') (hr : ∃ col line vp vw, Rep w' col base bd bm line vp vw lns) : checkAns r q lns base bd bm w e w' := by
  subst h; exact ⟨he, hb, hr⟩
theorem checkAns_no {r : Option Tm.Ln} {o : Tm.Ln} {q : Int} {lns : List Tm.Ln} {base bd bm : Nat} {w : World} {e : Ending} {w' : World} (h : r = some o) (he : tells e q) (hb : Sole base bm w w') (hc : w'.cell? ⟨bd, 1, none⟩ = some (.int .i64 o.num)) : checkAns r q lns base bd bm w e w' := by
  subst h; exact ⟨he, hb, hc⟩

theorem find_more {l : List Tm.Ln} {p : Tm.Ln → Bool} {k : Nat} (h : (l.take k).find? p = none) (hk : k < l.length) (hx : p l[k] = false) : (l.take (k + 1)).find? p = none := by
  rw [List.take_succ_eq_append_getElem hk, List.find?_append, h]; simp [hx]
theorem find_here {l : List Tm.Ln} {p : Tm.Ln → Bool} {k : Nat} (h : (l.take k).find? p = none) (hk : k < l.length) (hx : p l[k] = true) : l.find? p = some l[k] := by
  have e : l.find? p = (l.take k ++ l.drop k).find? p := by rw [List.take_append_drop]
  rw [e, List.find?_append, h, List.drop_eq_getElem_cons hk, List.find?_cons, hx]; rfl

theorem parted_at {w : World} {col : Nat → Int} {base : Nat} {a : Option Addr} {m cap : Nat} {lns : List Tm.Ln} (h : Pt w col base (.slice a m cap) lns) {k : Nat} (hk : k < (Tm.dLines lns).length) :
    ∃ g off, a = some ⟨g, off, none⟩ ∧ g < w.heap.size ∧ w.cell? ⟨g, off + k * 2, none⟩ = some (.int .i64 (Tm.dLines lns)[k].num) ∧ w.cell? ⟨g, off + k * 2 + 1, none⟩ = some (.int .i64 ((Tm.dLines lns)[k].runes.getD 0 0)) := by
  have hlen : (partCells (Tm.dLines lns)).length = (Tm.dLines lns).length * 2 := h.1.1
  obtain ⟨g, off, cap', he, hg, hc⟩ := (Reads.of_owns h.1).form (by omega)
  cases he
  refine ⟨g, off, rfl, hg, ?_, ?_⟩
  · exact hc (k * 2) _ (by have := partCells_get hk (f := 0) (by omega); simpa using this)
  · exact hc (k * 2 + 1) _ (by have := partCells_get hk (f := 1) (by omega); simpa using this)

/-- Does a line's parts not end? -/
def loops (lns : List Tm.Ln) (o : Tm.Ln) : Bool := !Tm.ends lns 4 (o.runes.getD 0 0)
theorem loops_find (lns : List Tm.Ln) : (Tm.dLines lns).find? (loops lns) = lns.find? (Tm.badLoop lns) := by
  unfold Tm.dLines
  rw [List.find?_filter]
  congr 1
  funext o
  rw [Tm.badLoop_ends, loops]
  simp

set_option maxRecDepth 100000 in
set_option maxHeartbeats 2000000 in
theorem checkParts_any (lns : List Tm.Ln) (col : Nat → Int) (base bd bm : Nat) (line : Int) (vp vw : Value) (w : World) (hrep : Rep w col base bd bm line vp vw lns) (hn : lns.length ≤ 8192) :
    Calls Tryd.prog 69 #[.pointer (some ⟨bd, 0, none⟩)] w fun e w' => checkAns (lns.find? (Tm.badLoop lns)) 3 lns base bd bm w e w' := by
  obtain ⟨a, cap, rfl⟩ := (Reads.of_owns hrep.pt.1).shape
  have hdl := dLines_le lns
  have d2 := hrep.dr.c2
  have HREP := hide hrep
  clear hrep
  go_enter Tryd.func69, Tryd.ntmps69
  go_wp2
  go_loopw [9] (fun i wr => ∃ (k : Nat) (line' : Int), k ≤ (Tm.dLines lns).length ∧ i = .int .i64 k ∧ ((Tm.dLines lns).take k).find? (loops lns) = none ∧ Rep wr col base bd bm line' (.slice a (Tm.dLines lns).length cap) vw lns ∧ Sole base bm w wr) (fun i _ => (Tm.dLines lns).length - (intOf i).toNat)
  case atStart => exact ⟨0, line, Nat.zero_le _, rfl, by simp, HREP.out, Sole.refl _ _ _⟩
  case round =>
    obtain ⟨k, line', hk, rfl, hfind, hrep, hb⟩ := hrel
    have HR := hide hrep
    have HB := hide hb
    by_cases hlt : k < (Tm.dLines lns).length
    · obtain ⟨g, off, rfl, hg, c0, c1⟩ := parted_at hrep.pt hlt
      have HMORE := hide (fun hx => find_more (p := loops lns) hfind hlt hx)
      have HHERE := hide (fun hx => find_here (p := loops lns) hfind hlt hx)
      have hmem : (Tm.dLines lns)[k] ∈ lns := (List.mem_filter.1 (List.getElem_mem hlt)).1
      have hfit := hrep.fit _ hmem
      have hrr : 0 ≤ (Tm.dLines lns)[k].runes.getD 0 0 ∧ (Tm.dLines lns)[k].runes.getD 0 0 ≤ 1114111 := by
        cases hr : (Tm.dLines lns)[k].runes with
        | nil => exact absurd hr hfit.some
        | cons x y => exact hfit.rune x (by rw [hr]; simp)
      have e1 := hrep.dr.c1
      have ef := hrep.dr.free
      have e0 := hrep.dr.c0
      have el := hrep.dr.lt
      have bn : ¬ bd = wr.heap.size := by omega
      have bn' : ¬ wr.heap.size = bd := by omega
      have gn : ¬ g = wr.heap.size := by omega
      have HW : Hid (∀ n t : Int, Rep ((wr.setCell ⟨bd, 1, none⟩ (.int .i64 n)).alloc (.cells #[.int .i64 n, .int .i64 t] 149)) col base bd bm n (.slice (some ⟨g, off, none⟩) (Tm.dLines lns).length cap) vw lns) := fun n t => (HR.out.at_line n).below ((Below.refl _ _).alloc (Nat.le_refl _) _)
      have HWB : Hid (∀ n t : Int, Sole base bm w ((wr.setCell ⟨bd, 1, none⟩ (.int .i64 n)).alloc (.cells #[.int .i64 n, .int .i64 t] 149))) := fun n t => (HB.out.setCell (p := ⟨bd, 1, none⟩) HR.out.dr.from_ _).alloc (by have := HR.out.dr.from_; simp [World.setCell]; omega) _
      have hlo : loops lns (Tm.dLines lns)[k] = !Tm.ends lns 4 ((Tm.dLines lns)[k].runes.getD 0 0) := rfl
      rw [hlo] at HMORE HHERE
      generalize hnum : (Tm.dLines lns)[k].num = num at *
      generalize (Tm.dLines lns)[k].runes.getD 0 0 = top at *
      have HNUM := hide hnum
      clear hfind hrep hb hmem hfit hlo hnum
      go_wp2_with fail
      have HRW := hide (HW.out num top)
      have HBW := hide (HWB.out num top)
      have y0 := HRW.out.dr.c0
      have y1 := HRW.out.dr.c1
      have x1 : ((wr.setCell ⟨bd, 1, none⟩ (.int .i64 num)).alloc (.cells #[.int .i64 num, .int .i64 top] 149)).cell? ⟨wr.heap.size, 1, none⟩ = some (.int .i64 top) := by
        rw [cell_new (by simp [World.setCell])]; rfl
      generalize ((wr.setCell ⟨bd, 1, none⟩ (.int .i64 num)).alloc (.cells #[.int .i64 num, .int .i64 top] 149)) = wx at *
      cases hends : Tm.ends lns 4 top
      · have HN : Hid (lns.find? (Tm.badLoop lns) = some (Tm.dLines lns)[k]) := by unfold Hid; rw [← loops_find]; exact HHERE.out (by rw [hends]; rfl)
        clear HMORE HHERE
        go_region_dies
        all_goals go_wp2_with (go_at_call 88; refine (endsWithin_any lns HRW.out.fit bm 4 top _ (Nat.le_refl _) (HRW.out.nd.rd.below (Below.refl _ _).drew) hrr).mono ?_; rintro e w' ⟨rfl, rfl⟩)
        all_goals (refine wpAny_ready (rs := [7]) (by decide +kernel) (by simp) ?_; refine AllReady.cons rfl (fun K hK => ?_) ?_; go_simp; refine hK _ _ ?_; clear hK K; rotate_left; exact AllReady.nil)
        all_goals (refine wpAny_ready (rs := [8]) (by decide +kernel) (by simp) ?_; refine AllReady.cons rfl (fun K hK => ?_) ?_; go_simp; rotate_left; exact AllReady.nil)
        all_goals (go_at_call 87; refine (refuse_yes 3 _).mono ?_; rintro e w' ⟨rfl, rfl⟩; exact ⟨rfl, checkAns_no HN.out rfl HBW.out.drew (by rw [HNUM.out]; exact y1)⟩)
      · have HS := hide (HMORE.out (by rw [hends]; rfl))
        clear HMORE HHERE
        go_quiet (first | (go_at_call 88; refine Calls.quiet_of_same ((endsWithin_any lns HRW.out.fit bm 4 top _ (Nat.le_refl _) (HRW.out.nd.rd.below ⟨rfl, rfl, rfl, Nat.le_refl _, fun _ _ => rfl⟩) hrr))) | (go_at_call 87; refine Calls.quiet_of_same (refuse_no 3 _)))
        go_wp2
        go_roundw
        case rel => exact ⟨k + 1, num, by omega, by go_num, HS.out, HRW.out.below ⟨rfl, rfl, rfl, Nat.le_refl _, fun _ _ => rfl⟩, HBW.out.then ⟨rfl, rfl, rfl, Nat.le_refl _, fun _ _ => rfl⟩⟩
        case measure => simp [intOf]; omega
    · have HN : Hid (lns.find? (Tm.badLoop lns) = none) := by
        rw [List.take_of_length_le (by omega)] at hfind
        unfold Hid; rw [← loops_find]; exact hfind
      clear hfind hrep hb
      go_wp2
      go_end0
      exact checkAns_ok HN.out rfl HB.out ⟨_, _, _, _, HR.out⟩
end Go.Proofs.YthaecjhnlpbfnaaDoor
