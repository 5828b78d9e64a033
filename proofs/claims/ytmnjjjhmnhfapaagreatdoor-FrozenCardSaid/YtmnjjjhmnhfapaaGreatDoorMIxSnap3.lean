import Derived.BigRegion
import Derived.Test.YtmnjjjhmnhfapaaGreatDoorMIxSnap2
namespace Go.Proofs.YtmnjjjhmnhfapaaGreatDoor
open Go.RowKit

/-- What Snapshot answers. -/
def snapAns (s : IxSt) : Value := if 8 ≤ s.held.length then .tuple #[.int .i64 0, .int .i64 8] else .tuple #[.int .i64 (s.given + 1 : Nat), .int .i64 0]
/-- The rows of snapshots, with one more. -/
def plusRow (V : Nat → Value) (n : Nat) (v : Value) : Nat → Value := fun i => if i = n then v else V i
/-- The index has its new snapshot: W1 the world behind the count, w2 behind the copy, w3 behind the row's growth. -/
theorem Ix.newSnap {w w2 w3 : World} {X : Nat} {S F : Nat → Prop} {bx bc : Nat} {st : Int} {sh : Bool} {lns : List Tm.Ln} {s : IxSt} {B : Nat → Nat} {V : Nat → Value} {v h v2 h' : Value} (hx : Ix w X S bx bc st sh lns s) (hi : IxIn w X S F bx (placeOf lns st sh) s B V v h) (hX : X ≤ w.heap.size) (h8 : ¬ 8 ≤ s.held.length)
    (hb : Below w.heap.size (w.setCell ⟨bx, 3, none⟩ (.int .i64 (s.given + 1 : Nat))) w2) (ho2 : w2.ownsRow w.heap.size 138 1 v2 s.now.length (ptrs B s.now)) (hgr : w2.grownBy w3 h.ownBlock) (hat : ∀ q, h'.ownBlock = some q → h.ownBlock = some q ∨ w2.heap.size ≤ q) (ho3 : w3.ownsRow X 142 2 h' (s.held.length + 1) (snapCells V s.held ++ [.int .i64 (s.given + 1 : Nat), v2])) :
    IxStep w (w3.setCell ⟨bx, 2, none⟩ h') X S bx bc st sh lns (snapSt s) := by
  have hl := (hx.from_ bx hx.own).2
  have hz : w.heap.size ≤ w2.heap.size := by have := hb.size; simpa [World.setCell] using this
  have hz3 := hgr.size
  have hne : h.ownBlock ≠ some bx := fun e => (hi.hS bx e).2.1 rfl
  have hhlt : ∀ g, h.ownBlock = some g → g < w.heap.size := fun g e => (hx.from_ g (hi.hS g e).1).2
  have hbk : w3.heap[bx]? = (w.setCell ⟨bx, 3, none⟩ (.int .i64 (s.given + 1 : Nat))).heap[bx]? := by rw [hgr.block bx (by omega) (fun e => hne e.symm), hb.block bx hl]
  have hne' : h'.ownBlock ≠ some bx := fun e => by
    rcases hat bx e with e | e
    · exact hne e
    · omega
  have h2lt : ∀ q, v2.ownBlock = some q → w.heap.size ≤ q ∧ q < w2.heap.size := fun q e => ho2.lt q e
  have hcell : ∀ o, o ≠ 3 → w3.cell? ⟨bx, o, none⟩ = w.cell? ⟨bx, o, none⟩ := fun o ho => by
    rw [World.cell?_of_block (a := ⟨bx, o, none⟩) hbk, World.cell?_setCell_other _ _ _ _ (by intro e; cases e; exact ho rfl)]
  have hfoot : Foot (fun i => i = bx ∨ h.ownBlock = some i) w (w3.setCell ⟨bx, 2, none⟩ h') := by
    refine Foot.setCell (p := ⟨bx, 2, none⟩) (Foot.grown ?_ hgr (fun k e => .inl (.inr e))) (.inl (.inl rfl)) _
    exact (Foot.setCell (p := ⟨bx, 3, none⟩) (Foot.refl _ w) (.inl (.inl rfl)) _).then hb
  unfold snapSt
  rw [if_neg h8]
  have hok := hx.ok.snap
  unfold snapSt at hok
  rw [if_neg h8] at hok
  refine hx.turnHeld hi (h' := h') _ _ hfoot ?_ ?_ ?_ ?_ (fun o => ?_) (plusRow V (s.given + 1) v2) (fun i => v2.ownBlock = some i) ?_ (fun g e => ?_) (fun i e => ?_) (fun g hg => ?_) hok
  · rw [World.cell?_setCell_other _ _ _ _ (by simp), hcell 0 (by omega)]
  · rw [World.cell?_setCell_other _ _ _ _ (by simp), hcell 1 (by omega)]
  · exact World.cell?_setCell_same _ _ _ ((hcell 2 (by omega)).trans hi.c2)
  · rw [World.cell?_setCell_other _ _ _ _ (by simp), World.cell?_of_block (a := ⟨bx, 3, none⟩) hbk]
    exact World.cell?_setCell_same _ _ _ hx.c3
  · rw [World.frozen?_setCell, World.frozen?_of_block (a := ⟨bx, o, none⟩) hbk, World.frozen?_setCell]
  · have e1 : snapCells (plusRow V (s.given + 1) v2) (s.held ++ [(s.given + 1, s.now)]) = snapCells V s.held ++ [.int .i64 (s.given + 1 : Nat), v2] := by
      rw [snapCells_append, snapCells_congr (V := V) (fun g hg => by unfold plusRow; rw [if_neg (by have := (hx.ok.given g hg).2; omega)])]
      congr 1
      show [Value.int .i64 ((s.given + 1 : Nat) : Int), plusRow V (s.given + 1) v2 (s.given + 1)] = _
      unfold plusRow
      rw [if_pos rfl]
    rw [e1, List.length_append]
    exact ownsRow_same ho3 (fun g e => Below.heap_setCell _ _ _ _ (by rintro rfl; exact hne' e))
  · rcases hat g e with e1 | e1
    · exact .inl e1
    · exact .inr ⟨by omega, fun e2 => by have := (h2lt g e2).2; omega⟩
  · have := h2lt i e
    exact ⟨this.1, by simp [World.setCell]; omega⟩
  · rcases List.mem_append.1 hg with e | e
    · exact .inl ⟨e, by unfold plusRow; rw [if_neg (by have := (hx.ok.given g e).2; omega)]⟩
    · have hge : g = (s.given + 1, s.now) := by simpa using e
      subst hge
      refine .inr ⟨rfl, ?_, fun b e => ?_⟩
      · show World.ownsRow _ X _ 1 (plusRow V (s.given + 1) v2 (s.given + 1)) s.now.length (ptrs B s.now)
        unfold plusRow
        rw [if_pos rfl]
        refine owns_mono (ownsRow_same ho2 (fun q e => ?_)) hX
        have h3 := h2lt q e
        rw [Below.heap_setCell _ _ _ _ (by show q ≠ bx; omega), hgr.block q h3.2 (fun e2 => by have := hhlt q e2.symm; omega)]
      · unfold plusRow at e
        rw [if_pos rfl] at e
        exact e

set_option maxRecDepth 100000 in
set_option maxHeartbeats 4000000 in
theorem IxSnapshot_any (lns : List Tm.Ln) (bc : Nat) (st : Int) (sh : Bool) (X : Nat) (S : Nat → Prop) (bx : Nat) (s : IxSt) (w : World) (hx : Ix w X S bx bc st sh lns s) (hX : X ≤ w.heap.size) (hgv : s.given ≤ 1000000000000000000) :
    Calls Tryz.prog 26 #[.pointer (some ⟨bx, 0, none⟩)] w fun e w' => e = .returned (snapAns s) ∧ IxStep w w' X S bx bc st sh lns (snapSt s) := by
  obtain ⟨F, B, V, v, vh, hi⟩ := hx.mem
  have hl := (hx.from_ bx hx.own).2
  have c1 := hi.c1
  have c2 := hi.c2
  have c3 := hx.c3
  have f3 := hx.free 3
  have h8 := hx.ok.held8
  have hfew : s.now.length ≤ 64 := by rw [← nowOf_length]; exact hx.few
  have HX := hide hx
  have HI := hide hi
  obtain ⟨a, cap, rfl⟩ := (Reads.of_owns hi.now).shape
  obtain ⟨ah, caph, rfl⟩ := (Reads.of_owns hi.held).shape
  clear hx hi
  by_cases h88 : 8 ≤ s.held.length
  · have i1 : (8 : Int) ≤ (s.held.length : Int) := by omega
    have HANS : Hid (snapAns s = .tuple #[.int .i64 0, .int .i64 8] ∧ IxStep w w X S bx bc st sh lns (snapSt s)) := by
      refine ⟨by unfold snapAns; rw [if_pos h88], ?_⟩
      unfold snapSt
      rw [if_pos h88]
      exact IxStep.of_below HX.out (Below.refl _ _)
    go_enter Tryz.func26, Tryz.ntmps26
    go_wp2
    go_ret2
    exact ⟨by rw [HANS.out.1]; rfl, HANS.out.2⟩
  · have i1 : ¬ (8 : Int) ≤ (s.held.length : Int) := by omega
    obtain ⟨gv, hg1⟩ : ∃ gv, s.given + 1 = gv := ⟨_, rfl⟩
    have HA : Hid (snapAns s = .tuple #[.int .i64 gv, .int .i64 0]) := by unfold Hid snapAns; rw [if_neg h88, hg1]
    have HG := hide hg1
    have i3 : (s.given : Int) + 1 = (gv : Int) := by omega
    have i4 : (gv : Int) ≤ 1000000000000000001 := by omega
    clear hg1
    obtain ⟨W1, hW1⟩ : ∃ W1, w.setCell ⟨bx, 3, none⟩ (.int .i64 gv) = W1 := ⟨_, rfl⟩
    have HW1 := hide hW1
    have hz1 : W1.heap.size = w.heap.size := by rw [← hW1]; simp [World.setCell]
    have d1 : W1.cell? ⟨bx, 1, none⟩ = some (.slice a s.now.length cap) := by rw [← hW1, World.cell?_setCell_other _ _ _ _ (by simp)]; exact c1
    have d2 : W1.cell? ⟨bx, 2, none⟩ = some (.slice ah s.held.length caph) := by rw [← hW1, World.cell?_setCell_other _ _ _ _ (by simp)]; exact c2
    have d3 : W1.cell? ⟨bx, 3, none⟩ = some (.int .i64 gv) := by rw [← hW1]; exact World.cell?_setCell_same _ _ _ c3
    have d4 : W1.frozen? ⟨bx, 2, none⟩ = false := by rw [← hW1, World.frozen?_setCell]; exact HX.out.free 2
    have HR1 : Hid (Reads W1 (.slice a s.now.length cap) 1 s.now.length (ptrs B s.now)) := by
      refine (Reads.of_owns HI.out.now).of_blocks (by omega) (fun g hg => ?_)
      rw [← hW1, Below.heap_setCell _ _ _ _ (HI.out.vS g hg).2.1]
    have HO1 : Hid (W1.ownsRow X 142 2 (.slice ah s.held.length caph) s.held.length (snapCells V s.held)) := ownsRow_same HI.out.held (fun g hg => by rw [← hW1, Below.heap_setCell _ _ _ _ (HI.out.hS g hg).2.1])
    have CC : Hid (Calls Tryz.prog 68 #[.slice a s.now.length cap] W1.drew fun e w2 => ∃ a2 n2 p2, e = .returned (.slice a2 n2 p2) ∧ Below w.heap.size W1 w2 ∧ w2.ownsRow w.heap.size 138 1 (.slice a2 n2 p2) s.now.length (ptrs B s.now)) := by
      refine (Clone_vers _ (ptrs B s.now) s.now.length W1.drew (HR1.out.of_blocks (Nat.le_refl _) (fun _ _ => rfl)) (ptrs_one _ _) (by omega)).mono ?_
      rintro e w2 ⟨v2, rfl, ho2, hb2⟩
      have hb2' : Below w.heap.size W1 w2 := by
        have h9 := (Below.refl W1.heap.size W1).drew.trans hb2
        exact h9.mono (by omega)
      have ho2' : w2.ownsRow w.heap.size 138 1 v2 s.now.length (ptrs B s.now) := owns_mono ho2 (by show w.heap.size ≤ W1.heap.size; omega)
      obtain ⟨a2, p2, rfl⟩ := (Reads.of_owns ho2).shape
      exact ⟨a2, _, p2, rfl, hb2', ho2'⟩
    clear hW1 HR1
    go_enter Tryz.func26, Tryz.ntmps26
    go_upto_region 4 with fail
    rw [HW1.out]
    go_cut [10] from 17 to 34 (fun t wx => Hid (IxStep w wx X S bx bc st sh lns (snapSt s) ∧ bx < wx.heap.size ∧ wx.cell? ⟨bx, 3, none⟩ = some (.int .i64 gv)))
    case first =>
      go_region_with (first
        | (go_at_call 68; refine CC.out.mono ?_; rintro e w2 ⟨a2, n2, p2, rfl, hb2, ho2⟩; have HB2 := hide hb2; have HO2 := hide ho2; have e1 : w2.cell? ⟨bx, 1, none⟩ = some (.slice a s.now.length cap) := (hb2.cell (p := ⟨bx, 1, none⟩) hl).trans d1; have e2 : w2.cell? ⟨bx, 2, none⟩ = some (.slice ah s.held.length caph) := (hb2.cell (p := ⟨bx, 2, none⟩) hl).trans d2; have e3 : w2.cell? ⟨bx, 3, none⟩ = some (.int .i64 gv) := (hb2.cell (p := ⟨bx, 3, none⟩) hl).trans d3; clear hb2 ho2)
        | (go_at_call 67; refine (snapWith_any X (snapCells V s.held) s.held.length _ gv a2 n2 p2 _ (ownsRow_same HO1.out (fun g hg => HB2.out.block g (HI.out.held.lt g hg).2)) (by omega) (by have := HB2.out.size; omega)).mono ?_; rintro e w3 ⟨h3, rfl, ho3, hgr3, hat3⟩; obtain ⟨a3, p3, rfl⟩ := (Reads.of_owns ho3).shape; have HANS := hide (HX.out.newSnap HI.out hX h88 (by rw [HG.out, HW1.out]; exact HB2.out) HO2.out hgr3 hat3 (by rw [HG.out]; exact ho3)); have hb3 : w3.heap[bx]? = w2.heap[bx]? := hgr3.block bx (by have := HB2.out.size; omega) (fun e => (HI.out.hS bx e.symm).2.1 rfl); have g2 : w3.cell? ⟨bx, 2, none⟩ = some (.slice ah s.held.length caph) := (World.cell?_of_block (a := ⟨bx, 2, none⟩) hb3).trans e2; have g3 : w3.cell? ⟨bx, 3, none⟩ = some (.int .i64 gv) := (World.cell?_of_block (a := ⟨bx, 3, none⟩) hb3).trans e3; have g4 : w3.frozen? ⟨bx, 2, none⟩ = false := (World.frozen?_of_block (a := ⟨bx, 2, none⟩) hb3).trans ((HB2.out.frozen (p := ⟨bx, 2, none⟩) hl).trans d4); have g5 : bx < w3.heap.size := (by have := HB2.out.size; have := hgr3.size; omega); clear ho3 hgr3 hat3 hb3))
      all_goals (go_wp2_with fail; go_meet; exact ⟨HANS.out, by simp [World.setCell]; exact g5, by rw [World.cell?_setCell_other _ _ _ _ (by simp)]; exact g3⟩)
    case rest =>
      have hcc := hcut
      obtain ⟨h1, h2, h3⟩ := hcc.out
      have HANS := hide h1
      clear h1 hcc hcut d1 d2 d3
      go_wp2
      go_ret2
      exact ⟨by rw [HA.out]; rfl, HANS.out⟩
end Go.Proofs.YtmnjjjhmnhfapaaGreatDoor
