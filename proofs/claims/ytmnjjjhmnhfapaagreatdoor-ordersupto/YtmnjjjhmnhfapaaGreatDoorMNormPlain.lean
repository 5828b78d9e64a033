import Derived.Test.YtmnjjjhmnhfapaaGreatDoorMRefTwice
import Derived.Test.YtmnjjjhmnhfapaaGreatDoorMRefRunes
namespace Go.Proofs.YtmnjjjhmnhfapaaGreatDoor
open Go.RowKit

theorem class_no {lns : List Tm.Ln} {r : Int} (h : lns.find? (Tm.isClass r) = none) : Tm.classOf lns r = 0 := by unfold Tm.classOf; rw [h]
theorem class_some {lns : List Tm.Ln} {r : Int} {o : Tm.Ln} (h : lns.find? (Tm.isClass r) = some o) : Tm.classOf lns r = o.runes.getD 1 0 := by unfold Tm.classOf; rw [h]

set_option maxRecDepth 100000 in
set_option maxHeartbeats 1000000 in
theorem Class_any (vl : Value) (st : Int) (sh : Bool) (r : Int) (lns : List Tm.Ln) (w : World) (ht : TableRd w vl lns) (hfit : ∀ o ∈ lns, Tm.Fit o) (hl : lns.length ≤ 1000000) :
    Calls Tryz.prog 88 #[.agg #[vl, .int .i64 st, .bool sh], .int .i64 r] w fun e w' => e = .returned (.int .i64 (Tm.classOf lns r)) ∧ Below w.heap.size w w' := by
  obtain ⟨a, cap, rfl⟩ := ht.shape
  have HT := hide ht
  have HF := hide hfit
  clear ht hfit
  go_enter Tryz.func88, Tryz.ntmps88
  go_wp2
  go_loop [5] (fun i => ∃ k : Nat, k ≤ lns.length ∧ i = .int .i64 k ∧ ∀ j (_ : j < k) (hj : j < lns.length), Tm.isClass r lns[j] = false) (fun i => lns.length - (intOf i).toNat)
  case atStart => exact ⟨0, Nat.zero_le _, rfl, fun j hj => by omega⟩
  case round =>
    obtain ⟨k, hk, rfl, hno⟩ := hrel
    by_cases hlt : k < lns.length
    · obtain ⟨g, off, kb, vr, ve, rfl, hg, c0, c1, c2, c3, hkb, hr, he⟩ := HT.out.at hlt
      have hF := HF.out _ (List.getElem_mem hlt)
      have hpos : 0 < lns[k].runes.length := List.length_pos_iff.2 hF.some
      have H2 : Hid ((kb.toList == [99]) = true → lns[k].runes.length = 2) := fun h => by
        rw [ByteArray.toList_eq, hkb, beq_iff_eq] at h
        rcases hF.kinds with ⟨_, h', _⟩ | ⟨h', _⟩ | ⟨h', _⟩
        · exact h'
        · rw [h] at h'; simp at h'
        · rw [h] at h'; simp at h'
      have HR := hide hr
      obtain ⟨ar, capr, rfl⟩ := hr.shape
      have hfit := hr.fits
      obtain ⟨gr, offr, rfl, hgr, cr⟩ := hr.at hpos
      have hip : Tm.isClass r lns[k] = ((kb.toList == [99]) && (lns[k].runes[0] == r)) := by
        unfold Tm.isClass
        rw [← hkb, ByteArray.toList_eq]
        congr 1
        · rw [Bool.eq_iff_iff]; simp
        · simp [hpos]
      have HS : Hid (Tm.isClass r lns[k] = false → ∀ j (_ : j < k + 1) (hj : j < lns.length), Tm.isClass r lns[j] = false) := fun hx => find_step hno hlt hx
      have HY : Hid (Tm.isClass r lns[k] = true → Tm.classOf lns r = lns[k].runes.getD 1 0) := fun hx => class_some (find_hit hno hlt hx)
      rw [hip] at HS HY
      have g1 : ¬ g = w.heap.size := by omega
      have g2 : ¬ gr = w.heap.size := by omega
      simp only [Nat.add_zero] at cr
      cases hk1 : (kb.toList == [99])
      · have HS' := hide (HS.out (by rw [hk1]; rfl))
        generalize lns[k].runes[0] = x0 at *
        clear hno hr he hkb hip hfit hF
        go_wp2
        go_round
        case rel => exact ⟨k + 1, by omega, by go_num, HS'.out⟩
        case measure => simp [intOf]; omega
      · have h2 := H2.out hk1
        obtain ⟨g', off', hgo, hgr', cr1⟩ := hr.at (k := 1) (by omega)
        cases hgo
        have hx1 : lns[k].runes.getD 1 0 = lns[k].runes[1]'(by omega) := by simp [List.getD, h2]
        rw [hx1] at HY
        generalize lns[k].runes[1]'(by omega) = x1 at *
        generalize lns[k].runes[0] = x0 at *
        clear hno hr he hkb hip hfit hF hx1 HR H2
        rw [h2] at c1
        rw [h2] at *
        cases hk2 : (x0 == r)
        · have HS' := hide (HS.out (by rw [hk1, hk2]; rfl))
          go_wp2
          go_round
          case rel => exact ⟨k + 1, by omega, by go_num, HS'.out⟩
          case measure => simp [intOf]; omega
        · have HY' := hide (HY.out (by rw [hk1, hk2]; rfl))
          go_wp2
          go_ret
          exact ⟨by rw [HY'.out]; rfl, (Below.refl _ _).alloc (Nat.le_refl _) _⟩
    · have HN := hide (class_no (find_none hno (by omega)))
      clear hno
      go_wp2
      go_ret
      exact ⟨by rw [HN.out]; rfl, (Below.refl _ _).alloc (Nat.le_refl _) _⟩
end Go.Proofs.YtmnjjjhmnhfapaaGreatDoor
/-
  Plain facts for the reference's Normal: its steps end, its passes end, and what they come to.
-/
namespace Go.Proofs.YtmnjjjhmnhfapaaGreatDoor
open Go.RowKit
namespace Tm

theorem ends_all {lns : List Ln} (h : (together lns).2 = 0) (r : Int) : ends lns 4 r = true := by
  by_cases h0 : (parts lns r).length = 0
  · exact ends_leaf h0
  unfold parts at h0
  cases hf : lns.find? (isParts r) with
  | none => rw [hf] at h0; simp at h0
  | some o =>
    have hm := List.mem_of_find?_eq_some hf
    have hp := List.find?_some hf
    simp only [isParts, Bool.and_eq_true, decide_eq_true_eq, beq_iff_eq] at hp
    have hb : lns.find? (badLoop lns) = none := by
      cases hb : lns.find? (badLoop lns) with
      | none => rfl
      | some q => unfold together at h; rw [hb] at h; simp at h
    have h1 := List.find?_eq_none.1 hb o hm
    rw [badLoop_ends, hp.1, hp.2] at h1
    simpa using h1

theorem leaf_of {lns : List Ln} {l : List Int} (h : hasParts lns l = false) {x : Int} (hx : x ∈ l) : (parts lns x).length = 0 := by
  unfold hasParts at h
  have := (List.any_eq_false.1 h) x hx
  simpa using this
theorem step_stop {lns : List Ln} : ∀ {l : List Int}, hasParts lns l = false → stepAll lns l = l
  | [], _ => rfl
  | x :: r, h => by
    have h0 := leaf_of h (List.mem_cons_self)
    have hr : hasParts lns r = false := by unfold hasParts at h ⊢; simp only [List.any_cons, Bool.or_eq_false_iff] at h; exact h.2
    have ih := step_stop hr
    unfold stepAll at ih ⊢
    rw [List.flatMap_cons, ih, step1, if_pos h0]; rfl
theorem flat_leaf {lns : List Ln} {n : Nat} : ∀ {l : List Int}, hasParts lns l = false → l.flatMap (expand lns n) = l
  | [], _ => rfl
  | x :: r, h => by
    have h0 := leaf_of h (List.mem_cons_self)
    have hr : hasParts lns r = false := by unfold hasParts at h ⊢; simp only [List.any_cons, Bool.or_eq_false_iff] at h; exact h.2
    rw [List.flatMap_cons, flat_leaf hr, expand_leaf h0]; rfl
theorem ends_zero {lns : List Ln} {l : List Int} (h : l.all (ends lns 0) = true) : hasParts lns l = false := by
  unfold hasParts
  rw [List.any_eq_false]
  intro x hx
  have := (List.all_eq_true.1 h) x hx
  simpa [ends] using this
theorem step_down {lns : List Ln} {n : Nat} : ∀ {l : List Int}, l.all (ends lns (n + 1)) = true → (stepAll lns l).all (ends lns n) = true ∧ (stepAll lns l).flatMap (expand lns n) = l.flatMap (expand lns (n + 1))
  | [], _ => ⟨rfl, rfl⟩
  | x :: r, h => by
    simp only [List.all_cons, Bool.and_eq_true] at h
    have ih := step_down h.2
    unfold stepAll at ih ⊢
    rw [List.flatMap_cons, List.all_append, List.flatMap_append, List.flatMap_cons, ih.1, ih.2]
    by_cases h0 : (parts lns x).length = 0
    · rw [step1, if_pos h0]
      have e := ends_leaf (n := n) h0
      refine ⟨by simp [e], ?_⟩
      rw [expand_leaf (n := n + 1) h0]
      simp [expand_leaf (n := n) h0]
    · rw [step1, if_neg h0]
      have h1 := h.1
      rw [ends] at h1
      have h2 : (parts lns x).all (ends lns n) = true := by simpa [h0] using h1
      refine ⟨by rw [h2]; rfl, ?_⟩
      rw [expand_part h0]
theorem expand_pos {lns : List Ln} : ∀ (n : Nat) (x : Int), 1 ≤ (expand lns n x).length
  | 0, x => Nat.le_refl _
  | n + 1, x => by
    rw [expand]
    split
    · exact Nat.le_refl _
    · rename_i h
      cases hp : parts lns x with
      | nil => rw [hp] at h; simp at h
      | cons y t => have := expand_pos (lns := lns) n y; rw [List.flatMap_cons, List.length_append]; omega
theorem flat_long {lns : List Ln} (n : Nat) (l : List Int) : l.length ≤ (l.flatMap (expand lns n)).length := by
  induction l with
  | nil => simp
  | cons x r ih => have := expand_pos (lns := lns) n x; rw [List.flatMap_cons, List.length_append, List.length_cons]; omega

/-- How many steps there are below these runes. -/
def depth (lns : List Ln) (l : List Int) : Nat :=
  if l.all (ends lns 0) then 0 else if l.all (ends lns 1) then 1 else if l.all (ends lns 2) then 2 else if l.all (ends lns 3) then 3 else 4
theorem depth_le {lns : List Ln} {l : List Int} {n : Nat} (h : l.all (ends lns n) = true) (hn : n ≤ 4) : depth lns l ≤ n := by
  rcases (by omega : n = 0 ∨ n = 1 ∨ n = 2 ∨ n = 3 ∨ n = 4) with rfl | rfl | rfl | rfl | rfl <;> unfold depth <;> repeat' split
  all_goals first | omega | contradiction
theorem depth_all {lns : List Ln} {l : List Int} {n : Nat} (h : l.all (ends lns n) = true) (hn : n ≤ 4) : l.all (ends lns (depth lns l)) = true ∧ depth lns l ≤ 4 := by
  have h4 : l.all (ends lns 4) = true ∨ n ≤ 3 := by
    by_cases e : n = 4
    · subst e; exact .inl h
    · exact .inr (by omega)
  unfold depth
  repeat' split
  all_goals first
    | exact ⟨by assumption, by omega⟩
    | (rcases h4 with h4 | h4
       · exact ⟨h4, Nat.le_refl _⟩
       · rcases (by omega : n = 0 ∨ n = 1 ∨ n = 2 ∨ n = 3) with rfl | rfl | rfl | rfl <;> contradiction)
/-- A step where one has parts: less is left, and what they come to is the same. -/
theorem depth_step {lns : List Ln} {l E : List Int} {n : Nat} (h : l.all (ends lns n) = true) (hn : n ≤ 4) (hE : l.flatMap (expand lns n) = E) (hp : hasParts lns l = true) :
    ∃ m, m ≤ 4 ∧ (stepAll lns l).all (ends lns m) = true ∧ (stepAll lns l).flatMap (expand lns m) = E := by
  cases n with
  | zero => rw [ends_zero h] at hp; cases hp
  | succ n =>
    obtain ⟨h1, h2⟩ := step_down h
    exact ⟨n, by omega, h1, h2.trans hE⟩
theorem depth_less {lns : List Ln} {l : List Int} {n : Nat} (h : l.all (ends lns n) = true) (hn : n ≤ 4) (hp : hasParts lns l = true) : depth lns (stepAll lns l) < depth lns l := by
  obtain ⟨h1, h2⟩ := depth_all h hn
  obtain ⟨d, hd⟩ : ∃ d, depth lns l = d := ⟨_, rfl⟩
  rw [hd] at h1 h2 ⊢
  cases d with
  | zero => rw [ends_zero h1] at hp; cases hp
  | succ d => have := depth_le (step_down h1).1 (by omega); omega

/-- How many stand in the wrong order. -/
def inv (k : Int → Int) : List Int → Nat
  | [] => 0
  | x :: r => r.countP (fun y => decide (k y ≠ 0 ∧ k y < k x)) + inv k r
theorem inv_swap {k : Int → Int} {a b : Int} (hb : k b ≠ 0) (hab : k b < k a) : ∀ (p q : List Int), inv k (p ++ a :: b :: q) = inv k (p ++ b :: a :: q) + 1
  | [], q => by
    simp only [List.nil_append, inv, List.countP_cons]
    have e1 : decide (k b ≠ 0 ∧ k b < k a) = true := by simp [hb, hab]
    have e2 : decide (k a ≠ 0 ∧ k a < k b) = false := by simp; omega
    rw [e1, e2]; simp; omega
  | x :: p, q => by
    simp only [List.cons_append, inv]
    rw [inv_swap hb hab p q]
    have hp : (p ++ a :: b :: q).Perm (p ++ b :: a :: q) := List.Perm.append_left p (List.Perm.swap b a q)
    rw [hp.countP_eq]; omega
/-- Are these two in the wrong order? -/
def wrong (k : Int → Int) (a b : Int) : Bool := decide (k b ≠ 0 ∧ k b < k a)
theorem calm_of {k : Int → Int} : ∀ {l : List Int}, (∀ j, j + 1 < l.length → wrong k (l.getD j 0) (l.getD (j + 1) 0) = false) → Calm k l
  | [], _ => trivial
  | [_], _ => trivial
  | a :: b :: r, h => by
    refine ⟨by have := h 0 (by simp); simpa [wrong] using this, calm_of fun j hj => ?_⟩
    have := h (j + 1) (by simp at hj ⊢; omega)
    simpa using this
end Tm

/-- Reads of one slice are the same. -/
theorem Reads.one {w : World} {v : Value} {l l' : List Int} (h : Reads w v 1 l.length (ints l)) (h' : Reads w v 1 l'.length (ints l')) : l = l' := by
  obtain ⟨a, cap, rfl⟩ := h.shape
  have hl := h'.fits.1
  refine List.ext_getElem hl fun k h1 h2 => ?_
  obtain ⟨g, off, ha, _, c⟩ := h.at h1
  obtain ⟨g', off', ha', _, c'⟩ := h'.at h2
  rw [ha] at ha'
  cases ha'
  rw [c] at c'
  simpa using c'
open Classical in
/-- The numbers that a slice reads as. -/
noncomputable def listOf (w : World) (v : Value) : List Int := if h : ∃ l : List Int, Reads w v 1 l.length (ints l) then h.choose else []
theorem listOf_eq {w : World} {v : Value} {l : List Int} (h : Reads w v 1 l.length (ints l)) : listOf w v = l := by
  have hx : ∃ l : List Int, Reads w v 1 l.length (ints l) := ⟨l, h⟩
  unfold listOf
  rw [dif_pos hx]
  exact Reads.one hx.choose_spec h
end Go.Proofs.YtmnjjjhmnhfapaaGreatDoor
