import Derived.BigGuardPart
import Derived.Test.YthaecjhnlpbfnaaDoorMRefClass
import Derived.Test.YthaecjhnlpbfnaaDoorMRefParts
import Derived.Test.YthaecjhnlpbfnaaDoorMRefWords
/-
  Plain facts for the reference's Normal: its steps end, its passes end, and what they come to.
-/
namespace Go.Proofs.YthaecjhnlpbfnaaDoor
open Go.RowKit
namespace Tm

theorem ends_all {lns : List Ln} (h : (together lns).2 = 0) (r : Int) : ends lns 4 r = true := by
  by_cases h0 : (parts lns r).length = 0
  · exact ends_leaf h0
  unfold parts at h0
  cases hf : lns.find? (isParts r) with
  | none => rw [hf] at h0; simp at h0
  | some o =>
    have hm := List.mem_of_find?_eq_some hf
    have hp := List.find?_some hf
    simp only [isParts, Bool.and_eq_true, decide_eq_true_eq, beq_iff_eq] at hp
    have hb : lns.find? (badLoop lns) = none := by
      cases hb : lns.find? (badLoop lns) with
      | none => rfl
      | some q => unfold together at h; rw [hb] at h; simp at h
    have h1 := List.find?_eq_none.1 hb o hm
    rw [badLoop_ends, hp.1, hp.2] at h1
    simpa using h1

theorem leaf_of {lns : List Ln} {l : List Int} (h : hasParts lns l = false) {x : Int} (hx : x ∈ l) : (parts lns x).length = 0 := by
  unfold hasParts at h
  have := (List.any_eq_false.1 h) x hx
  simpa using this
theorem step_stop {lns : List Ln} : ∀ {l : List Int}, hasParts lns l = false → stepAll lns l = l
  | [], _ => rfl
  | x :: r, h => by
    have h0 := leaf_of h (List.mem_cons_self)
    have hr : hasParts lns r = false := by unfold hasParts at h ⊢; simp only [List.any_cons, Bool.or_eq_false_iff] at h; exact h.2
    have ih := step_stop hr
    unfold stepAll at ih ⊢
    rw [List.flatMap_cons, ih, step1, if_pos h0]; rfl
theorem flat_leaf {lns : List Ln} {n : Nat} : ∀ {l : List Int}, hasParts lns l = false → l.flatMap (expand lns n) = l
  | [], _ => rfl
  | x :: r, h => by
    have h0 := leaf_of h (List.mem_cons_self)
    have hr : hasParts lns r = false := by unfold hasParts at h ⊢; simp only [List.any_cons, Bool.or_eq_false_iff] at h; exact h.2
    rw [List.flatMap_cons, flat_leaf hr, expand_leaf h0]; rfl
theorem ends_zero {lns : List Ln} {l : List Int} (h : l.all (ends lns 0) = true) : hasParts lns l = false := by
  unfold hasParts
  rw [List.any_eq_false]
  intro x hx
  have := (List.all_eq_true.1 h) x hx
  simpa [ends] using this
theorem step_down {lns : List Ln} {n : Nat} : ∀ {l : List Int}, l.all (ends lns (n + 1)) = true → (stepAll lns l).all (ends lns n) = true ∧ (stepAll lns l).flatMap (expand lns n) = l.flatMap (expand lns (n + 1))
  | [], _ => ⟨rfl, rfl⟩
  | x :: r, h => by
    simp only [List.all_cons, Bool.and_eq_true] at h
    have ih := step_down h.2
    unfold stepAll at ih ⊢
    rw [List.flatMap_cons, List.all_append, List.flatMap_append, List.flatMap_cons, ih.1, ih.2]
    by_cases h0 : (parts lns x).length = 0
    · rw [step1, if_pos h0]
      have e := ends_leaf (n := n) h0
      refine ⟨by simp [e], ?_⟩
      rw [expand_leaf (n := n + 1) h0]
      simp [expand_leaf (n := n) h0]
    · rw [step1, if_neg h0]
      have h1 := h.1
      rw [ends] at h1
      have h2 : (parts lns x).all (ends lns n) = true := by simpa [h0] using h1
      refine ⟨by rw [h2]; rfl, ?_⟩
      rw [expand_part h0]
theorem expand_pos {lns : List Ln} : ∀ (n : Nat) (x : Int), 1 ≤ (expand lns n x).length
  | 0, x => Nat.le_refl _
  | n + 1, x => by
    rw [expand]
    split
    · exact Nat.le_refl _
    · rename_i h
      cases hp : parts lns x with
      | nil => rw [hp] at h; simp at h
      | cons y t => have := expand_pos (lns := lns) n y; rw [List.flatMap_cons, List.length_append]; omega
theorem flat_long {lns : List Ln} (n : Nat) (l : List Int) : l.length ≤ (l.flatMap (expand lns n)).length := by
  induction l with
  | nil => simp
  | cons x r ih => have := expand_pos (lns := lns) n x; rw [List.flatMap_cons, List.length_append, List.length_cons]; omega

/-- How many steps there are below these runes. -/
def depth (lns : List Ln) (l : List Int) : Nat :=
  if l.all (ends lns 0) then 0 else if l.all (ends lns 1) then 1 else if l.all (ends lns 2) then 2 else if l.all (ends lns 3) then 3 else 4
theorem depth_le {lns : List Ln} {l : List Int} {n : Nat} (h : l.all (ends lns n) = true) (hn : n ≤ 4) : depth lns l ≤ n := by
  rcases (by omega : n = 0 ∨ n = 1 ∨ n = 2 ∨ n = 3 ∨ n = 4) with rfl | rfl | rfl | rfl | rfl <;> unfold depth <;> repeat' split
  all_goals first | omega | contradiction
theorem depth_all {lns : List Ln} {l : List Int} {n : Nat} (h : l.all (ends lns n) = true) (hn : n ≤ 4) : l.all (ends lns (depth lns l)) = true ∧ depth lns l ≤ 4 := by
  have h4 : l.all (ends lns 4) = true ∨ n ≤ 3 := by
    by_cases e : n = 4
    · subst e; exact .inl h
    · exact .inr (by omega)
  unfold depth
  repeat' split
  all_goals first
    | exact ⟨by assumption, by omega⟩
    | (rcases h4 with h4 | h4
       · exact ⟨h4, Nat.le_refl _⟩
       · rcases (by omega : n = 0 ∨ n = 1 ∨ n = 2 ∨ n = 3) with rfl | rfl | rfl | rfl <;> contradiction)
/-- A step where one has parts: less is left, and what they come to is the same. -/
theorem depth_step {lns : List Ln} {l E : List Int} {n : Nat} (h : l.all (ends lns n) = true) (hn : n ≤ 4) (hE : l.flatMap (expand lns n) = E) (hp : hasParts lns l = true) :
    ∃ m, m ≤ 4 ∧ (stepAll lns l).all (ends lns m) = true ∧ (stepAll lns l).flatMap (expand lns m) = E := by
  cases n with
  | zero => rw [ends_zero h] at hp; cases hp
  | succ n =>
    obtain ⟨h1, h2⟩ := step_down h
    exact ⟨n, by omega, h1, h2.trans hE⟩
theorem depth_less {lns : List Ln} {l : List Int} {n : Nat} (h : l.all (ends lns n) = true) (hn : n ≤ 4) (hp : hasParts lns l = true) : depth lns (stepAll lns l) < depth lns l := by
  obtain ⟨h1, h2⟩ := depth_all h hn
  obtain ⟨d, hd⟩ : ∃ d, depth lns l = d := ⟨_, rfl⟩
  rw [hd] at h1 h2 ⊢
  cases d with
  | zero => rw [ends_zero h1] at hp; cases hp
  | succ d => have := depth_le (step_down h1).1 (by omega); omega

/-- How many stand in the wrong order. -/
def inv (k : Int → Int) : List Int → Nat
  | [] => 0
  | x :: r => r.countP (fun y => decide (k y ≠ 0 ∧ k y < k x)) + inv k r
theorem inv_swap {k : Int → Int} {a b : Int} (hb : k b ≠ 0) (hab : k b < k a) : ∀ (p q : List Int), inv k (p ++ a :: b :: q) = inv k (p ++ b :: a :: q) + 1
  | [], q => by
    simp only [List.nil_append, inv, List.countP_cons]
    have e1 : decide (k b ≠ 0 ∧ k b < k a) = true := by simp [hb, hab]
    have e2 : decide (k a ≠ 0 ∧ k a < k b) = false := by simp; omega
    rw [e1, e2]; simp; omega
  | x :: p, q => by
    simp only [List.cons_append, inv]
    rw [inv_swap hb hab p q]
    have hp : (p ++ a :: b :: q).Perm (p ++ b :: a :: q) := List.Perm.append_left p (List.Perm.swap b a q)
    rw [hp.countP_eq]; omega
/-- Are these two in the wrong order? -/
def wrong (k : Int → Int) (a b : Int) : Bool := decide (k b ≠ 0 ∧ k b < k a)
theorem calm_of {k : Int → Int} : ∀ {l : List Int}, (∀ j, j + 1 < l.length → wrong k (l.getD j 0) (l.getD (j + 1) 0) = false) → Calm k l
  | [], _ => trivial
  | [_], _ => trivial
  | a :: b :: r, h => by
    refine ⟨by have := h 0 (by simp); simpa [wrong] using this, calm_of fun j hj => ?_⟩
    have := h (j + 1) (by simp at hj ⊢; omega)
    simpa using this
end Tm

/-- Reads of one slice are the same. -/
theorem Reads.one {w : World} {v : Value} {l l' : List Int} (h : Reads w v 1 l.length (ints l)) (h' : Reads w v 1 l'.length (ints l')) : l = l' := by
  obtain ⟨a, cap, rfl⟩ := h.shape
  have hl := h'.fits.1
  refine List.ext_getElem hl fun k h1 h2 => ?_
  obtain ⟨g, off, ha, _, c⟩ := h.at h1
  obtain ⟨g', off', ha', _, c'⟩ := h'.at h2
  rw [ha] at ha'
  cases ha'
  rw [c] at c'
  simpa using c'
open Classical in
/-- The numbers that a slice reads as. -/
noncomputable def listOf (w : World) (v : Value) : List Int := if h : ∃ l : List Int, Reads w v 1 l.length (ints l) then h.choose else []
theorem listOf_eq {w : World} {v : Value} {l : List Int} (h : Reads w v 1 l.length (ints l)) : listOf w v = l := by
  have hx : ∃ l : List Int, Reads w v 1 l.length (ints l) := ⟨l, h⟩
  unfold listOf
  rw [dif_pos hx]
  exact Reads.one hx.choose_spec h
end Go.Proofs.YthaecjhnlpbfnaaDoor
namespace Go.Proofs.YthaecjhnlpbfnaaDoor
open Go.RowKit

/-- A panic that tells an error. -/
def tells (e : Ending) (n : Int) : Prop := e = .panicked [{ v := .iface 33 (.int .i64 n), recovered := false }]

set_option maxRecDepth 100000 in
theorem refuse_no (n : Int) (w : World) : Calls Tryd.prog 87 #[.bool false, .int .i64 n] w fun e w' => e = .returned (.tuple #[]) ∧ w' = w := by
  go_enter Tryd.func87, Tryd.ntmps87
  go_wp2
  go_end0
  exact ⟨rfl, rfl⟩

set_option maxRecDepth 100000 in
theorem refuse_yes (n : Int) (w : World) : Calls Tryd.prog 87 #[.bool true, .int .i64 n] w fun e w' => tells e n ∧ w' = w := by
  go_enter Tryd.func87, Tryd.ntmps87
  go_wp2
  exact ⟨rfl, rfl, rfl⟩

set_option maxRecDepth 100000 in
set_option maxHeartbeats 400000 in
theorem readDigit_some (c : UInt8) (d : Int) (h : Tm.digit c = some d) (w : World) : Calls Tryd.prog 129 #[.int .u8 c.toNat] w fun e w' => e = .returned (.int .i64 d) ∧ w' = w := by
  have hu : (c.toNat : Int) < 256 := by have := c.toNat_lt; omega
  have hu0 : (0 : Int) ≤ (c.toNat : Int) := by omega
  by_cases hlo : 48 ≤ (c.toNat : Int) ∧ (c.toNat : Int) ≤ 57
  · rw [Tm.digit_low hlo] at h
    cases h
    obtain ⟨h1, h2⟩ := hlo
    go_enter Tryd.func129, Tryd.ntmps129
    go_wp2
    go_ret
    exact ⟨ret_int (by omega), rfl⟩
  · by_cases hhi : 97 ≤ (c.toNat : Int) ∧ (c.toNat : Int) ≤ 102
    · rw [Tm.digit_high hhi] at h
      cases h
      obtain ⟨h1, h2⟩ := hhi
      have hd1 : decide (48 ≤ (c.toNat : Int)) = true := by simp; omega
      have hd2 : decide ((c.toNat : Int) ≤ 57) = false := by simp; omega
      clear hlo
      go_enter Tryd.func129, Tryd.ntmps129
      go_wp2
      go_ret
      exact ⟨ret_int (by omega), rfl⟩
    · rw [Tm.digit_none hlo hhi] at h
      cases h

set_option maxRecDepth 100000 in
set_option maxHeartbeats 400000 in
theorem readDigit_none (c : UInt8) (h : Tm.digit c = none) (w : World) : Calls Tryd.prog 129 #[.int .u8 c.toNat] w fun e w' => tells e 1 ∧ w' = w := by
  have hu : (c.toNat : Int) < 256 := by have := c.toNat_lt; omega
  have hlo : ¬ (48 ≤ (c.toNat : Int) ∧ (c.toNat : Int) ≤ 57) := fun h' => by rw [Tm.digit_low h'] at h; cases h
  have hhi : ¬ (97 ≤ (c.toNat : Int) ∧ (c.toNat : Int) ≤ 102) := fun h' => by rw [Tm.digit_high h'] at h; cases h
  clear h
  go_enter Tryd.func129, Tryd.ntmps129
  go_wp2
  all_goals exact ⟨rfl, rfl, rfl⟩

/-- What readNumber answers. -/
def numAns (l : List UInt8) (most : Int) (e : Ending) : Prop := if 0 ≤ Tm.num l ∧ Tm.num l ≤ most then e = .returned (.int .i64 (Tm.num l)) else tells e 1

theorem numAns_bad {l : List UInt8} {most : Int} {e : Ending} (h : Tm.num l = -1) (he : tells e 1) : numAns l most e := by unfold numAns; rw [if_neg (by omega)]; exact he
theorem digits_range : ∀ (l : List UInt8) (n : Int), 0 ≤ n → Tm.digits l n = -1 ∨ 0 ≤ Tm.digits l n
  | [], n, h => .inr h
  | c :: r, n, h => by
    unfold Tm.digits
    cases hd : Tm.digit c with
    | none => exact .inl rfl
    | some d =>
      have h0 : 0 ≤ d := by
        unfold Tm.digit at hd
        split at hd
        · cases hd; omega
        · split at hd
          · cases hd; omega
          · cases hd
      exact digits_range r _ (by omega)

set_option maxRecDepth 100000 in
set_option maxHeartbeats 1000000 in
theorem readNumber_any (s : ByteArray) (most : Int) (w : World) (hs : s.size ≤ maxLen) :
    Calls Tryd.prog 119 #[.string s, .int .i64 most] w fun e w' => numAns s.data.toList most e ∧ w' = w := by
  unfold maxLen at hs
  by_cases h1 : s.size = 0
  · have HV := hide (Tm.num_bad (l := s.data.toList) (.inl (by rw [len_bytes]; omega)))
    have hb : ((s.size : Int) == 0) = true := by rw [beq_iff_eq]; omega
    clear h1
    go_enter Tryd.func119, Tryd.ntmps119
    go_wp2_with (go_at_call 87; refine (refuse_yes 1 _).mono ?_; rintro e w' ⟨rfl, rfl⟩)
    exact ⟨rfl, numAns_bad HV.out rfl, rfl⟩
  have hb1 : ((s.size : Int) == 0) = false := by rw [beq_eq_false_iff_ne]; omega
  by_cases h6 : 6 < s.size
  · have HV := hide (Tm.num_bad (l := s.data.toList) (.inr (.inl (by rw [len_bytes]; omega))))
    have hd : decide (6 < (s.size : Int)) = true := by simp; omega
    go_enter Tryd.func119, Tryd.ntmps119
    go_wp2_with (go_at_call 87; refine (refuse_yes 1 _).mono ?_; rintro e w' ⟨rfl, rfl⟩)
    exact ⟨rfl, numAns_bad HV.out rfl, rfl⟩
  have hd6 : decide (6 < (s.size : Int)) = false := by simp; omega
  have h0 : 0 < s.size := by omega
  by_cases hb : 1 < (s.size : Int) ∧ ((s[0].toNat : Int) == 48) = true
  · have HV := hide (num_bad1 s h0 hb.1 hb.2)
    obtain ⟨h2, h3⟩ := hb
    have hd2 : decide (1 < (s.size : Int)) = true := by simp; omega
    go_enter Tryd.func119, Tryd.ntmps119
    go_wp2_with fail
    refine (refuse_no 1 _).mono ?_
    rintro e w' ⟨rfl, rfl⟩
    go_wp2_with fail
    refine (refuse_yes 1 _).mono ?_
    rintro e w' ⟨rfl, rfl⟩
    go_wp2
    exact ⟨rfl, numAns_bad HV.out rfl, rfl⟩
  have hx : ((s[0].toNat : Int) == 48) = false ∨ (((s[0].toNat : Int) == 48) = true ∧ decide (1 < (s.size : Int)) = false) := by
    cases h : ((s[0].toNat : Int) == 48)
    · exact .inl rfl
    · right
      refine ⟨rfl, ?_⟩
      simp [h] at hb
      simp; omega
  have HV := hide (num_good1 s h0 (by omega) (by
    rcases hx with h | ⟨_, h⟩
    · exact .inl h
    · right; simp at h; omega))
  clear hb
  rcases hx with h3 | ⟨h3, h4⟩
  all_goals
    go_enter Tryd.func119, Tryd.ntmps119
    go_wp2_with fail
    refine (refuse_no 1 _).mono ?_
    rintro e w' ⟨rfl, rfl⟩
    go_wp2_with fail
    refine (refuse_no 1 _).mono ?_
    rintro e w' ⟨rfl, rfl⟩
    go_wp2_with fail
    go_loop [5, 27] (fun n i => ∃ k : Nat, k ≤ s.size ∧ i = .int .i64 k ∧ ∃ m : Int, 0 ≤ m ∧ m < 16 ^ k ∧ n = .int .i64 m ∧ Tm.digits (s.data.toList.drop k) m = Tm.digits s.data.toList 0) (fun _ i => s.size - (intOf i).toNat)
    case atStart => exact ⟨0, Nat.zero_le _, rfl, 0, by omega, by omega, rfl, rfl⟩
    case round =>
      obtain ⟨k, hk, rfl, m, hm0, hm1, rfl, hd⟩ := hrel
      by_cases hlt : k < s.size
      · have hc := Tm.drop_cons s k hlt
        rw [hc] at hd
        clear hc
        have hb16 : m < 16777216 := by
          have := Tm.pow16 k (by omega)
          omega
        cases hdg : Tm.digit s[k] with
        | none =>
          rw [Tm.digits_none hdg] at hd
          have HD := hide hd
          have HG := hide hdg
          clear hd hm1 hdg
          go_wp2_with fail
          refine (readDigit_none _ HG.out _).mono ?_
          rintro e w' ⟨rfl, rfl⟩
          go_wp2
          exact ⟨rfl, numAns_bad (by rw [HV.out, ← HD.out]) rfl, rfl⟩
        | some d =>
          rw [Tm.digits_some hdg] at hd
          have hd15 : 0 ≤ d ∧ d ≤ 15 := by
            unfold Tm.digit at hdg
            split at hdg
            · cases hdg; omega
            · split at hdg
              · cases hdg; omega
              · cases hdg
          obtain ⟨hd0, hd1⟩ := hd15
          have HD := hide hd
          have HG := hide hdg
          have HP := hide hm1
          clear hd hm1 hdg
          go_wp2_with fail
          refine (readDigit_some _ d HG.out _).mono ?_
          rintro e w' ⟨rfl, rfl⟩
          go_wp2
          go_round
          case rel => exact ⟨k + 1, by omega, by go_num, 16 * m + d, by omega, by have := HP.out; rw [Int.pow_succ]; omega, by go_num, HD.out⟩
          case measure => simp [intOf]; omega
      · rw [Tm.drop_all s k (by omega)] at hd
        have HD := hide (HV.out.trans hd.symm)
        clear hd hm1
        by_cases hle : m ≤ most
        · have hdm : decide (most < m) = false := by simp; omega
          go_wp2_with fail
          refine (refuse_no 1 _).mono ?_
          rintro e w' ⟨rfl, rfl⟩
          go_wp2
          go_ret
          refine ⟨?_, rfl⟩
          have e1 : Tm.num s.data.toList = m := HD.out
          unfold numAns
          rw [e1, if_pos ⟨hm0, hle⟩]; rfl
        · have hdm : decide (most < m) = true := by simp; omega
          go_wp2_with fail
          refine (refuse_yes 1 _).mono ?_
          rintro e w' ⟨rfl, rfl⟩
          go_wp2
          refine ⟨rfl, ?_, rfl⟩
          have e1 : Tm.num s.data.toList = m := HD.out
          unfold numAns
          rw [e1, if_neg (by omega)]; rfl
end Go.Proofs.YthaecjhnlpbfnaaDoor
