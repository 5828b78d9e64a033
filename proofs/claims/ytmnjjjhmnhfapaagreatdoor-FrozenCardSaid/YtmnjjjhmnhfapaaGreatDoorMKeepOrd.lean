import Derived.Test.YtmnjjjhmnhfapaaGreatDoorMRefNum
import Derived.Test.YtmnjjjhmnhfapaaGreatDoorMCodeApi
import Derived.Test.YtmnjjjhmnhfapaaGreatDoorMCodeNew
import Derived.Test.YtmnjjjhmnhfapaaGreatDoorMCodeNormal
import Derived.Test.YtmnjjjhmnhfapaaGreatDoorMElems
import Derived.Test.YtmnjjjhmnhfapaaGreatDoorMRefParts
import Derived.Test.YtmnjjjhmnhfapaaGreatDoorMCodeBuild
namespace Go.Proofs.YtmnjjjhmnhfapaaGreatDoor
open Go.RowKit

theorem bytesLess_eq : ∀ (a b : List UInt8), Op.bytesLess a b = Tm.lessB a b
  | [], [] => rfl
  | [], _ :: _ => rfl
  | _ :: _, [] => rfl
  | a :: x, b :: y => by
    rw [Op.bytesLess, Tm.lessB, bytesLess_eq x y]
    by_cases h1 : a < b
    · simp [h1]
    · by_cases h2 : b < a
      · have : a ≠ b := fun h => by subst h; exact h1 h2
        simp [h1, h2, this]
      · have : a = b := UInt8.le_antisymm (UInt8.not_lt.1 h2) (UInt8.not_lt.1 h1)
        subst this
        simp [UInt8.lt_irrefl]
theorem lessB_asymm : ∀ {a b : List UInt8}, Tm.lessB a b = true → Tm.lessB b a = false
  | [], [], h => by simp [Tm.lessB] at h
  | [], _ :: _, _ => rfl
  | _ :: _, [], h => by simp [Tm.lessB] at h
  | a :: x, b :: y, h => by
    unfold Tm.lessB at h ⊢
    by_cases h1 : a < b
    · rw [if_neg (UInt8.not_lt.2 (UInt8.le_of_lt h1)), if_pos h1]
    · rw [if_neg h1] at h
      by_cases h2 : b < a
      · rw [if_pos h2] at h; cases h
      · rw [if_neg h2] at h
        rw [if_neg h2, if_neg h1]
        exact lessB_asymm h
theorem lessB_none : ∀ {a b : List UInt8}, Tm.lessB a b = false → Tm.lessB b a = false → a = b
  | [], [], _, _ => rfl
  | [], _ :: _, h, _ => by simp [Tm.lessB] at h
  | _ :: _, [], _, h => by simp [Tm.lessB] at h
  | a :: x, b :: y, h, k => by
    unfold Tm.lessB at h k
    by_cases h1 : a < b
    · rw [if_pos h1] at h; cases h
    · rw [if_neg h1] at h
      by_cases h2 : b < a
      · rw [if_pos h2] at k; cases k
      · rw [if_neg h2] at h
        rw [if_neg h2, if_neg h1] at k
        have : a = b := UInt8.le_antisymm (UInt8.not_lt.1 h2) (UInt8.not_lt.1 h1)
        rw [this, lessB_none h k]

/-- Which of n things. -/
def pickN (c n : Int) : Int := if c < 0 then (-(c + 1)) % n else c % n
theorem pickN_range {c n : Int} (hn : 0 < n) : 0 ≤ pickN c n ∧ pickN c n < n := by
  unfold pickN
  split
  · exact ⟨Int.emod_nonneg _ (by omega), Int.emod_lt_of_pos _ hn⟩
  · exact ⟨Int.emod_nonneg _ (by omega), Int.emod_lt_of_pos _ hn⟩

set_option maxRecDepth 100000 in
set_option maxHeartbeats 1000000 in
theorem pick_any (c n : Int) (w : World) (hc : -9223372036854775808 ≤ c ∧ c ≤ 9223372036854775807) (hn : 0 < n ∧ n ≤ 1000000) :
    Calls Tryz.prog 24 #[.int .i64 c, .int .i64 n] w fun e w' => e = .returned (.int .i64 (pickN c n)) ∧ w' = w := by
  obtain ⟨hc1, hc2⟩ := hc
  obtain ⟨hn1, hn2⟩ := hn
  have hn0 : (n == 0) = false := by simp; omega
  have hn9 : (n == -1) = false := by simp; omega
  by_cases h : c < 0
  · have HP : Hid (pickN c n = (-(c + 1)).tmod n) := by unfold Hid pickN; rw [if_pos h, Int.tmod_eq_emod_of_nonneg (by omega)]
    go_enter Tryz.func24, Tryz.ntmps24
    go_wp2
    go_ret
    exact ⟨ret_int (by rw [HP.out, Int.neg_tmod]), rfl⟩
  · have HP : Hid (pickN c n = c.tmod n) := by unfold Hid pickN; rw [if_neg h, Int.tmod_eq_emod_of_nonneg (by omega)]
    go_enter Tryz.func24, Tryz.ntmps24
    go_wp2
    go_ret
    exact ⟨ret_int (by rw [HP.out, Int.tmod_eq_emod_of_nonneg h]), rfl⟩

/-- A text that is not too long. -/
def cutB (s : ByteArray) : ByteArray := if 64 < s.size then s.extract 0 64 else s
theorem cutB_size (s : ByteArray) : (cutB s).size ≤ 64 := by
  unfold cutB
  split
  · simp [ByteArray.size_extract]; omega
  · omega
set_option maxRecDepth 100000 in
set_option maxHeartbeats 1000000 in
theorem cut_any (s : ByteArray) (w : World) : Calls Tryz.prog 20 #[.string s] w fun e w' => e = .returned (.string (cutB s)) ∧ w' = w := by
  by_cases h : 64 < s.size
  · have hd : decide (64 < (s.size : Int)) = true := by simp; omega
    have hc : cutB s = s.extract 0 64 := by unfold cutB; rw [if_pos h]
    have HC := hide hc
    clear hc
    go_enter Tryz.func20, Tryz.ntmps20
    go_wp2
    go_ret
    exact ⟨by rw [HC.out]; rfl, rfl⟩
  · have hd : decide (64 < (s.size : Int)) = false := by simp; omega
    have HC : Hid (cutB s = s) := by unfold Hid cutB; rw [if_neg h]
    go_enter Tryz.func20, Tryz.ntmps20
    go_wp2
    go_ret
    exact ⟨by rw [HC.out]; rfl, rfl⟩

end Go.Proofs.YtmnjjjhmnhfapaaGreatDoor
/-
  Plain facts for the reference's Normal: its steps end, its passes end, and what they come to.
-/
namespace Go.Proofs.YtmnjjjhmnhfapaaGreatDoor
open Go.RowKit
namespace Tm

theorem ends_all {lns : List Ln} (h : (together lns).2 = 0) (r : Int) : ends lns 4 r = true := by
  by_cases h0 : (parts lns r).length = 0
  · exact ends_leaf h0
  unfold parts at h0
  cases hf : lns.find? (isParts r) with
  | none => rw [hf] at h0; simp at h0
  | some o =>
    have hm := List.mem_of_find?_eq_some hf
    have hp := List.find?_some hf
    simp only [isParts, Bool.and_eq_true, decide_eq_true_eq, beq_iff_eq] at hp
    have hb : lns.find? (badLoop lns) = none := by
      cases hb : lns.find? (badLoop lns) with
      | none => rfl
      | some q => unfold together at h; rw [hb] at h; simp at h
    have h1 := List.find?_eq_none.1 hb o hm
    rw [badLoop_ends, hp.1, hp.2] at h1
    simpa using h1

theorem leaf_of {lns : List Ln} {l : List Int} (h : hasParts lns l = false) {x : Int} (hx : x ∈ l) : (parts lns x).length = 0 := by
  unfold hasParts at h
  have := (List.any_eq_false.1 h) x hx
  simpa using this
theorem step_stop {lns : List Ln} : ∀ {l : List Int}, hasParts lns l = false → stepAll lns l = l
  | [], _ => rfl
  | x :: r, h => by
    have h0 := leaf_of h (List.mem_cons_self)
    have hr : hasParts lns r = false := by unfold hasParts at h ⊢; simp only [List.any_cons, Bool.or_eq_false_iff] at h; exact h.2
    have ih := step_stop hr
    unfold stepAll at ih ⊢
    rw [List.flatMap_cons, ih, step1, if_pos h0]; rfl
theorem flat_leaf {lns : List Ln} {n : Nat} : ∀ {l : List Int}, hasParts lns l = false → l.flatMap (expand lns n) = l
  | [], _ => rfl
  | x :: r, h => by
    have h0 := leaf_of h (List.mem_cons_self)
    have hr : hasParts lns r = false := by unfold hasParts at h ⊢; simp only [List.any_cons, Bool.or_eq_false_iff] at h; exact h.2
    rw [List.flatMap_cons, flat_leaf hr, expand_leaf h0]; rfl
theorem ends_zero {lns : List Ln} {l : List Int} (h : l.all (ends lns 0) = true) : hasParts lns l = false := by
  unfold hasParts
  rw [List.any_eq_false]
  intro x hx
  have := (List.all_eq_true.1 h) x hx
  simpa [ends] using this
theorem step_down {lns : List Ln} {n : Nat} : ∀ {l : List Int}, l.all (ends lns (n + 1)) = true → (stepAll lns l).all (ends lns n) = true ∧ (stepAll lns l).flatMap (expand lns n) = l.flatMap (expand lns (n + 1))
  | [], _ => ⟨rfl, rfl⟩
  | x :: r, h => by
    simp only [List.all_cons, Bool.and_eq_true] at h
    have ih := step_down h.2
    unfold stepAll at ih ⊢
    rw [List.flatMap_cons, List.all_append, List.flatMap_append, List.flatMap_cons, ih.1, ih.2]
    by_cases h0 : (parts lns x).length = 0
    · rw [step1, if_pos h0]
      have e := ends_leaf (n := n) h0
      refine ⟨by simp [e], ?_⟩
      rw [expand_leaf (n := n + 1) h0]
      simp [expand_leaf (n := n) h0]
    · rw [step1, if_neg h0]
      have h1 := h.1
      rw [ends] at h1
      have h2 : (parts lns x).all (ends lns n) = true := by simpa [h0] using h1
      refine ⟨by rw [h2]; rfl, ?_⟩
      rw [expand_part h0]
theorem expand_pos {lns : List Ln} : ∀ (n : Nat) (x : Int), 1 ≤ (expand lns n x).length
  | 0, x => Nat.le_refl _
  | n + 1, x => by
    rw [expand]
    split
    · exact Nat.le_refl _
    · rename_i h
      cases hp : parts lns x with
      | nil => rw [hp] at h; simp at h
      | cons y t => have := expand_pos (lns := lns) n y; rw [List.flatMap_cons, List.length_append]; omega
theorem flat_long {lns : List Ln} (n : Nat) (l : List Int) : l.length ≤ (l.flatMap (expand lns n)).length := by
  induction l with
  | nil => simp
  | cons x r ih => have := expand_pos (lns := lns) n x; rw [List.flatMap_cons, List.length_append, List.length_cons]; omega

/-- How many steps there are below these runes. -/
def depth (lns : List Ln) (l : List Int) : Nat :=
  if l.all (ends lns 0) then 0 else if l.all (ends lns 1) then 1 else if l.all (ends lns 2) then 2 else if l.all (ends lns 3) then 3 else 4
theorem depth_le {lns : List Ln} {l : List Int} {n : Nat} (h : l.all (ends lns n) = true) (hn : n ≤ 4) : depth lns l ≤ n := by
  rcases (by omega : n = 0 ∨ n = 1 ∨ n = 2 ∨ n = 3 ∨ n = 4) with rfl | rfl | rfl | rfl | rfl <;> unfold depth <;> repeat' split
  all_goals first | omega | contradiction
theorem depth_all {lns : List Ln} {l : List Int} {n : Nat} (h : l.all (ends lns n) = true) (hn : n ≤ 4) : l.all (ends lns (depth lns l)) = true ∧ depth lns l ≤ 4 := by
  have h4 : l.all (ends lns 4) = true ∨ n ≤ 3 := by
    by_cases e : n = 4
    · subst e; exact .inl h
    · exact .inr (by omega)
  unfold depth
  repeat' split
  all_goals first
    | exact ⟨by assumption, by omega⟩
    | (rcases h4 with h4 | h4
       · exact ⟨h4, Nat.le_refl _⟩
       · rcases (by omega : n = 0 ∨ n = 1 ∨ n = 2 ∨ n = 3) with rfl | rfl | rfl | rfl <;> contradiction)
/-- A step where one has parts: less is left, and what they come to is the same. -/
theorem depth_step {lns : List Ln} {l E : List Int} {n : Nat} (h : l.all (ends lns n) = true) (hn : n ≤ 4) (hE : l.flatMap (expand lns n) = E) (hp : hasParts lns l = true) :
    ∃ m, m ≤ 4 ∧ (stepAll lns l).all (ends lns m) = true ∧ (stepAll lns l).flatMap (expand lns m) = E := by
  cases n with
  | zero => rw [ends_zero h] at hp; cases hp
  | succ n =>
    obtain ⟨h1, h2⟩ := step_down h
    exact ⟨n, by omega, h1, h2.trans hE⟩
theorem depth_less {lns : List Ln} {l : List Int} {n : Nat} (h : l.all (ends lns n) = true) (hn : n ≤ 4) (hp : hasParts lns l = true) : depth lns (stepAll lns l) < depth lns l := by
  obtain ⟨h1, h2⟩ := depth_all h hn
  obtain ⟨d, hd⟩ : ∃ d, depth lns l = d := ⟨_, rfl⟩
  rw [hd] at h1 h2 ⊢
  cases d with
  | zero => rw [ends_zero h1] at hp; cases hp
  | succ d => have := depth_le (step_down h1).1 (by omega); omega

/-- How many stand in the wrong order. -/
def inv (k : Int → Int) : List Int → Nat
  | [] => 0
  | x :: r => r.countP (fun y => decide (k y ≠ 0 ∧ k y < k x)) + inv k r
theorem inv_swap {k : Int → Int} {a b : Int} (hb : k b ≠ 0) (hab : k b < k a) : ∀ (p q : List Int), inv k (p ++ a :: b :: q) = inv k (p ++ b :: a :: q) + 1
  | [], q => by
    simp only [List.nil_append, inv, List.countP_cons]
    have e1 : decide (k b ≠ 0 ∧ k b < k a) = true := by simp [hb, hab]
    have e2 : decide (k a ≠ 0 ∧ k a < k b) = false := by simp; omega
    rw [e1, e2]; simp; omega
  | x :: p, q => by
    simp only [List.cons_append, inv]
    rw [inv_swap hb hab p q]
    have hp : (p ++ a :: b :: q).Perm (p ++ b :: a :: q) := List.Perm.append_left p (List.Perm.swap b a q)
    rw [hp.countP_eq]; omega
/-- Are these two in the wrong order? -/
def wrong (k : Int → Int) (a b : Int) : Bool := decide (k b ≠ 0 ∧ k b < k a)
theorem calm_of {k : Int → Int} : ∀ {l : List Int}, (∀ j, j + 1 < l.length → wrong k (l.getD j 0) (l.getD (j + 1) 0) = false) → Calm k l
  | [], _ => trivial
  | [_], _ => trivial
  | a :: b :: r, h => by
    refine ⟨by have := h 0 (by simp); simpa [wrong] using this, calm_of fun j hj => ?_⟩
    have := h (j + 1) (by simp at hj ⊢; omega)
    simpa using this
end Tm

/-- Reads of one slice are the same. -/
theorem Reads.one {w : World} {v : Value} {l l' : List Int} (h : Reads w v 1 l.length (ints l)) (h' : Reads w v 1 l'.length (ints l')) : l = l' := by
  obtain ⟨a, cap, rfl⟩ := h.shape
  have hl := h'.fits.1
  refine List.ext_getElem hl fun k h1 h2 => ?_
  obtain ⟨g, off, ha, _, c⟩ := h.at h1
  obtain ⟨g', off', ha', _, c'⟩ := h'.at h2
  rw [ha] at ha'
  cases ha'
  rw [c] at c'
  simpa using c'
open Classical in
/-- The numbers that a slice reads as. -/
noncomputable def listOf (w : World) (v : Value) : List Int := if h : ∃ l : List Int, Reads w v 1 l.length (ints l) then h.choose else []
theorem listOf_eq {w : World} {v : Value} {l : List Int} (h : Reads w v 1 l.length (ints l)) : listOf w v = l := by
  have hx : ∃ l : List Int, Reads w v 1 l.length (ints l) := ⟨l, h⟩
  unfold listOf
  rw [dif_pos hx]
  exact Reads.one hx.choose_spec h
end Go.Proofs.YtmnjjjhmnhfapaaGreatDoor
namespace Go.Proofs.YtmnjjjhmnhfapaaGreatDoor

theorem newTable_ends {s : List UInt8} {st : Int} {lns : List Tm.Ln} (h : Tm.newTable s st = (lns, 0, 0)) (r : Int) : Tm.ends lns 4 r = true := by
  refine Tm.ends_all ?_ r
  unfold Tm.newTable at h
  split at h
  · simp at h
  · split at h
    · simp at h
    · split at h
      · rename_i n e heq
        simp at h
        exact absurd h.2.2 (readLines_err _ _ _ _ _ _ heq)
      · rename_i heq
        injection h with h1 h2
        subst h1
        exact congrArg Prod.snd h2
end Go.Proofs.YtmnjjjhmnhfapaaGreatDoor
namespace Go.Proofs.YtmnjjjhmnhfapaaGreatDoor
open Go.RowKit

theorem keepText_set {n k : Nat} (h : n / 2 ^ k % 2 = 1) : Tm.keepText n (k + 1) = Tm.keepText n k ++ [10] ++ Tm.keepMore.getD k [] := by rw [Tm.keepText, if_pos h]
theorem keepText_not {n k : Nat} (h : ¬ n / 2 ^ k % 2 = 1) : Tm.keepText n (k + 1) = Tm.keepText n k := by rw [Tm.keepText, if_neg h]

theorem keepMore_len : ∀ k, k < 8 → (Tm.keepMore.getD k []).length ≤ 60 := by decide
theorem keepText_len (n : Nat) : ∀ k, k ≤ 8 → (Tm.keepText n k).length ≤ 300 + 70 * k
  | 0, _ => by show Tm.keepBase.length ≤ 300; decide +kernel
  | k + 1, h => by
    have ih := keepText_len n k (by omega)
    have h2 := keepMore_len k (by omega)
    rw [Tm.keepText]
    split
    · simp only [List.length_append, List.length_cons, List.length_nil]; omega
    · omega
theorem keep_bits : ∀ n : Nat, n < 256 → ∀ k, k < 8 → (bits BinOp.and IntKind.i64 ((n : Int) / 2 ^ k) 1 == 1) = decide (n / 2 ^ k % 2 = 1) := by decide +kernel

set_option maxRecDepth 100000 in
set_option maxHeartbeats 4000000 in
theorem table_any (n : Nat) (w : World) (hn : n < 256) :
    Calls Tryz.prog 104 #[.int .i64 n] w fun e w' => ∃ s : ByteArray, e = .returned (.string s) ∧ s.data.toList = Tm.keepTable n ∧ Below w.heap.size w w' := by
  obtain ⟨W, hW⟩ : ∃ W, w.alloc (.cells #[.string ⟨#[119, 32, 54, 51, 32, 54, 56, 32, 61, 32, 49, 53, 46, 50, 48, 46, 50]⟩, .string ⟨#[119, 32, 54, 49, 32, 51, 48, 49, 32, 61, 32, 49, 54, 46, 50, 48, 46, 50]⟩, .string ⟨#[119, 32, 54, 49, 32, 51, 50, 51, 32, 61, 32, 49, 55, 46, 50, 48, 46, 50, 10, 119, 32, 54, 49, 32, 51, 50, 51, 32, 51, 48, 49, 32, 61, 32, 49, 56, 46, 50, 48, 46, 50]⟩, .string ⟨#[119, 32, 50, 101, 32, 61, 32, 42, 52, 46, 50, 48, 46, 50, 32, 42, 53, 46, 50, 48, 46, 51]⟩, .string ⟨#[119, 32, 51, 48, 48, 32, 61, 32, 48, 46, 48, 46, 53, 10, 99, 32, 51, 48, 48, 32, 101, 54]⟩, .string ⟨#[119, 32, 51, 48, 50, 32, 61, 32, 48, 46, 48, 46, 48, 10, 99, 32, 51, 48, 50, 32, 101, 54]⟩, .string ⟨#[100, 32, 99, 53, 32, 52, 49, 32, 51, 48, 97, 10, 99, 32, 51, 48, 97, 32, 101, 54]⟩, .string ⟨#[119, 32, 48, 32, 61, 32, 48, 46, 48, 46, 48]⟩] 9) = W := ⟨_, rfl⟩
  have hb0 : Below w.heap.size w W := by rw [← hW]; exact (Below.refl _ _).alloc (Nat.le_refl _) _
  have HB0 := hide hb0
  have HCELL : Hid (∀ k, k < 8 → ∃ s : ByteArray, W.cell? ⟨w.heap.size, k, none⟩ = some (.string s) ∧ s.data.toList = Tm.keepMore.getD k []) := by
    intro k hk
    rw [← hW, cell_new rfl]
    rcases (show k = 0 ∨ k = 1 ∨ k = 2 ∨ k = 3 ∨ k = 4 ∨ k = 5 ∨ k = 6 ∨ k = 7 by omega) with rfl | rfl | rfl | rfl | rfl | rfl | rfl | rfl <;> exact ⟨_, rfl, rfl⟩
  clear hb0
  go_enter Tryz.func104, Tryz.ntmps104
  go_wp2_with fail
  go_loopw [3, 5] (fun vs i wr => ∃ (k : Nat) (s : ByteArray), k ≤ 8 ∧ i = .int .i64 k ∧ vs = .string s ∧ s.data.toList = Tm.keepText n k ∧ wr = W) (fun _ i _ => 8 - (intOf i).toNat)
  case atStart => exact ⟨0, _, by omega, rfl, rfl, rfl, rfl⟩
  case round =>
    obtain ⟨k, s, hk, rfl, rfl, hs, rfl⟩ := hrel
    have HS := hide hs
    clear hs
    by_cases hlt : k < 8
    · obtain ⟨m, hm, hmm⟩ := HCELL.out k hlt
      have HMM := hide hmm
      have i1 : (0 : Int) ≤ (k : Int) := by omega
      have i2 : (k : Int) < 8 := by omega
      clear hmm
      have hbb := keep_bits n hn k hlt
      have hsz : s.size ≤ 1000 := by have h1 := keepText_len n k hk; rw [← HS.out] at h1; simp at h1; omega
      have hmz : m.size ≤ 60 := by have h1 := keepMore_len k hlt; rw [← HMM.out] at h1; simpa using h1
      have z1 : ¬ 9223372036854775807 < s.size + 1 := by omega
      have z2 : ¬ 9223372036854775807 < s.size + 1 + m.size := by omega
      by_cases hbit : n / 2 ^ k % 2 = 1
      · rw [decide_eq_true hbit] at hbb
        have HT : Hid ((s ++ ⟨#[10]⟩ ++ m).data.toList = Tm.keepText n (k + 1)) := by
          unfold Hid
          rw [keepText_set hbit, ← HS.out, ← HMM.out]
          simp
        clear hbit
        go_wp2
        go_roundw
        case rel => exact ⟨k + 1, _, by omega, by go_num, rfl, HT.out, by first | rfl | trivial⟩
        case measure => simp [intOf]; omega
      · rw [decide_eq_false hbit] at hbb
        have HT : Hid (s.data.toList = Tm.keepText n (k + 1)) := by
          unfold Hid
          rw [keepText_not hbit]; exact HS.out
        clear hbit
        go_wp2
        go_roundw
        case rel => exact ⟨k + 1, s, by omega, by go_num, rfl, HT.out, by first | rfl | trivial⟩
        case measure => simp [intOf]; omega
    · have hk8 : k = 8 := by omega
      subst hk8
      go_wp2
      go_ret
      exact ⟨s, rfl, HS.out, HB0.out⟩

namespace Tm
theorem keep_good {n : Nat} (h : n < 256) : keepGood n = true := by
  by_cases h1 : n < 128
  · exact List.all_eq_true.1 keep_good_a n (List.mem_range.2 h1)
  · have := List.all_eq_true.1 keep_good_b (n - 128) (List.mem_range.2 (by omega))
    simpa [show n - 128 + 128 = n by omega] using this
theorem sole_some {p s t : Int} {o : Option (List El)} (h : sole p s t o = true) : o = some [⟨p, s, t, false⟩] := by
  unfold sole at h
  split at h
  · rename_i e
    simp at h
    obtain ⟨⟨⟨h1, h2⟩, h3⟩, h4⟩ := h
    obtain ⟨a, b, c, d⟩ := e
    simp at h1 h2 h3 h4
    subst h1 h2 h3 h4
    rfl
  · cases h
/-- What each of these tables is. -/
structure KeepTab (lns : List Ln) : Prop where
  a : seqOf lns [97] = some [⟨16, 32, 2, false⟩]
  b : seqOf lns [98] = some [⟨17, 32, 2, false⟩]
  pa : parts lns 97 = []
  pb : parts lns 98 = []
theorem keep_tab {n : Nat} (h : n < 256) {st : Int} (hst : 1 ≤ st ∧ st ≤ 4) : ∃ lns, newTable (keepTable n) st = (lns, 0, 0) ∧ KeepTab lns := by
  have hg := keep_good h
  unfold keepGood at hg
  simp only [Bool.and_eq_true, decide_eq_true_eq] at hg
  obtain ⟨⟨⟨⟨⟨h1, h2⟩, h3⟩, h4⟩, h5⟩, h6⟩ := hg
  refine ⟨keepLines n, ?_, sole_some h2, sole_some h3, h4, h5⟩
  unfold newTable at h1 ⊢
  rw [if_neg (by omega), if_neg (by omega)] at h1 ⊢
  unfold keepLines
  generalize readLines [] 1 (split 10 (keepTable n)) = p at h1 ⊢
  obtain ⟨l, o⟩ := p
  cases o with
  | none => simp only at h1 ⊢; rw [← h1]
  | some q => obtain ⟨m, e⟩ := q; simp only at h1 ⊢; rw [h1]
end Tm

/-- A collator of one of these tables. -/
def OpenedAns (n : Nat) (st : Int) (sh : Bool) (w : World) (e : Ending) (w' : World) : Prop :=
  ∃ bc bm lns, e = .returned (.pointer (some ⟨bc, 0, none⟩)) ∧ Coll w' bc bm st sh lns ∧ TableOk st lns ∧ Tm.KeepTab lns ∧ Tm.newTable (Tm.keepTable n) st = (lns, 0, 0) ∧ Below w.heap.size w w'

set_option maxRecDepth 100000 in
set_option maxHeartbeats 2000000 in
theorem opened_any (n st : Int) (sh : Bool) (w : World) (hn : -9223372036854775808 ≤ n ∧ n ≤ 9223372036854775807) (hst : -9223372036854775808 ≤ st ∧ st ≤ 9223372036854775807) :
    Calls Tryz.prog 55 #[.int .i64 n, .int .i64 st, .bool sh] w fun e w' => ∃ k st', k < 256 ∧ OpenedAns k st' sh w e w' := by
  obtain ⟨n1, n2⟩ := hn
  obtain ⟨s1, s2⟩ := hst
  go_enter Tryz.func55, Tryz.ntmps55
  go_wp2_with fail
  refine (pick_any n 256 _ ⟨n1, n2⟩ (by omega)).mono ?_
  rintro e w1 ⟨rfl, rfl⟩
  have hp := pickN_range (c := n) (n := 256) (by omega)
  obtain ⟨k, hk⟩ : ∃ k : Nat, pickN n 256 = k := ⟨(pickN n 256).toNat, by omega⟩
  rw [hk] at hp ⊢
  have hk256 : k < 256 := by omega
  clear hp hk
  go_wp2_with fail
  refine (table_any k _ hk256).mono ?_
  rintro e w2 ⟨s, rfl, hs, hb2⟩
  have HS := hide hs
  have HB2 := hide hb2
  have hz2 := hb2.size
  clear hs hb2
  go_wp2_with fail
  refine (pick_any st 4 _ ⟨s1, s2⟩ (by omega)).mono ?_
  rintro e w3 ⟨rfl, rfl⟩
  have hp := pickN_range (c := st) (n := 4) (by omega)
  obtain ⟨t, ht⟩ : ∃ t : Int, pickN st 4 = t := ⟨_, rfl⟩
  rw [ht] at hp ⊢
  obtain ⟨p1, p2⟩ := hp
  have hsz : s.size ≤ maxLen := by
    have h1 := keepText_len k 8 (by omega)
    have h2 : s.data.toList.length ≤ 860 := by rw [HS.out]; exact h1
    simp at h2
    unfold maxLen
    omega
  obtain ⟨lns, hl1, hl2⟩ := Tm.keep_tab hk256 (st := 1 + t) (by omega)
  have HL1 := hide hl1
  have HL2 := hide hl2
  clear ht hl1 hl2
  go_wp2_with fail
  refine (new_said.2 s (1 + t) sh _ hsz).mono ?_
  rintro e w4 ⟨c, rfl, hc, hK, hb4⟩
  rw [HS.out, HL1.out] at hc
  obtain ⟨a, rfl⟩ : ∃ a, c = some a := by
    cases c with
    | none => exact absurd rfl (hc.1 rfl)
    | some a => exact ⟨a, rfl⟩
  obtain ⟨bc, bm, lns', rfl, hco, hnt⟩ := hK _ rfl
  rw [HS.out, HL1.out] at hnt
  injection hnt with hnt _
  subst hnt
  have HC := hide hco.here
  have HOK : Hid (TableOk (1 + t) lns) := TableOk.of HL1.out (newTable_ends HL1.out)
  have HB4 := hide (HB2.out.trans (hb4.mono hz2))
  rw [HS.out, HL1.out]
  clear hc hK hco hb4
  go_wp2
  go_ret
  exact ⟨k, 1 + t, hk256, bc, bm, lns, rfl, HC.out, HOK.out, HL2.out, HL1.out, HB4.out⟩
end Go.Proofs.YtmnjjjhmnhfapaaGreatDoor
namespace Go.Proofs.YtmnjjjhmnhfapaaGreatDoor
open Go.RowKit

theorem runes_a : runesOf ⟨#[97]⟩ = [97] := by decide +kernel
theorem runes_b : runesOf ⟨#[98]⟩ = [98] := by decide +kernel
theorem norm_one {lns : List Tm.Ln} {s : ByteArray} {r : Int} (hr : runesOf s = [r]) (hp : Tm.parts lns r = []) : normOf lns s = [r] := by
  unfold normOf
  rw [hr]
  simp only [List.flatMap_cons, List.flatMap_nil, List.append_nil]
  rw [Tm.expand_leaf (by rw [hp]; rfl)]
  rfl
theorem elements_one {lns : List Tm.Ln} {r : Int} {e : List Tm.El} (h : Tm.seqOf lns [r] = some e) : Tm.elements lns [r] = e := by
  rw [Tm.elements_step (by simp)]
  have hl : Tm.lead lns [r] = 1 := by
    unfold Tm.lead
    rw [if_neg (fun h => by simp at h), if_neg (fun h => by simp at h)]
  rw [hl]
  simp only [List.take_succ_cons, List.take_zero, List.drop_succ_cons, List.drop_zero, Tm.grow]
  rw [Tm.elements_nil, List.append_nil, Tm.weigh, h]
theorem keep_norm_a {lns : List Tm.Ln} (h : Tm.KeepTab lns) : normOf lns ⟨#[97]⟩ = [97] := norm_one runes_a h.pa
theorem keep_norm_b {lns : List Tm.Ln} (h : Tm.KeepTab lns) : normOf lns ⟨#[98]⟩ = [98] := norm_one runes_b h.pb
theorem keep_cmp_ab {lns : List Tm.Ln} (h : Tm.KeepTab lns) {st : Int} {sh : Bool} (hst : 1 ≤ st ∧ st ≤ 4) : cmpOf lns st sh ⟨#[97]⟩ ⟨#[98]⟩ = -1 := by
  unfold cmpOf stands levels
  rw [keep_norm_a h, keep_norm_b h, elements_one h.a, elements_one h.b]
  obtain ⟨t, ht⟩ : ∃ t : Nat, st.toNat = t + 1 := ⟨st.toNat - 1, by omega⟩
  rw [ht]
  simp only [List.map_cons, List.take_succ_cons, List.cons_append, Tm.cmpLL]
  have : Tm.cmpL (Tm.level sh [⟨16, 32, 2, false⟩] 0) (Tm.level sh [⟨17, 32, 2, false⟩] 0) = -1 := by cases sh <;> decide
  rw [this]
  rfl
theorem cmpOf_self (lns : List Tm.Ln) (st : Int) (sh : Bool) (a : ByteArray) : cmpOf lns st sh a a = 0 := Tm.cmpLL_self _
theorem cmpOf_neg (lns : List Tm.Ln) (st : Int) (sh : Bool) (a b : ByteArray) : cmpOf lns st sh b a = - cmpOf lns st sh a b := Tm.cmpLL_neg _ _
theorem cmpOf_range (lns : List Tm.Ln) (st : Int) (sh : Bool) (a b : ByteArray) : cmpOf lns st sh a b = -1 ∨ cmpOf lns st sh a b = 0 ∨ cmpOf lns st sh a b = 1 := Tm.cmpLL_range _ _
theorem cmpOf_zero {lns : List Tm.Ln} {st : Int} {sh : Bool} {a b : ByteArray} : cmpOf lns st sh a b = 0 ↔ normOf lns a = normOf lns b :=
  ⟨fun h => stands_eq.1 (Tm.cmpLL_zero h), fun h => by unfold cmpOf; rw [h]; exact Tm.cmpLL_self _⟩
theorem cmpOf_trans {lns : List Tm.Ln} {st : Int} {sh : Bool} {a b c : ByteArray} (h : cmpOf lns st sh a b ≤ 0) (k : cmpOf lns st sh b c ≤ 0) : cmpOf lns st sh a c ≤ 0 := Tm.cmpLL_trans h k
theorem cmpOf_trans' {lns : List Tm.Ln} {st : Int} {sh : Bool} {a b c : ByteArray} (h : 0 ≤ cmpOf lns st sh a b) (k : 0 ≤ cmpOf lns st sh b c) : 0 ≤ cmpOf lns st sh a c := by
  have h1 := cmpOf_neg lns st sh a b
  have h2 := cmpOf_neg lns st sh b c
  have h3 := cmpOf_neg lns st sh a c
  have := cmpOf_trans (lns := lns) (st := st) (sh := sh) (a := c) (b := b) (c := a) (by omega) (by omega)
  omega
theorem key_cmp {lns : List Tm.Ln} (hf : ∀ o ∈ lns, Tm.Fit o) {st : Int} {sh : Bool} (hst : 1 ≤ st ∧ st ≤ 4) (a b : ByteArray) : Tm.cmpB (keyBytes lns st sh a) (keyBytes lns st sh b) = cmpOf lns st sh a b :=
  key_order hf hst (norm_range hf a) (norm_range hf b)

set_option maxRecDepth 100000 in
set_option maxHeartbeats 4000000 in
theorem works_any (lns : List Tm.Ln) (bc bm : Nat) (st : Int) (sh : Bool) (w : World) (hc : Coll w bc bm st sh lns) (hok : TableOk st lns) (hk : Tm.KeepTab lns) :
    Calls Tryz.prog 56 #[.pointer (some ⟨bc, 0, none⟩)] w fun e w' => e = .returned (.bool true) ∧ Below w.heap.size w w' := by
  have HC := hide hc
  have HOK := hide hok
  have HK := hide hk
  have HF := hide hc.fit
  clear hc hok hk
  go_enter Tryz.func56, Tryz.ntmps56
  go_wp2_with fail
  refine (Normal_any lns HF.out HOK.out.ends bc bm ⟨#[97]⟩ _ HC.out.c0 HC.out.rd).mono ?_
  rintro e w1 hans
  rw [normAns, if_pos (by decide), keep_norm_a HK.out] at hans
  obtain ⟨v1, rfl, hown1, hb1⟩ := hans
  obtain ⟨g1, o1, c1, rfl, hg1, hc1⟩ := (Reads.of_owns hown1).form (by simp [ints])
  have hx := hc1 0 (.int .i64 97) rfl
  rw [Nat.add_zero] at hx
  have HB1 := hide hb1
  have hz1 := hb1.size
  have HC1 := hide (HC.out.below hb1)
  clear hown1 hb1 hc1
  simp only [List.length_cons, List.length_nil, Nat.zero_add]
  go_wp2_with fail
  refine (CodeCompare_any lns bc bm st sh ⟨#[97]⟩ ⟨#[98]⟩ _ HC1.out HOK.out).mono ?_
  rw [if_pos (by decide), keep_cmp_ab HK.out HOK.out.st]
  rintro e w2 ⟨rfl, hb2⟩
  have hx2 : w2.cell? ⟨g1, o1, none⟩ = some (.int .i64 97) := by rw [hb2.cell (p := ⟨g1, o1, none⟩) hg1]; exact hx
  have hz2 := hb2.size
  have HB2 := hide (HB1.out.trans (hb2.mono hz1))
  have HC2 := hide (HC1.out.below hb2)
  clear hb2 hx
  go_wp2_with fail
  refine (CodeCompare_any lns bc bm st sh ⟨#[97]⟩ ⟨#[97]⟩ _ HC2.out HOK.out).mono ?_
  rw [if_pos (by decide), cmpOf_self]
  rintro e w3 ⟨rfl, hb3⟩
  have hx3 : w3.cell? ⟨g1, o1, none⟩ = some (.int .i64 97) := by rw [hb3.cell (p := ⟨g1, o1, none⟩) (by simp only; omega)]; exact hx2
  have hz3 := hb3.size
  have HB3 := hide (HB2.out.trans (hb3.mono (by omega)))
  have HC3 := hide (HC2.out.below hb3)
  clear hb3 hx2
  go_wp2_with fail
  refine (CodeKey_any lns bc bm st sh ⟨#[97]⟩ _ HC3.out HOK.out).mono ?_
  rw [if_pos (by decide)]
  rintro e w4 ⟨rfl, hb4⟩
  have hx4 : w4.cell? ⟨g1, o1, none⟩ = some (.int .i64 97) := by rw [hb4.cell (p := ⟨g1, o1, none⟩) (by simp only; omega)]; exact hx3
  have hz4 := hb4.size
  have HB4 := hide (HB3.out.trans (hb4.mono (by omega)))
  have HC4 := hide (HC3.out.below hb4)
  clear hb4 hx3
  go_wp2_with fail
  refine (CodeKey_any lns bc bm st sh ⟨#[98]⟩ _ HC4.out HOK.out).mono ?_
  rw [if_pos (by decide)]
  rintro e w5 ⟨rfl, hb5⟩
  have hx5 : w5.cell? ⟨g1, o1, none⟩ = some (.int .i64 97) := by rw [hb5.cell (p := ⟨g1, o1, none⟩) (by simp only; omega)]; exact hx4
  have hz5 := hb5.size
  have HB5 := hide (HB4.out.trans (hb5.mono (by omega)))
  have HC5 := hide (HC4.out.below hb5)
  clear hb5 hx4
  go_wp2_with fail
  refine (CodeElements_any lns bc bm st sh ⟨#[97]⟩ _ HC5.out HOK.out).mono ?_
  rintro e w6 hans
  rw [partsOfAns, if_pos (by decide), keep_norm_a HK.out, elements_one HK.out.a] at hans
  obtain ⟨v6, rfl, hown6, hb6⟩ := hans
  obtain ⟨g6, o6, c6, rfl, hg6, hc6⟩ := (Reads.of_owns hown6).form (by simp [elsCells, elCells])
  have hy := hc6 0 (.int .i64 16) rfl
  rw [Nat.add_zero] at hy
  have hx6 : w6.cell? ⟨g1, o1, none⟩ = some (.int .i64 97) := by rw [hb6.cell (p := ⟨g1, o1, none⟩) (by simp only; omega)]; exact hx5
  have HB6 := hide (HB5.out.trans (hb6.mono (by omega)))
  simp only [List.length_cons, List.length_nil, Nat.zero_add]
  have hlt : Op.bytesLess (ByteArray.mk (keyBytes lns st sh ⟨#[97]⟩).toArray).toList (ByteArray.mk (keyBytes lns st sh ⟨#[98]⟩).toArray).toList = true := by
    rw [bytesLess_eq, Go.ByteArray.toList_eq, Go.ByteArray.toList_eq]
    have h := (key_cmp HF.out (sh := sh) HOK.out.st ⟨#[97]⟩ ⟨#[98]⟩).trans (keep_cmp_ab HK.out HOK.out.st)
    unfold Tm.cmpB at h
    split at h
    · rename_i h1; simpa using h1
    · split at h <;> simp at h
  generalize (keyBytes lns st sh ⟨#[97]⟩).toArray = ka at *
  generalize (keyBytes lns st sh ⟨#[98]⟩).toArray = kb at *
  clear hown6 hb6 hc6 hx5
  go_wp2
  go_ret
  exact ⟨rfl, HB6.out⟩
end Go.Proofs.YtmnjjjhmnhfapaaGreatDoor
