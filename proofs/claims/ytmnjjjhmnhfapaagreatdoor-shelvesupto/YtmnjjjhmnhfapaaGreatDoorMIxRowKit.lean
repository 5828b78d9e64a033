import Derived.BigQuiet
import Derived.Laws.IdiomStrings
import Derived.Deep.LoopGhost
import Derived.Maps.AppendAt
import Derived.Laws.IdiomCopy
import Derived.Test.YtmnjjjhmnhfapaaGreatDoorMRefNum
import Derived.Test.YtmnjjjhmnhfapaaGreatDoorMCodeApi
import Derived.Test.YtmnjjjhmnhfapaaGreatDoorMCodeNew
import Derived.Test.YtmnjjjhmnhfapaaGreatDoorMCodeNormal
import Derived.Test.YtmnjjjhmnhfapaaGreatDoorMRefParts
import Derived.Test.YtmnjjjhmnhfapaaGreatDoorMCodeBuild
import Derived.Test.YtmnjjjhmnhfapaaGreatDoorMCodeAny
import Derived.Test.YtmnjjjhmnhfapaaGreatDoorMLibStr
namespace Go.Proofs.YtmnjjjhmnhfapaaGreatDoor
open Go.RowKit

theorem bytesLess_eq : ∀ (a b : List UInt8), Op.bytesLess a b = Tm.lessB a b
  | [], [] => rfl
  | [], _ :: _ => rfl
  | _ :: _, [] => rfl
  | a :: x, b :: y => by
    rw [Op.bytesLess, Tm.lessB, bytesLess_eq x y]
    by_cases h1 : a < b
    · simp [h1]
    · by_cases h2 : b < a
      · have : a ≠ b := fun h => by subst h; exact h1 h2
        simp [h1, h2, this]
      · have : a = b := UInt8.le_antisymm (UInt8.not_lt.1 h2) (UInt8.not_lt.1 h1)
        subst this
        simp [UInt8.lt_irrefl]
theorem lessB_asymm : ∀ {a b : List UInt8}, Tm.lessB a b = true → Tm.lessB b a = false
  | [], [], h => by simp [Tm.lessB] at h
  | [], _ :: _, _ => rfl
  | _ :: _, [], h => by simp [Tm.lessB] at h
  | a :: x, b :: y, h => by
    unfold Tm.lessB at h ⊢
    by_cases h1 : a < b
    · rw [if_neg (UInt8.not_lt.2 (UInt8.le_of_lt h1)), if_pos h1]
    · rw [if_neg h1] at h
      by_cases h2 : b < a
      · rw [if_pos h2] at h; cases h
      · rw [if_neg h2] at h
        rw [if_neg h2, if_neg h1]
        exact lessB_asymm h
theorem lessB_none : ∀ {a b : List UInt8}, Tm.lessB a b = false → Tm.lessB b a = false → a = b
  | [], [], _, _ => rfl
  | [], _ :: _, h, _ => by simp [Tm.lessB] at h
  | _ :: _, [], _, h => by simp [Tm.lessB] at h
  | a :: x, b :: y, h, k => by
    unfold Tm.lessB at h k
    by_cases h1 : a < b
    · rw [if_pos h1] at h; cases h
    · rw [if_neg h1] at h
      by_cases h2 : b < a
      · rw [if_pos h2] at k; cases k
      · rw [if_neg h2] at h
        rw [if_neg h2, if_neg h1] at k
        have : a = b := UInt8.le_antisymm (UInt8.not_lt.1 h2) (UInt8.not_lt.1 h1)
        rw [this, lessB_none h k]

/-- Which of n things. -/
def pickN (c n : Int) : Int := if c < 0 then (-(c + 1)) % n else c % n
theorem pickN_range {c n : Int} (hn : 0 < n) : 0 ≤ pickN c n ∧ pickN c n < n := by
  unfold pickN
  split
  · exact ⟨Int.emod_nonneg _ (by omega), Int.emod_lt_of_pos _ hn⟩
  · exact ⟨Int.emod_nonneg _ (by omega), Int.emod_lt_of_pos _ hn⟩

set_option maxRecDepth 100000 in
set_option maxHeartbeats 1000000 in
theorem pick_any (c n : Int) (w : World) (hc : -9223372036854775808 ≤ c ∧ c ≤ 9223372036854775807) (hn : 0 < n ∧ n ≤ 1000000) :
    Calls Tryz.prog 24 #[.int .i64 c, .int .i64 n] w fun e w' => e = .returned (.int .i64 (pickN c n)) ∧ w' = w := by
  obtain ⟨hc1, hc2⟩ := hc
  obtain ⟨hn1, hn2⟩ := hn
  have hn0 : (n == 0) = false := by simp; omega
  have hn9 : (n == -1) = false := by simp; omega
  by_cases h : c < 0
  · have HP : Hid (pickN c n = (-(c + 1)).tmod n) := by unfold Hid pickN; rw [if_pos h, Int.tmod_eq_emod_of_nonneg (by omega)]
    go_enter Tryz.func24, Tryz.ntmps24
    go_wp2
    go_ret
    exact ⟨ret_int (by rw [HP.out, Int.neg_tmod]), rfl⟩
  · have HP : Hid (pickN c n = c.tmod n) := by unfold Hid pickN; rw [if_neg h, Int.tmod_eq_emod_of_nonneg (by omega)]
    go_enter Tryz.func24, Tryz.ntmps24
    go_wp2
    go_ret
    exact ⟨ret_int (by rw [HP.out, Int.tmod_eq_emod_of_nonneg h]), rfl⟩

/-- A text that is not too long. -/
def cutB (s : ByteArray) : ByteArray := if 64 < s.size then s.extract 0 64 else s
theorem cutB_size (s : ByteArray) : (cutB s).size ≤ 64 := by
  unfold cutB
  split
  · simp [ByteArray.size_extract]; omega
  · omega
set_option maxRecDepth 100000 in
set_option maxHeartbeats 1000000 in
theorem cut_any (s : ByteArray) (w : World) : Calls Tryz.prog 20 #[.string s] w fun e w' => e = .returned (.string (cutB s)) ∧ w' = w := by
  by_cases h : 64 < s.size
  · have hd : decide (64 < (s.size : Int)) = true := by simp; omega
    have hc : cutB s = s.extract 0 64 := by unfold cutB; rw [if_pos h]
    have HC := hide hc
    clear hc
    go_enter Tryz.func20, Tryz.ntmps20
    go_wp2
    go_ret
    exact ⟨by rw [HC.out]; rfl, rfl⟩
  · have hd : decide (64 < (s.size : Int)) = false := by simp; omega
    have HC : Hid (cutB s = s) := by unfold Hid cutB; rw [if_neg h]
    go_enter Tryz.func20, Tryz.ntmps20
    go_wp2
    go_ret
    exact ⟨by rw [HC.out]; rfl, rfl⟩

end Go.Proofs.YtmnjjjhmnhfapaaGreatDoor
/-
  Plain facts for the reference's Normal: its steps end, its passes end, and what they come to.
-/
namespace Go.Proofs.YtmnjjjhmnhfapaaGreatDoor
open Go.RowKit
namespace Tm

theorem ends_all {lns : List Ln} (h : (together lns).2 = 0) (r : Int) : ends lns 4 r = true := by
  by_cases h0 : (parts lns r).length = 0
  · exact ends_leaf h0
  unfold parts at h0
  cases hf : lns.find? (isParts r) with
  | none => rw [hf] at h0; simp at h0
  | some o =>
    have hm := List.mem_of_find?_eq_some hf
    have hp := List.find?_some hf
    simp only [isParts, Bool.and_eq_true, decide_eq_true_eq, beq_iff_eq] at hp
    have hb : lns.find? (badLoop lns) = none := by
      cases hb : lns.find? (badLoop lns) with
      | none => rfl
      | some q => unfold together at h; rw [hb] at h; simp at h
    have h1 := List.find?_eq_none.1 hb o hm
    rw [badLoop_ends, hp.1, hp.2] at h1
    simpa using h1

theorem leaf_of {lns : List Ln} {l : List Int} (h : hasParts lns l = false) {x : Int} (hx : x ∈ l) : (parts lns x).length = 0 := by
  unfold hasParts at h
  have := (List.any_eq_false.1 h) x hx
  simpa using this
theorem step_stop {lns : List Ln} : ∀ {l : List Int}, hasParts lns l = false → stepAll lns l = l
  | [], _ => rfl
  | x :: r, h => by
    have h0 := leaf_of h (List.mem_cons_self)
    have hr : hasParts lns r = false := by unfold hasParts at h ⊢; simp only [List.any_cons, Bool.or_eq_false_iff] at h; exact h.2
    have ih := step_stop hr
    unfold stepAll at ih ⊢
    rw [List.flatMap_cons, ih, step1, if_pos h0]; rfl
theorem flat_leaf {lns : List Ln} {n : Nat} : ∀ {l : List Int}, hasParts lns l = false → l.flatMap (expand lns n) = l
  | [], _ => rfl
  | x :: r, h => by
    have h0 := leaf_of h (List.mem_cons_self)
    have hr : hasParts lns r = false := by unfold hasParts at h ⊢; simp only [List.any_cons, Bool.or_eq_false_iff] at h; exact h.2
    rw [List.flatMap_cons, flat_leaf hr, expand_leaf h0]; rfl
theorem ends_zero {lns : List Ln} {l : List Int} (h : l.all (ends lns 0) = true) : hasParts lns l = false := by
  unfold hasParts
  rw [List.any_eq_false]
  intro x hx
  have := (List.all_eq_true.1 h) x hx
  simpa [ends] using this
theorem step_down {lns : List Ln} {n : Nat} : ∀ {l : List Int}, l.all (ends lns (n + 1)) = true → (stepAll lns l).all (ends lns n) = true ∧ (stepAll lns l).flatMap (expand lns n) = l.flatMap (expand lns (n + 1))
  | [], _ => ⟨rfl, rfl⟩
  | x :: r, h => by
    simp only [List.all_cons, Bool.and_eq_true] at h
    have ih := step_down h.2
    unfold stepAll at ih ⊢
    rw [List.flatMap_cons, List.all_append, List.flatMap_append, List.flatMap_cons, ih.1, ih.2]
    by_cases h0 : (parts lns x).length = 0
    · rw [step1, if_pos h0]
      have e := ends_leaf (n := n) h0
      refine ⟨by simp [e], ?_⟩
      rw [expand_leaf (n := n + 1) h0]
      simp [expand_leaf (n := n) h0]
    · rw [step1, if_neg h0]
      have h1 := h.1
      rw [ends] at h1
      have h2 : (parts lns x).all (ends lns n) = true := by simpa [h0] using h1
      refine ⟨by rw [h2]; rfl, ?_⟩
      rw [expand_part h0]
theorem expand_pos {lns : List Ln} : ∀ (n : Nat) (x : Int), 1 ≤ (expand lns n x).length
  | 0, x => Nat.le_refl _
  | n + 1, x => by
    rw [expand]
    split
    · exact Nat.le_refl _
    · rename_i h
      cases hp : parts lns x with
      | nil => rw [hp] at h; simp at h
      | cons y t => have := expand_pos (lns := lns) n y; rw [List.flatMap_cons, List.length_append]; omega
theorem flat_long {lns : List Ln} (n : Nat) (l : List Int) : l.length ≤ (l.flatMap (expand lns n)).length := by
  induction l with
  | nil => simp
  | cons x r ih => have := expand_pos (lns := lns) n x; rw [List.flatMap_cons, List.length_append, List.length_cons]; omega

/-- How many steps there are below these runes. -/
def depth (lns : List Ln) (l : List Int) : Nat :=
  if l.all (ends lns 0) then 0 else if l.all (ends lns 1) then 1 else if l.all (ends lns 2) then 2 else if l.all (ends lns 3) then 3 else 4
theorem depth_le {lns : List Ln} {l : List Int} {n : Nat} (h : l.all (ends lns n) = true) (hn : n ≤ 4) : depth lns l ≤ n := by
  rcases (by omega : n = 0 ∨ n = 1 ∨ n = 2 ∨ n = 3 ∨ n = 4) with rfl | rfl | rfl | rfl | rfl <;> unfold depth <;> repeat' split
  all_goals first | omega | contradiction
theorem depth_all {lns : List Ln} {l : List Int} {n : Nat} (h : l.all (ends lns n) = true) (hn : n ≤ 4) : l.all (ends lns (depth lns l)) = true ∧ depth lns l ≤ 4 := by
  have h4 : l.all (ends lns 4) = true ∨ n ≤ 3 := by
    by_cases e : n = 4
    · subst e; exact .inl h
    · exact .inr (by omega)
  unfold depth
  repeat' split
  all_goals first
    | exact ⟨by assumption, by omega⟩
    | (rcases h4 with h4 | h4
       · exact ⟨h4, Nat.le_refl _⟩
       · rcases (by omega : n = 0 ∨ n = 1 ∨ n = 2 ∨ n = 3) with rfl | rfl | rfl | rfl <;> contradiction)
/-- A step where one has parts: less is left, and what they come to is the same. -/
theorem depth_step {lns : List Ln} {l E : List Int} {n : Nat} (h : l.all (ends lns n) = true) (hn : n ≤ 4) (hE : l.flatMap (expand lns n) = E) (hp : hasParts lns l = true) :
    ∃ m, m ≤ 4 ∧ (stepAll lns l).all (ends lns m) = true ∧ (stepAll lns l).flatMap (expand lns m) = E := by
  cases n with
  | zero => rw [ends_zero h] at hp; cases hp
  | succ n =>
    obtain ⟨h1, h2⟩ := step_down h
    exact ⟨n, by omega, h1, h2.trans hE⟩
theorem depth_less {lns : List Ln} {l : List Int} {n : Nat} (h : l.all (ends lns n) = true) (hn : n ≤ 4) (hp : hasParts lns l = true) : depth lns (stepAll lns l) < depth lns l := by
  obtain ⟨h1, h2⟩ := depth_all h hn
  obtain ⟨d, hd⟩ : ∃ d, depth lns l = d := ⟨_, rfl⟩
  rw [hd] at h1 h2 ⊢
  cases d with
  | zero => rw [ends_zero h1] at hp; cases hp
  | succ d => have := depth_le (step_down h1).1 (by omega); omega

/-- How many stand in the wrong order. -/
def inv (k : Int → Int) : List Int → Nat
  | [] => 0
  | x :: r => r.countP (fun y => decide (k y ≠ 0 ∧ k y < k x)) + inv k r
theorem inv_swap {k : Int → Int} {a b : Int} (hb : k b ≠ 0) (hab : k b < k a) : ∀ (p q : List Int), inv k (p ++ a :: b :: q) = inv k (p ++ b :: a :: q) + 1
  | [], q => by
    simp only [List.nil_append, inv, List.countP_cons]
    have e1 : decide (k b ≠ 0 ∧ k b < k a) = true := by simp [hb, hab]
    have e2 : decide (k a ≠ 0 ∧ k a < k b) = false := by simp; omega
    rw [e1, e2]; simp; omega
  | x :: p, q => by
    simp only [List.cons_append, inv]
    rw [inv_swap hb hab p q]
    have hp : (p ++ a :: b :: q).Perm (p ++ b :: a :: q) := List.Perm.append_left p (List.Perm.swap b a q)
    rw [hp.countP_eq]; omega
/-- Are these two in the wrong order? -/
def wrong (k : Int → Int) (a b : Int) : Bool := decide (k b ≠ 0 ∧ k b < k a)
theorem calm_of {k : Int → Int} : ∀ {l : List Int}, (∀ j, j + 1 < l.length → wrong k (l.getD j 0) (l.getD (j + 1) 0) = false) → Calm k l
  | [], _ => trivial
  | [_], _ => trivial
  | a :: b :: r, h => by
    refine ⟨by have := h 0 (by simp); simpa [wrong] using this, calm_of fun j hj => ?_⟩
    have := h (j + 1) (by simp at hj ⊢; omega)
    simpa using this
end Tm

/-- Reads of one slice are the same. -/
theorem Reads.one {w : World} {v : Value} {l l' : List Int} (h : Reads w v 1 l.length (ints l)) (h' : Reads w v 1 l'.length (ints l')) : l = l' := by
  obtain ⟨a, cap, rfl⟩ := h.shape
  have hl := h'.fits.1
  refine List.ext_getElem hl fun k h1 h2 => ?_
  obtain ⟨g, off, ha, _, c⟩ := h.at h1
  obtain ⟨g', off', ha', _, c'⟩ := h'.at h2
  rw [ha] at ha'
  cases ha'
  rw [c] at c'
  simpa using c'
open Classical in
/-- The numbers that a slice reads as. -/
noncomputable def listOf (w : World) (v : Value) : List Int := if h : ∃ l : List Int, Reads w v 1 l.length (ints l) then h.choose else []
theorem listOf_eq {w : World} {v : Value} {l : List Int} (h : Reads w v 1 l.length (ints l)) : listOf w v = l := by
  have hx : ∃ l : List Int, Reads w v 1 l.length (ints l) := ⟨l, h⟩
  unfold listOf
  rw [dif_pos hx]
  exact Reads.one hx.choose_spec h
end Go.Proofs.YtmnjjjhmnhfapaaGreatDoor
namespace Go.Proofs.YtmnjjjhmnhfapaaGreatDoor

theorem newTable_ends {s : List UInt8} {st : Int} {lns : List Tm.Ln} (h : Tm.newTable s st = (lns, 0, 0)) (r : Int) : Tm.ends lns 4 r = true := by
  refine Tm.ends_all ?_ r
  unfold Tm.newTable at h
  split at h
  · simp at h
  · split at h
    · simp at h
    · split at h
      · rename_i n e heq
        simp at h
        exact absurd h.2.2 (readLines_err _ _ _ _ _ _ heq)
      · rename_i heq
        injection h with h1 h2
        subst h1
        exact congrArg Prod.snd h2
end Go.Proofs.YtmnjjjhmnhfapaaGreatDoor
namespace Go.Proofs.YtmnjjjhmnhfapaaGreatDoor
open Go.RowKit

theorem keepText_set {n k : Nat} (h : n / 2 ^ k % 2 = 1) : Tm.keepText n (k + 1) = Tm.keepText n k ++ [10] ++ Tm.keepMore.getD k [] := by rw [Tm.keepText, if_pos h]
theorem keepText_not {n k : Nat} (h : ¬ n / 2 ^ k % 2 = 1) : Tm.keepText n (k + 1) = Tm.keepText n k := by rw [Tm.keepText, if_neg h]

theorem keepMore_len : ∀ k, k < 8 → (Tm.keepMore.getD k []).length ≤ 60 := by decide
theorem keepText_len (n : Nat) : ∀ k, k ≤ 8 → (Tm.keepText n k).length ≤ 300 + 70 * k
  | 0, _ => by show Tm.keepBase.length ≤ 300; decide +kernel
  | k + 1, h => by
    have ih := keepText_len n k (by omega)
    have h2 := keepMore_len k (by omega)
    rw [Tm.keepText]
    split
    · simp only [List.length_append, List.length_cons, List.length_nil]; omega
    · omega
theorem keep_bits : ∀ n : Nat, n < 256 → ∀ k, k < 8 → (bits BinOp.and IntKind.i64 ((n : Int) / 2 ^ k) 1 == 1) = decide (n / 2 ^ k % 2 = 1) := by decide +kernel

set_option maxRecDepth 100000 in
set_option maxHeartbeats 4000000 in
theorem table_any (n : Nat) (w : World) (hn : n < 256) :
    Calls Tryz.prog 104 #[.int .i64 n] w fun e w' => ∃ s : ByteArray, e = .returned (.string s) ∧ s.data.toList = Tm.keepTable n ∧ Below w.heap.size w w' := by
  obtain ⟨W, hW⟩ : ∃ W, w.alloc (.cells #[.string ⟨#[119, 32, 54, 51, 32, 54, 56, 32, 61, 32, 49, 53, 46, 50, 48, 46, 50]⟩, .string ⟨#[119, 32, 54, 49, 32, 51, 48, 49, 32, 61, 32, 49, 54, 46, 50, 48, 46, 50]⟩, .string ⟨#[119, 32, 54, 49, 32, 51, 50, 51, 32, 61, 32, 49, 55, 46, 50, 48, 46, 50, 10, 119, 32, 54, 49, 32, 51, 50, 51, 32, 51, 48, 49, 32, 61, 32, 49, 56, 46, 50, 48, 46, 50]⟩, .string ⟨#[119, 32, 50, 101, 32, 61, 32, 42, 52, 46, 50, 48, 46, 50, 32, 42, 53, 46, 50, 48, 46, 51]⟩, .string ⟨#[119, 32, 51, 48, 48, 32, 61, 32, 48, 46, 48, 46, 53, 10, 99, 32, 51, 48, 48, 32, 101, 54]⟩, .string ⟨#[119, 32, 51, 48, 50, 32, 61, 32, 48, 46, 48, 46, 48, 10, 99, 32, 51, 48, 50, 32, 101, 54]⟩, .string ⟨#[100, 32, 99, 53, 32, 52, 49, 32, 51, 48, 97, 10, 99, 32, 51, 48, 97, 32, 101, 54]⟩, .string ⟨#[119, 32, 48, 32, 61, 32, 48, 46, 48, 46, 48]⟩] 9) = W := ⟨_, rfl⟩
  have hb0 : Below w.heap.size w W := by rw [← hW]; exact (Below.refl _ _).alloc (Nat.le_refl _) _
  have HB0 := hide hb0
  have HCELL : Hid (∀ k, k < 8 → ∃ s : ByteArray, W.cell? ⟨w.heap.size, k, none⟩ = some (.string s) ∧ s.data.toList = Tm.keepMore.getD k []) := by
    intro k hk
    rw [← hW, cell_new rfl]
    rcases (show k = 0 ∨ k = 1 ∨ k = 2 ∨ k = 3 ∨ k = 4 ∨ k = 5 ∨ k = 6 ∨ k = 7 by omega) with rfl | rfl | rfl | rfl | rfl | rfl | rfl | rfl <;> exact ⟨_, rfl, rfl⟩
  clear hb0
  go_enter Tryz.func104, Tryz.ntmps104
  go_wp2_with fail
  go_loopw [3, 5] (fun vs i wr => ∃ (k : Nat) (s : ByteArray), k ≤ 8 ∧ i = .int .i64 k ∧ vs = .string s ∧ s.data.toList = Tm.keepText n k ∧ wr = W) (fun _ i _ => 8 - (intOf i).toNat)
  case atStart => exact ⟨0, _, by omega, rfl, rfl, rfl, rfl⟩
  case round =>
    obtain ⟨k, s, hk, rfl, rfl, hs, rfl⟩ := hrel
    have HS := hide hs
    clear hs
    by_cases hlt : k < 8
    · obtain ⟨m, hm, hmm⟩ := HCELL.out k hlt
      have HMM := hide hmm
      have i1 : (0 : Int) ≤ (k : Int) := by omega
      have i2 : (k : Int) < 8 := by omega
      clear hmm
      have hbb := keep_bits n hn k hlt
      have hsz : s.size ≤ 1000 := by have h1 := keepText_len n k hk; rw [← HS.out] at h1; simp at h1; omega
      have hmz : m.size ≤ 60 := by have h1 := keepMore_len k hlt; rw [← HMM.out] at h1; simpa using h1
      have z1 : ¬ 9223372036854775807 < s.size + 1 := by omega
      have z2 : ¬ 9223372036854775807 < s.size + 1 + m.size := by omega
      by_cases hbit : n / 2 ^ k % 2 = 1
      · rw [decide_eq_true hbit] at hbb
        have HT : Hid ((s ++ ⟨#[10]⟩ ++ m).data.toList = Tm.keepText n (k + 1)) := by
          unfold Hid
          rw [keepText_set hbit, ← HS.out, ← HMM.out]
          simp
        clear hbit
        go_wp2
        go_roundw
        case rel => exact ⟨k + 1, _, by omega, by go_num, rfl, HT.out, by first | rfl | trivial⟩
        case measure => simp [intOf]; omega
      · rw [decide_eq_false hbit] at hbb
        have HT : Hid (s.data.toList = Tm.keepText n (k + 1)) := by
          unfold Hid
          rw [keepText_not hbit]; exact HS.out
        clear hbit
        go_wp2
        go_roundw
        case rel => exact ⟨k + 1, s, by omega, by go_num, rfl, HT.out, by first | rfl | trivial⟩
        case measure => simp [intOf]; omega
    · have hk8 : k = 8 := by omega
      subst hk8
      go_wp2
      go_ret
      exact ⟨s, rfl, HS.out, HB0.out⟩

namespace Tm
theorem keep_good {n : Nat} (h : n < 256) : keepGood n = true := by
  by_cases h1 : n < 128
  · exact List.all_eq_true.1 keep_good_a n (List.mem_range.2 h1)
  · have := List.all_eq_true.1 keep_good_b (n - 128) (List.mem_range.2 (by omega))
    simpa [show n - 128 + 128 = n by omega] using this
theorem sole_some {p s t : Int} {o : Option (List El)} (h : sole p s t o = true) : o = some [⟨p, s, t, false⟩] := by
  unfold sole at h
  split at h
  · rename_i e
    simp at h
    obtain ⟨⟨⟨h1, h2⟩, h3⟩, h4⟩ := h
    obtain ⟨a, b, c, d⟩ := e
    simp at h1 h2 h3 h4
    subst h1 h2 h3 h4
    rfl
  · cases h
/-- What each of these tables is. -/
structure KeepTab (lns : List Ln) : Prop where
  a : seqOf lns [97] = some [⟨16, 32, 2, false⟩]
  b : seqOf lns [98] = some [⟨17, 32, 2, false⟩]
  pa : parts lns 97 = []
  pb : parts lns 98 = []
theorem keep_tab {n : Nat} (h : n < 256) {st : Int} (hst : 1 ≤ st ∧ st ≤ 4) : ∃ lns, newTable (keepTable n) st = (lns, 0, 0) ∧ KeepTab lns := by
  have hg := keep_good h
  unfold keepGood at hg
  simp only [Bool.and_eq_true, decide_eq_true_eq] at hg
  obtain ⟨⟨⟨⟨⟨h1, h2⟩, h3⟩, h4⟩, h5⟩, h6⟩ := hg
  refine ⟨keepLines n, ?_, sole_some h2, sole_some h3, h4, h5⟩
  unfold newTable at h1 ⊢
  rw [if_neg (by omega), if_neg (by omega)] at h1 ⊢
  unfold keepLines
  generalize readLines [] 1 (split 10 (keepTable n)) = p at h1 ⊢
  obtain ⟨l, o⟩ := p
  cases o with
  | none => simp only at h1 ⊢; rw [← h1]
  | some q => obtain ⟨m, e⟩ := q; simp only at h1 ⊢; rw [h1]
end Tm

/-- A collator of one of these tables. -/
def OpenedAns (n : Nat) (st : Int) (sh : Bool) (w : World) (e : Ending) (w' : World) : Prop :=
  ∃ bc bm lns, e = .returned (.pointer (some ⟨bc, 0, none⟩)) ∧ Coll w' bc bm st sh lns ∧ TableOk st lns ∧ Tm.KeepTab lns ∧ Tm.newTable (Tm.keepTable n) st = (lns, 0, 0) ∧ Below w.heap.size w w'

set_option maxRecDepth 100000 in
set_option maxHeartbeats 2000000 in
theorem opened_any (n st : Int) (sh : Bool) (w : World) (hn : -9223372036854775808 ≤ n ∧ n ≤ 9223372036854775807) (hst : -9223372036854775808 ≤ st ∧ st ≤ 9223372036854775807) :
    Calls Tryz.prog 55 #[.int .i64 n, .int .i64 st, .bool sh] w fun e w' => ∃ k st', k < 256 ∧ OpenedAns k st' sh w e w' := by
  obtain ⟨n1, n2⟩ := hn
  obtain ⟨s1, s2⟩ := hst
  go_enter Tryz.func55, Tryz.ntmps55
  go_wp2_with fail
  refine (pick_any n 256 _ ⟨n1, n2⟩ (by omega)).mono ?_
  rintro e w1 ⟨rfl, rfl⟩
  have hp := pickN_range (c := n) (n := 256) (by omega)
  obtain ⟨k, hk⟩ : ∃ k : Nat, pickN n 256 = k := ⟨(pickN n 256).toNat, by omega⟩
  rw [hk] at hp ⊢
  have hk256 : k < 256 := by omega
  clear hp hk
  go_wp2_with fail
  refine (table_any k _ hk256).mono ?_
  rintro e w2 ⟨s, rfl, hs, hb2⟩
  have HS := hide hs
  have HB2 := hide hb2
  have hz2 := hb2.size
  clear hs hb2
  go_wp2_with fail
  refine (pick_any st 4 _ ⟨s1, s2⟩ (by omega)).mono ?_
  rintro e w3 ⟨rfl, rfl⟩
  have hp := pickN_range (c := st) (n := 4) (by omega)
  obtain ⟨t, ht⟩ : ∃ t : Int, pickN st 4 = t := ⟨_, rfl⟩
  rw [ht] at hp ⊢
  obtain ⟨p1, p2⟩ := hp
  have hsz : s.size ≤ maxLen := by
    have h1 := keepText_len k 8 (by omega)
    have h2 : s.data.toList.length ≤ 860 := by rw [HS.out]; exact h1
    simp at h2
    unfold maxLen
    omega
  obtain ⟨lns, hl1, hl2⟩ := Tm.keep_tab hk256 (st := 1 + t) (by omega)
  have HL1 := hide hl1
  have HL2 := hide hl2
  clear ht hl1 hl2
  go_wp2_with fail
  refine (new_said.2 s (1 + t) sh _ hsz).mono ?_
  rintro e w4 ⟨c, rfl, hc, hK, hb4⟩
  rw [HS.out, HL1.out] at hc
  obtain ⟨a, rfl⟩ : ∃ a, c = some a := by
    cases c with
    | none => exact absurd rfl (hc.1 rfl)
    | some a => exact ⟨a, rfl⟩
  obtain ⟨bc, bm, lns', rfl, hco, hnt⟩ := hK _ rfl
  rw [HS.out, HL1.out] at hnt
  injection hnt with hnt _
  subst hnt
  have HC := hide hco.here
  have HOK : Hid (TableOk (1 + t) lns) := TableOk.of HL1.out (newTable_ends HL1.out)
  have HB4 := hide (HB2.out.trans (hb4.mono hz2))
  rw [HS.out, HL1.out]
  clear hc hK hco hb4
  go_wp2
  go_ret
  exact ⟨k, 1 + t, hk256, bc, bm, lns, rfl, HC.out, HOK.out, HL2.out, HL1.out, HB4.out⟩
end Go.Proofs.YtmnjjjhmnhfapaaGreatDoor
namespace Go.Proofs.YtmnjjjhmnhfapaaGreatDoor
open Go.RowKit

theorem runes_a : runesOf ⟨#[97]⟩ = [97] := by decide +kernel
theorem runes_b : runesOf ⟨#[98]⟩ = [98] := by decide +kernel
theorem norm_one {lns : List Tm.Ln} {s : ByteArray} {r : Int} (hr : runesOf s = [r]) (hp : Tm.parts lns r = []) : normOf lns s = [r] := by
  unfold normOf
  rw [hr]
  simp only [List.flatMap_cons, List.flatMap_nil, List.append_nil]
  rw [Tm.expand_leaf (by rw [hp]; rfl)]
  rfl
theorem elements_one {lns : List Tm.Ln} {r : Int} {e : List Tm.El} (h : Tm.seqOf lns [r] = some e) : Tm.elements lns [r] = e := by
  rw [Tm.elements_step (by simp)]
  have hl : Tm.lead lns [r] = 1 := by
    unfold Tm.lead
    rw [if_neg (fun h => by simp at h), if_neg (fun h => by simp at h)]
  rw [hl]
  simp only [List.take_succ_cons, List.take_zero, List.drop_succ_cons, List.drop_zero, Tm.grow]
  rw [Tm.elements_nil, List.append_nil, Tm.weigh, h]
theorem keep_norm_a {lns : List Tm.Ln} (h : Tm.KeepTab lns) : normOf lns ⟨#[97]⟩ = [97] := norm_one runes_a h.pa
theorem keep_norm_b {lns : List Tm.Ln} (h : Tm.KeepTab lns) : normOf lns ⟨#[98]⟩ = [98] := norm_one runes_b h.pb
theorem keep_cmp_ab {lns : List Tm.Ln} (h : Tm.KeepTab lns) {st : Int} {sh : Bool} (hst : 1 ≤ st ∧ st ≤ 4) : cmpOf lns st sh ⟨#[97]⟩ ⟨#[98]⟩ = -1 := by
  unfold cmpOf stands levels
  rw [keep_norm_a h, keep_norm_b h, elements_one h.a, elements_one h.b]
  obtain ⟨t, ht⟩ : ∃ t : Nat, st.toNat = t + 1 := ⟨st.toNat - 1, by omega⟩
  rw [ht]
  simp only [List.map_cons, List.take_succ_cons, List.cons_append, Tm.cmpLL]
  have : Tm.cmpL (Tm.level sh [⟨16, 32, 2, false⟩] 0) (Tm.level sh [⟨17, 32, 2, false⟩] 0) = -1 := by cases sh <;> decide
  rw [this]
  rfl
theorem cmpOf_self (lns : List Tm.Ln) (st : Int) (sh : Bool) (a : ByteArray) : cmpOf lns st sh a a = 0 := Tm.cmpLL_self _
theorem cmpOf_neg (lns : List Tm.Ln) (st : Int) (sh : Bool) (a b : ByteArray) : cmpOf lns st sh b a = - cmpOf lns st sh a b := Tm.cmpLL_neg _ _
theorem cmpOf_range (lns : List Tm.Ln) (st : Int) (sh : Bool) (a b : ByteArray) : cmpOf lns st sh a b = -1 ∨ cmpOf lns st sh a b = 0 ∨ cmpOf lns st sh a b = 1 := Tm.cmpLL_range _ _
theorem cmpOf_zero {lns : List Tm.Ln} {st : Int} {sh : Bool} {a b : ByteArray} : cmpOf lns st sh a b = 0 ↔ normOf lns a = normOf lns b :=
  ⟨fun h => stands_eq.1 (Tm.cmpLL_zero h), fun h => by unfold cmpOf; rw [h]; exact Tm.cmpLL_self _⟩
theorem cmpOf_trans {lns : List Tm.Ln} {st : Int} {sh : Bool} {a b c : ByteArray} (h : cmpOf lns st sh a b ≤ 0) (k : cmpOf lns st sh b c ≤ 0) : cmpOf lns st sh a c ≤ 0 := Tm.cmpLL_trans h k
theorem cmpOf_trans' {lns : List Tm.Ln} {st : Int} {sh : Bool} {a b c : ByteArray} (h : 0 ≤ cmpOf lns st sh a b) (k : 0 ≤ cmpOf lns st sh b c) : 0 ≤ cmpOf lns st sh a c := by
  have h1 := cmpOf_neg lns st sh a b
  have h2 := cmpOf_neg lns st sh b c
  have h3 := cmpOf_neg lns st sh a c
  have := cmpOf_trans (lns := lns) (st := st) (sh := sh) (a := c) (b := b) (c := a) (by omega) (by omega)
  omega
theorem key_cmp {lns : List Tm.Ln} (hf : ∀ o ∈ lns, Tm.Fit o) {st : Int} {sh : Bool} (hst : 1 ≤ st ∧ st ≤ 4) (a b : ByteArray) : Tm.cmpB (keyBytes lns st sh a) (keyBytes lns st sh b) = cmpOf lns st sh a b :=
  key_order hf hst (norm_range hf a) (norm_range hf b)

set_option maxRecDepth 100000 in
set_option maxHeartbeats 4000000 in
theorem works_any (lns : List Tm.Ln) (bc bm : Nat) (st : Int) (sh : Bool) (w : World) (hc : Coll w bc bm st sh lns) (hok : TableOk st lns) (hk : Tm.KeepTab lns) :
    Calls Tryz.prog 56 #[.pointer (some ⟨bc, 0, none⟩)] w fun e w' => e = .returned (.bool true) ∧ Below w.heap.size w w' := by
  have HC := hide hc
  have HOK := hide hok
  have HK := hide hk
  have HF := hide hc.fit
  clear hc hok hk
  go_enter Tryz.func56, Tryz.ntmps56
  go_wp2_with fail
  refine (Normal_any lns HF.out HOK.out.ends bc bm ⟨#[97]⟩ _ HC.out.c0 HC.out.rd).mono ?_
  rintro e w1 hans
  rw [normAns, if_pos (by decide), keep_norm_a HK.out] at hans
  obtain ⟨v1, rfl, hown1, hb1⟩ := hans
  obtain ⟨g1, o1, c1, rfl, hg1, hc1⟩ := (Reads.of_owns hown1).form (by simp [ints])
  have hx := hc1 0 (.int .i64 97) rfl
  rw [Nat.add_zero] at hx
  have HB1 := hide hb1
  have hz1 := hb1.size
  have HC1 := hide (HC.out.below hb1)
  clear hown1 hb1 hc1
  simp only [List.length_cons, List.length_nil, Nat.zero_add]
  go_wp2_with fail
  refine (CodeCompare_any lns bc bm st sh ⟨#[97]⟩ ⟨#[98]⟩ _ HC1.out HOK.out).mono ?_
  rw [if_pos (by decide), keep_cmp_ab HK.out HOK.out.st]
  rintro e w2 ⟨rfl, hb2⟩
  have hx2 : w2.cell? ⟨g1, o1, none⟩ = some (.int .i64 97) := by rw [hb2.cell (p := ⟨g1, o1, none⟩) hg1]; exact hx
  have hz2 := hb2.size
  have HB2 := hide (HB1.out.trans (hb2.mono hz1))
  have HC2 := hide (HC1.out.below hb2)
  clear hb2 hx
  go_wp2_with fail
  refine (CodeCompare_any lns bc bm st sh ⟨#[97]⟩ ⟨#[97]⟩ _ HC2.out HOK.out).mono ?_
  rw [if_pos (by decide), cmpOf_self]
  rintro e w3 ⟨rfl, hb3⟩
  have hx3 : w3.cell? ⟨g1, o1, none⟩ = some (.int .i64 97) := by rw [hb3.cell (p := ⟨g1, o1, none⟩) (by simp only; omega)]; exact hx2
  have hz3 := hb3.size
  have HB3 := hide (HB2.out.trans (hb3.mono (by omega)))
  have HC3 := hide (HC2.out.below hb3)
  clear hb3 hx2
  go_wp2_with fail
  refine (CodeKey_any lns bc bm st sh ⟨#[97]⟩ _ HC3.out HOK.out).mono ?_
  rw [if_pos (by decide)]
  rintro e w4 ⟨rfl, hb4⟩
  have hx4 : w4.cell? ⟨g1, o1, none⟩ = some (.int .i64 97) := by rw [hb4.cell (p := ⟨g1, o1, none⟩) (by simp only; omega)]; exact hx3
  have hz4 := hb4.size
  have HB4 := hide (HB3.out.trans (hb4.mono (by omega)))
  have HC4 := hide (HC3.out.below hb4)
  clear hb4 hx3
  go_wp2_with fail
  refine (CodeKey_any lns bc bm st sh ⟨#[98]⟩ _ HC4.out HOK.out).mono ?_
  rw [if_pos (by decide)]
  rintro e w5 ⟨rfl, hb5⟩
  have hx5 : w5.cell? ⟨g1, o1, none⟩ = some (.int .i64 97) := by rw [hb5.cell (p := ⟨g1, o1, none⟩) (by simp only; omega)]; exact hx4
  have hz5 := hb5.size
  have HB5 := hide (HB4.out.trans (hb5.mono (by omega)))
  have HC5 := hide (HC4.out.below hb5)
  clear hb5 hx4
  go_wp2_with fail
  refine (CodeElements_any lns bc bm st sh ⟨#[97]⟩ _ HC5.out HOK.out).mono ?_
  rintro e w6 hans
  rw [partsOfAns, if_pos (by decide), keep_norm_a HK.out, elements_one HK.out.a] at hans
  obtain ⟨v6, rfl, hown6, hb6⟩ := hans
  obtain ⟨g6, o6, c6, rfl, hg6, hc6⟩ := (Reads.of_owns hown6).form (by simp [elsCells, elCells])
  have hy := hc6 0 (.int .i64 16) rfl
  rw [Nat.add_zero] at hy
  have hx6 : w6.cell? ⟨g1, o1, none⟩ = some (.int .i64 97) := by rw [hb6.cell (p := ⟨g1, o1, none⟩) (by simp only; omega)]; exact hx5
  have HB6 := hide (HB5.out.trans (hb6.mono (by omega)))
  simp only [List.length_cons, List.length_nil, Nat.zero_add]
  have hlt : Op.bytesLess (ByteArray.mk (keyBytes lns st sh ⟨#[97]⟩).toArray).toList (ByteArray.mk (keyBytes lns st sh ⟨#[98]⟩).toArray).toList = true := by
    rw [bytesLess_eq, Go.ByteArray.toList_eq, Go.ByteArray.toList_eq]
    have h := (key_cmp HF.out (sh := sh) HOK.out.st ⟨#[97]⟩ ⟨#[98]⟩).trans (keep_cmp_ab HK.out HOK.out.st)
    unfold Tm.cmpB at h
    split at h
    · rename_i h1; simpa using h1
    · split at h <;> simp at h
  generalize (keyBytes lns st sh ⟨#[97]⟩).toArray = ka at *
  generalize (keyBytes lns st sh ⟨#[98]⟩).toArray = kb at *
  clear hown6 hb6 hc6 hx5
  go_wp2
  go_ret
  exact ⟨rfl, HB6.out⟩
end Go.Proofs.YtmnjjjhmnhfapaaGreatDoor
namespace Go.Proofs.YtmnjjjhmnhfapaaGreatDoor
open Go.RowKit

/-- Nothing that was there has turned, but for blocks of S. -/
structure Foot (S : Nat → Prop) (w w' : World) : Prop where
  os : w'.os = w.os
  tape : w'.tape = w.tape
  output : w'.output = w.output
  size : w.heap.size ≤ w'.heap.size
  block : ∀ k, k < w.heap.size → ¬ S k → w'.heap[k]? = w.heap[k]?
theorem Foot.refl (S : Nat → Prop) (w : World) : Foot S w w := ⟨rfl, rfl, rfl, Nat.le_refl _, fun _ _ _ => rfl⟩
theorem Foot.of {S : Nat → Prop} {w w' : World} (h : Below w.heap.size w w') : Foot S w w' := ⟨h.os, h.tape, h.output, h.size, fun k hk _ => h.block k hk⟩
/-- Blocks that were not there at first may be of the second's. -/
theorem Foot.trans {S T : Nat → Prop} {u v w : World} (h : Foot S u v) (k : Foot T v w) (hT : ∀ i, T i → S i ∨ u.heap.size ≤ i) : Foot S u w :=
  ⟨k.os.trans h.os, k.tape.trans h.tape, k.output.trans h.output, Nat.le_trans h.size k.size, fun i hi hb => (k.block i (Nat.lt_of_lt_of_le hi h.size) (fun ht => by rcases hT i ht with h1 | h1; exact hb h1; omega)).trans (h.block i hi hb)⟩
theorem Foot.then {S : Nat → Prop} {u v w : World} (h : Foot S u v) (k : Below u.heap.size v w) : Foot S u w :=
  ⟨k.os.trans h.os, k.tape.trans h.tape, k.output.trans h.output, Nat.le_trans h.size k.size, fun i hi hb => (k.block i hi).trans (h.block i hi hb)⟩
theorem Foot.mono {S T : Nat → Prop} {u w : World} (h : Foot S u w) (hS : ∀ i, S i → T i) : Foot T u w := ⟨h.os, h.tape, h.output, h.size, fun k hk hn => h.block k hk (fun e => hn (hS k e))⟩
theorem Foot.below {S : Nat → Prop} {X : Nat} {u w : World} (h : Foot S u w) (hS : ∀ i, S i → X ≤ i) (hX : X ≤ u.heap.size) : Below X u w := ⟨h.os, h.tape, h.output, h.size, fun k hk => h.block k (by omega) (fun e => by have := hS k e; omega)⟩
theorem Foot.cell {S : Nat → Prop} {u w : World} (h : Foot S u w) {p : Addr} (hp : p.block < u.heap.size) (hn : ¬ S p.block) : w.cell? p = u.cell? p := World.cell?_of_block (h.block _ hp hn)
theorem Foot.frozen {S : Nat → Prop} {u w : World} (h : Foot S u w) {p : Addr} (hp : p.block < u.heap.size) (hn : ¬ S p.block) : w.frozen? p = u.frozen? p := World.frozen?_of_block (h.block _ hp hn)
theorem Foot.setCell {S : Nat → Prop} {u w : World} (h : Foot S u w) {p : Addr} (hp : S p.block ∨ u.heap.size ≤ p.block) (v : Value) : Foot S u (w.setCell p v) :=
  ⟨h.os, h.tape, h.output, by simpa [World.setCell] using h.size, fun k hk hn => by
    rw [Below.heap_setCell _ _ _ _ (by rintro rfl; rcases hp with e | e; exact hn e; omega)]
    exact h.block k hk hn⟩
theorem Foot.drew {S : Nat → Prop} {u w : World} (h : Foot S u w) : Foot S u w.drew := ⟨h.os, h.tape, h.output, h.size, h.block⟩
theorem Foot.drewN {S : Nat → Prop} {u w : World} (h : Foot S u w) (m : Nat) : Foot S u (w.drewN m) := ⟨h.os, h.tape, h.output, h.size, h.block⟩
theorem Foot.alloc {S : Nat → Prop} {u w : World} (h : Foot S u w) (o : Obj) : Foot S u (w.alloc o) := h.then ((Below.refl _ _).alloc h.size o)
theorem Foot.grown {S : Nat → Prop} {u w w' : World} {row : Option Nat} (h : Foot S u w) (hg : w.grownBy w' row) (hr : ∀ k, row = some k → S k ∨ u.heap.size ≤ k) : Foot S u w' :=
  ⟨hg.os.trans h.os, hg.tape.trans h.tape, hg.output.trans h.output, Nat.le_trans h.size hg.size, fun k hk hn => (hg.block k (Nat.lt_of_lt_of_le hk h.size) (fun e => by rcases hr k e.symm with e | e; exact hn e; omega)).trans (h.block k hk hn)⟩
theorem Foot.reads {S : Nat → Prop} {u w : World} (h : Foot S u w) {v : Value} {size n : Nat} {xs : List Value} (hr : Reads u v size n xs) (hn : ∀ g, v.ownBlock = some g → ¬ S g) : Reads w v size n xs :=
  hr.of_blocks h.size (fun g hg => h.block g (hr.2.1 g hg) (hn g hg))
theorem Foot.owns {S : Nat → Prop} {u w : World} (h : Foot S u w) {base : Nat} {e : TypeId} {size : Nat} {v : Value} {n : Nat} {xs : List Value} (hr : u.ownsRow base e size v n xs) (hn : ∀ g, v.ownBlock = some g → ¬ S g) : w.ownsRow base e size v n xs :=
  ownsRow_same hr (fun g hg => h.block g (hr.lt g hg).2 (hn g hg))
theorem owns_setAt {w : World} {base : Nat} {e : TypeId} {size g n cap : Nat} {xs : List Value} (h : w.ownsRow base e size (.slice (some ⟨g, 0, none⟩) n cap) n xs) (k : Nat) (u : Value) : (w.setCell ⟨g, k, none⟩ u).ownsRow base e size (.slice (some ⟨g, 0, none⟩) n cap) n (xs.set k u) := by
  refine ⟨by rw [List.length_set]; exact h.1, ?_⟩
  rcases h.2 with ⟨he, _⟩ | ⟨g', cap', cur, he, hb, hg, h1, h2, h3, h4⟩
  · cases he
  · cases he
    refine .inr ⟨g, cap, cur.setIfInBounds k u, rfl, hb, ?_, h1, h2, by simpa using h3, ?_⟩
    · simp only [World.setCell, Array.getElem?_modify, hg]; rfl
    · rw [Array.toList_setIfInBounds, ← h4, List.take_set]
end Go.Proofs.YtmnjjjhmnhfapaaGreatDoor
namespace Go.Proofs.YtmnjjjhmnhfapaaGreatDoor

namespace Tm
/-- An order told by a number below, at or above 0. -/
structure Told {α : Type} (c : α → α → Int) : Prop where
  neg : ∀ a b, c b a = - c a b
  trans : ∀ {a b d}, c a b ≤ 0 → c b d ≤ 0 → c a d ≤ 0
theorem Told.lt {α : Type} {c : α → α → Int} (h : Told c) {a b d : α} (h1 : c a b < 0) (h2 : c b d < 0) : c a d < 0 := by
  have h3 := h.trans (a := a) (b := b) (d := d) (by omega) (by omega)
  rcases (show c a d < 0 ∨ c a d = 0 by omega) with h4 | h4
  · exact h4
  · have h5 := h.neg a d
    have h6 := h.trans (a := d) (b := a) (d := b) (by omega) (by omega)
    have h7 := h.neg b d
    omega
/-- A list that rises. -/
def Rises {α : Type} (c : α → α → Int) (l : List α) : Prop := l.Pairwise (fun a b => c a b < 0)
/-- One more, ahead of the first that stands behind it. -/
def putIn {α : Type} (c : α → α → Int) (e : α) : List α → List α
  | [] => [e]
  | x :: r => if c e x < 0 then e :: x :: r else x :: putIn c e r
theorem putIn_mem {α : Type} {c : α → α → Int} {e y : α} : ∀ {l : List α}, y ∈ putIn c e l ↔ y = e ∨ y ∈ l
  | [] => by simp [putIn]
  | x :: r => by
    unfold putIn
    split
    · simp
    · simp only [List.mem_cons, putIn_mem (l := r)]
      constructor
      · rintro (h | h | h)
        · exact .inr (.inl h)
        · exact .inl h
        · exact .inr (.inr h)
      · rintro (h | h | h)
        · exact .inr (.inl h)
        · exact .inl h
        · exact .inr (.inr h)
theorem putIn_length {α : Type} {c : α → α → Int} {e : α} : ∀ {l : List α}, (putIn c e l).length = l.length + 1
  | [] => rfl
  | x :: r => by
    unfold putIn
    split
    · simp
    · simp [putIn_length (l := r)]
theorem putIn_rises {α : Type} {c : α → α → Int} (h : Told c) {e : α} : ∀ {l : List α}, Rises c l → (∀ x ∈ l, c e x ≠ 0) → Rises c (putIn c e l)
  | [], _, _ => by simp [putIn, Rises]
  | x :: r, hl, hne => by
    have hx := List.pairwise_cons.1 hl
    have hx0 := hne x (by simp)
    unfold putIn
    split
    · rename_i hlt
      refine List.pairwise_cons.2 ⟨fun y hy => ?_, hl⟩
      rcases List.mem_cons.1 hy with rfl | hy
      · exact hlt
      · exact h.lt hlt (hx.1 y hy)
    · rename_i hge
      refine List.pairwise_cons.2 ⟨fun y hy => ?_, putIn_rises h hx.2 (fun z hz => hne z (by simp [hz]))⟩
      rcases putIn_mem.1 hy with rfl | hy
      · have := h.neg y x
        omega
      · exact hx.1 y hy
/-- Of what is in it there is one rising list. -/
theorem Rises.one {α : Type} {c : α → α → Int} (h : Told c) : ∀ {l m : List α}, Rises c l → Rises c m → (∀ y, y ∈ l ↔ y ∈ m) → l = m
  | [], [], _, _, _ => rfl
  | [], y :: s, _, _, he => by have := (he y).2 (by simp); simp at this
  | x :: r, [], _, _, he => by have := (he x).1 (by simp); simp at this
  | x :: r, y :: s, hl, hm, he => by
    have hx := List.pairwise_cons.1 hl
    have hy := List.pairwise_cons.1 hm
    have hself : ∀ a, ¬ c a a < 0 := fun a => by have := h.neg a a; omega
    have hxy : x = y := by
      rcases List.mem_cons.1 ((he x).1 (by simp)) with h1 | h1
      · exact h1
      · rcases List.mem_cons.1 ((he y).2 (by simp)) with h2 | h2
        · exact h2.symm
        · have h3 := hx.1 y h2
          have h4 := hy.1 x h1
          exact absurd (h.lt h3 h4) (hself x)
    subst hxy
    congr 1
    refine Rises.one h hx.2 hy.2 (fun z => ⟨fun hz => ?_, fun hz => ?_⟩)
    · rcases List.mem_cons.1 ((he z).1 (by simp [hz])) with h1 | h1
      · subst h1; exact absurd (hx.1 z hz) (hself z)
      · exact h1
    · rcases List.mem_cons.1 ((he z).2 (by simp [hz])) with h1 | h1
      · subst h1; exact absurd (hy.1 z hz) (hself z)
      · exact h1
end Tm
end Go.Proofs.YtmnjjjhmnhfapaaGreatDoor
namespace Go.Proofs.YtmnjjjhmnhfapaaGreatDoor

namespace Tm
/-- The place of the newest of the first n forms that is f; -1: there is none. -/
def lastAt (fs : List (List Int)) (f : List Int) : Nat → Int
  | 0 => -1
  | n + 1 => if fs[n]? = some f then n else lastAt fs f n
theorem lastAt_range (fs : List (List Int)) (f : List Int) : ∀ n, lastAt fs f n = -1 ∨ ∃ i : Nat, i < n ∧ lastAt fs f n = i ∧ fs[i]? = some f
  | 0 => .inl rfl
  | n + 1 => by
    unfold lastAt
    split
    · rename_i h; exact .inr ⟨n, by omega, rfl, h⟩
    · rcases lastAt_range fs f n with h | ⟨i, h1, h2, h3⟩
      · exact .inl h
      · exact .inr ⟨i, by omega, h2, h3⟩
theorem lastAt_none {fs : List (List Int)} {f : List Int} : ∀ {n : Nat}, lastAt fs f n = -1 → ∀ i, i < n → fs[i]? ≠ some f
  | 0, _, i, hi => by omega
  | n + 1, h, i, hi => by
    unfold lastAt at h
    split at h
    · omega
    · rename_i hn
      by_cases e : i = n
      · subst e; exact hn
      · exact lastAt_none h i (by omega)
theorem lastAt_most {fs : List (List Int)} {f : List Int} : ∀ {n i : Nat}, i < n → fs[i]? = some f → (i : Int) ≤ lastAt fs f n
  | 0, i, hi, _ => by omega
  | n + 1, i, hi, hf => by
    unfold lastAt
    split
    · omega
    · rename_i hn
      exact lastAt_most (n := n) (by rcases (show i < n ∨ i = n by omega) with h | h; exact h; subst h; exact absurd hf hn) hf
/-- A new deed of a form. -/
theorem lastAt_new {fs : List (List Int)} {f g : List Int} : lastAt (fs ++ [g]) f (fs.length + 1) = if g = f then (fs.length : Int) else lastAt fs f fs.length := by
  have keep : ∀ n, n ≤ fs.length → lastAt (fs ++ [g]) f n = lastAt fs f n := by
    intro n
    induction n with
    | zero => intro _; rfl
    | succ n ih =>
      intro hn
      unfold lastAt
      rw [List.getElem?_append_left (by omega), ih (by omega)]
  rw [lastAt, List.getElem?_append_right (Nat.le_refl _)]
  simp only [Nat.sub_self, List.getElem?_cons_zero, Option.some.injEq]
  split
  · rfl
  · exact keep _ (Nat.le_refl _)
/-- Is a place shown behind the first n deeds? -/
def shownIs (fs : List (List Int)) (gone : List Bool) (n i : Nat) : Bool := decide (∃ f, fs[i]? = some f ∧ lastAt fs f n = i) && (gone[i]? == some false)
/-- The places that are shown. -/
def shownAt (fs : List (List Int)) (gone : List Bool) (n : Nat) : List Nat := (List.range n).filter (shownIs fs gone n)
theorem shownAt_step (fs : List (List Int)) (gone : List Bool) (n k : Nat) : ((List.range (k + 1)).filter (shownIs fs gone n)) = (List.range k).filter (shownIs fs gone n) ++ (if shownIs fs gone n k then [k] else []) := by
  rw [List.range_succ, List.filter_append]
  congr 1
  by_cases h : shownIs fs gone n k <;> simp [h]
/-- Two places that are shown have two forms. -/
theorem shownAt_apart {fs : List (List Int)} {gone : List Bool} {n i j : Nat} (hi : i ∈ shownAt fs gone n) (hj : j ∈ shownAt fs gone n) (h : fs[i]? = fs[j]?) : i = j := by
  have h1 := (List.mem_filter.1 hi).2
  have h2 := (List.mem_filter.1 hj).2
  simp only [shownIs, Bool.and_eq_true, decide_eq_true_eq] at h1 h2
  obtain ⟨⟨f, f1, f2⟩, _⟩ := h1
  obtain ⟨⟨g, g1, g2⟩, _⟩ := h2
  have e : f = g := by rw [f1, g1] at h; exact Option.some.inj h
  subst e
  omega
end Tm
end Go.Proofs.YtmnjjjhmnhfapaaGreatDoor
namespace Go.Proofs.YtmnjjjhmnhfapaaGreatDoor

namespace Tm
/-- What a Scan tells: those of a list that it takes, each put in its place. -/
def scanIn {α : Type} (c : α → α → Int) (p : α → Bool) (es : List α) : List α := es.foldl (fun out e => if p e then putIn c e out else out) []
theorem scanIn_snoc {α : Type} (c : α → α → Int) (p : α → Bool) (es : List α) (e : α) : scanIn c p (es ++ [e]) = if p e then putIn c e (scanIn c p es) else scanIn c p es := by simp [scanIn]
theorem rev_ind {α : Type} {P : List α → Prop} (h0 : P []) (hs : ∀ l x, P l → P (l ++ [x])) (l : List α) : P l := by
  rw [← List.reverse_reverse l]
  induction l.reverse with
  | nil => exact h0
  | cons a r ih => rw [List.reverse_cons]; exact hs _ _ ih
theorem scanIn_mem {α : Type} {c : α → α → Int} {p : α → Bool} {y : α} (es : List α) : y ∈ scanIn c p es ↔ y ∈ es ∧ p y = true := by
  refine rev_ind (P := fun es => y ∈ scanIn c p es ↔ y ∈ es ∧ p y = true) (by simp [scanIn]) (fun l x ih => ?_) es
  rw [scanIn_snoc]
  by_cases h : p x = true
  · rw [if_pos h, putIn_mem, ih]
    simp only [List.mem_append, List.mem_singleton]
    constructor
    · rintro (rfl | ⟨h1, h2⟩)
      · exact ⟨.inr rfl, h⟩
      · exact ⟨.inl h1, h2⟩
    · rintro ⟨h1 | rfl, h2⟩
      · exact .inr ⟨h1, h2⟩
      · exact .inl rfl
  · rw [if_neg h, ih]
    simp only [List.mem_append, List.mem_singleton]
    constructor
    · rintro ⟨h1, h2⟩; exact ⟨.inl h1, h2⟩
    · rintro ⟨h1 | rfl, h2⟩
      · exact ⟨h1, h2⟩
      · exact absurd h2 h
/-- It rises, where no two of the list stand at one place. -/
theorem scanIn_rises {α : Type} {c : α → α → Int} (h : Told c) {p : α → Bool} (es : List α) (hne : es.Pairwise (fun a b => c a b ≠ 0)) : Rises c (scanIn c p es) := by
  refine rev_ind (P := fun es => es.Pairwise (fun a b => c a b ≠ 0) → Rises c (scanIn c p es)) (fun _ => by simp [scanIn, Rises]) (fun l x ih hp => ?_) es hne
  obtain ⟨h1, _, h3⟩ := List.pairwise_append.1 hp
  rw [scanIn_snoc]
  split
  · refine putIn_rises h (ih h1) (fun y hy => ?_)
    have h4 := h3 y ((scanIn_mem l).1 hy).1 x (by simp)
    have h5 := h.neg y x
    omega
  · exact ih h1
/-- Any rising list of the same is it. -/
theorem scanIn_one {α : Type} {c : α → α → Int} (h : Told c) {p : α → Bool} {es l : List α} (hne : es.Pairwise (fun a b => c a b ≠ 0)) (hl : Rises c l) (hm : ∀ y, y ∈ l ↔ y ∈ es ∧ p y = true) : l = scanIn c p es :=
  Rises.one h hl (scanIn_rises h es hne) (fun y => (hm y).trans (scanIn_mem es).symm)
end Tm
end Go.Proofs.YtmnjjjhmnhfapaaGreatDoor
namespace Go.Proofs.YtmnjjjhmnhfapaaGreatDoor

namespace Tm
/-- Keys with their values. -/
abbrev Ents := List (ByteArray × ByteArray)
/-- They stand in the order of their keys. -/
def ByKey (c : ByteArray → ByteArray → Int) (a b : ByteArray × ByteArray) : Int := c a.1 b.1
theorem Told.byKey {c : ByteArray → ByteArray → Int} (h : Told c) : Told (ByKey c) := ⟨fun a b => h.neg a.1 b.1, fun {a b d} => h.trans (a := a.1) (b := b.1) (d := d.1)⟩
theorem Told.le_lt {α : Type} {c : α → α → Int} (h : Told c) {a b d : α} (h1 : c a b ≤ 0) (h2 : c b d < 0) : c a d < 0 := by
  have h3 := h.trans h1 (Int.le_of_lt h2)
  rcases (show c a d < 0 ∨ c a d = 0 by omega) with h4 | h4
  · exact h4
  · have h5 := h.neg a d
    have h6 := h.trans (a := d) (b := a) (d := b) (by omega) h1
    have h7 := h.neg b d
    omega
theorem Told.lt_le {α : Type} {c : α → α → Int} (h : Told c) {a b d : α} (h1 : c a b < 0) (h2 : c b d ≤ 0) : c a d < 0 := by
  have h3 := h.trans (Int.le_of_lt h1) h2
  rcases (show c a d < 0 ∨ c a d = 0 by omega) with h4 | h4
  · exact h4
  · have h5 := h.neg a d
    have h6 := h.trans (a := b) (b := d) (d := a) h2 (by omega)
    have h7 := h.neg a b
    omega

/-- How many keys stand below a text. -/
def below (c : ByteArray → ByteArray → Int) (l : Ents) (k : ByteArray) : Nat := (l.filter (fun e => decide (c e.1 k < 0))).length
/-- Is a key there? -/
def ixHas (c : ByteArray → ByteArray → Int) (l : Ents) (k : ByteArray) : Bool := l.any (fun e => decide (c e.1 k = 0))
/-- A key is put. -/
def ixPut (c : ByteArray → ByteArray → Int) (l : Ents) (k v : ByteArray) : Ents := l.filter (fun e => decide (c e.1 k < 0)) ++ (k, v) :: l.filter (fun e => decide (0 < c e.1 k))
/-- A key is taken away. -/
def ixDrop (c : ByteArray → ByteArray → Int) (l : Ents) (k : ByteArray) : Ents := l.filter (fun e => decide (c e.1 k ≠ 0))
/-- The value of a key. -/
def ixGet (c : ByteArray → ByteArray → Int) (l : Ents) (k : ByteArray) : Option ByteArray := (l.find? (fun e => decide (c e.1 k = 0))).map (·.2)
/-- Is a key between two bounds? -/
def within (c : ByteArray → ByteArray → Int) (lo hi : ByteArray) (e : ByteArray × ByteArray) : Bool := decide (0 ≤ c e.1 lo) && (decide (hi.size = 0) || decide (c e.1 hi < 0))
/-- What stands between two bounds. -/
def ixScan (c : ByteArray → ByteArray → Int) (l : Ents) (lo hi : ByteArray) : Ents := l.filter (within c lo hi)

theorem below_le (c : ByteArray → ByteArray → Int) (l : Ents) (k : ByteArray) : below c l k ≤ l.length := List.length_filter_le _ _
theorem rises_above {c : ByteArray → ByteArray → Int} (h : Told c) {x : ByteArray × ByteArray} {r : Ents} (hl : Rises (ByKey c) (x :: r)) {k : ByteArray} (hx : 0 ≤ c x.1 k) : ∀ y ∈ r, 0 < c y.1 k := by
  intro y hy
  have h1 : c x.1 y.1 < 0 := (List.pairwise_cons.1 hl).1 y hy
  have h2 := h.neg x.1 k
  have h3 := h.le_lt (a := k) (b := x.1) (d := y.1) (by omega) h1
  have h4 := h.neg k y.1
  omega
theorem below_split {c : ByteArray → ByteArray → Int} (h : Told c) {k : ByteArray} : ∀ {l : Ents}, Rises (ByKey c) l → l.filter (fun e => decide (c e.1 k < 0)) = l.take (below c l k) ∧ l.filter (fun e => decide (0 ≤ c e.1 k)) = l.drop (below c l k)
  | [], _ => by simp
  | x :: r, hl => by
    have ih := below_split h (k := k) (List.pairwise_cons.1 hl).2
    by_cases hx : c x.1 k < 0
    · have hb : below c (x :: r) k = below c r k + 1 := by simp [below, hx]
      rw [hb, List.filter_cons_of_pos (by simp [hx]), List.filter_cons_of_neg (by simp; omega)]
      exact ⟨by rw [List.take_succ_cons, ih.1], by rw [List.drop_succ_cons, ih.2]⟩
    · have ha := rises_above h hl (k := k) (by omega)
      have hn : (x :: r).filter (fun e => decide (c e.1 k < 0)) = [] := by
        rw [List.filter_eq_nil_iff]
        intro y hy
        rcases List.mem_cons.1 hy with rfl | hy
        · simpa using hx
        · have := ha y hy; simp; omega
      have hb : below c (x :: r) k = 0 := by unfold below; rw [hn]; rfl
      rw [hb, hn]
      refine ⟨rfl, ?_⟩
      rw [List.drop_zero, List.filter_eq_self]
      intro y hy
      rcases List.mem_cons.1 hy with rfl | hy
      · simp; omega
      · have := ha y hy; simp; omega
theorem below_at {c : ByteArray → ByteArray → Int} (h : Told c) {k : ByteArray} {l : Ents} (hl : Rises (ByKey c) l) {i : Nat} (hi : i < l.length) : c (l[i]).1 k < 0 ↔ i < below c l k := by
  have hs := below_split h (k := k) hl
  constructor
  · intro hc
    refine Nat.lt_of_not_le (fun hle => ?_)
    have hm : l[i] ∈ l.drop (below c l k) := by
      rw [List.mem_iff_getElem?]
      exact ⟨i - below c l k, by rw [List.getElem?_drop, show below c l k + (i - below c l k) = i by omega]; simp [hi]⟩
    rw [← hs.2] at hm
    have := (List.mem_filter.1 hm).2
    simp at this
    omega
  · intro hlt
    have hm : l[i] ∈ l.take (below c l k) := by
      rw [List.mem_iff_getElem?]
      exact ⟨i, by rw [List.getElem?_take, if_pos hlt]; simp [hi]⟩
    rw [← hs.1] at hm
    simpa using (List.mem_filter.1 hm).2
/-- A key that is there stands behind those below it. -/
theorem ixHas_at {c : ByteArray → ByteArray → Int} (h : Told c) {k : ByteArray} {l : Ents} (hl : Rises (ByKey c) l) : ixHas c l k = true ↔ ∃ hi : below c l k < l.length, c (l[below c l k]).1 k = 0 := by
  constructor
  · intro hh
    obtain ⟨e, he, h0⟩ := List.any_eq_true.1 hh
    obtain ⟨i, hi, rfl⟩ := List.mem_iff_getElem.1 he
    have h0' : c (l[i]).1 k = 0 := by simpa using h0
    have h1 : ¬ i < below c l k := fun hlt => by have := (below_at h hl hi).2 hlt; omega
    have h2 : ¬ below c l k < i := fun hlt => by
      have hb : below c l k < l.length := by omega
      have h3 : ¬ c (l[below c l k]).1 k < 0 := fun hc => by have := (below_at h hl hb).1 hc; omega
      have h4 : c (l[below c l k]).1 (l[i]).1 < 0 := List.pairwise_iff_getElem.1 hl _ _ hb hi hlt
      have h5 := h.lt_le h4 (by omega : c (l[i]).1 k ≤ 0)
      omega
    have e : i = below c l k := by omega
    subst e
    exact ⟨hi, h0'⟩
  · rintro ⟨hi, h0⟩
    exact List.any_eq_true.2 ⟨l[below c l k], List.getElem_mem hi, by simpa using h0⟩
theorem above_drop {c : ByteArray → ByteArray → Int} (h : Told c) {k : ByteArray} {l : Ents} (hl : Rises (ByKey c) l) : l.filter (fun e => decide (0 < c e.1 k)) = if ixHas c l k then l.drop (below c l k + 1) else l.drop (below c l k) := by
  have hs := (below_split h (k := k) hl).2
  have h1 : l.filter (fun e => decide (0 < c e.1 k)) = (l.filter (fun e => decide (0 ≤ c e.1 k))).filter (fun e => decide (0 < c e.1 k)) := by
    rw [List.filter_filter]
    refine List.filter_congr (fun e _ => ?_)
    by_cases hc : 0 < c e.1 k
    · have : 0 ≤ c e.1 k := by omega
      simp [hc, this]
    · simp [hc]
  rw [h1, hs]
  have hr : Rises (ByKey c) (l.drop (below c l k)) := List.Pairwise.drop hl
  by_cases hh : ixHas c l k = true
  · rw [if_pos hh]
    obtain ⟨hi, h0⟩ := (ixHas_at h hl).1 hh
    rw [List.drop_eq_getElem_cons hi] at hr ⊢
    rw [List.filter_cons_of_neg (by simp; omega), List.filter_eq_self]
    intro y hy
    have := rises_above h hr (k := k) (by omega) y hy
    simpa using this
  · rw [if_neg hh, List.filter_eq_self]
    intro y hy
    have h2 : 0 ≤ c y.1 k := by
      rw [← hs] at hy
      simpa using (List.mem_filter.1 hy).2
    have h3 : c y.1 k ≠ 0 := fun e => hh (List.any_eq_true.2 ⟨y, List.mem_of_mem_drop hy, by simpa using e⟩)
    simp; omega
theorem ixPut_there {c : ByteArray → ByteArray → Int} (h : Told c) {k v : ByteArray} {l : Ents} (hl : Rises (ByKey c) l) (hh : ixHas c l k = true) : ixPut c l k v = l.set (below c l k) (k, v) := by
  obtain ⟨hi, _⟩ := (ixHas_at h hl).1 hh
  unfold ixPut
  rw [above_drop h hl, if_pos hh, (below_split h hl).1, List.set_eq_take_append_cons_drop, if_pos hi]
theorem ixPut_new {c : ByteArray → ByteArray → Int} (h : Told c) {k v : ByteArray} {l : Ents} (hl : Rises (ByKey c) l) (hh : ixHas c l k = false) : ixPut c l k v = l.take (below c l k) ++ (k, v) :: l.drop (below c l k) := by
  unfold ixPut
  rw [above_drop h hl, if_neg (by simp [hh]), (below_split h hl).1]
theorem ixDrop_there {c : ByteArray → ByteArray → Int} (h : Told c) {k : ByteArray} {l : Ents} (hl : Rises (ByKey c) l) (hh : ixHas c l k = true) : ixDrop c l k = l.eraseIdx (below c l k) := by
  have e : ixDrop c l k = l.filter (fun e => decide (c e.1 k < 0)) ++ l.filter (fun e => decide (0 < c e.1 k)) := by
    have hs := below_split h (k := k) hl
    have h1 : l.filter (fun e => decide (c e.1 k < 0)) ++ l.filter (fun e => decide (0 ≤ c e.1 k)) = l := by rw [hs.1, hs.2, List.take_append_drop]
    unfold ixDrop
    conv => lhs; rw [← h1]
    rw [List.filter_append, List.filter_filter, List.filter_filter]
    congr 1
    · refine List.filter_congr (fun e _ => ?_)
      by_cases hc : c e.1 k < 0
      · have : c e.1 k ≠ 0 := by omega
        simp [hc, this]
      · simp [hc]
    · refine List.filter_congr (fun e _ => ?_)
      by_cases hc : 0 < c e.1 k
      · have h2 : c e.1 k ≠ 0 := by omega
        have h3 : 0 ≤ c e.1 k := by omega
        simp [hc, h2, h3]
      · by_cases h4 : c e.1 k = 0
        · simp [h4]
        · have h5 : ¬ 0 ≤ c e.1 k := by omega
          simp [hc, h5]
  rw [e, above_drop h hl, if_pos hh, (below_split h hl).1, List.eraseIdx_eq_take_drop_succ]
theorem ixDrop_gone {c : ByteArray → ByteArray → Int} {k : ByteArray} {l : Ents} (hh : ixHas c l k = false) : ixDrop c l k = l := by
  unfold ixDrop
  rw [List.filter_eq_self]
  intro y hy
  have : ¬ c y.1 k = 0 := fun e => by
    have : ixHas c l k = true := List.any_eq_true.2 ⟨y, hy, by simpa using e⟩
    rw [this] at hh
    cases hh
  simpa using this
theorem ixPut_rises {c : ByteArray → ByteArray → Int} (h : Told c) {k v : ByteArray} {l : Ents} (hl : Rises (ByKey c) l) : Rises (ByKey c) (ixPut c l k v) := by
  unfold ixPut
  refine List.pairwise_append.2 ⟨List.Pairwise.filter _ hl, List.pairwise_cons.2 ⟨fun y hy => ?_, List.Pairwise.filter _ hl⟩, fun a ha b hb => ?_⟩
  · have h1 : 0 < c y.1 k := by simpa using (List.mem_filter.1 hy).2
    have h2 := h.neg y.1 k
    show c k y.1 < 0
    omega
  · have h1 : c a.1 k < 0 := by simpa using (List.mem_filter.1 ha).2
    rcases List.mem_cons.1 hb with rfl | hb
    · exact h1
    · have h2 : 0 < c b.1 k := by simpa using (List.mem_filter.1 hb).2
      have h3 := h.neg b.1 k
      exact h.lt h1 (by omega)
theorem ixDrop_rises {c : ByteArray → ByteArray → Int} {k : ByteArray} {l : Ents} (hl : Rises (ByKey c) l) : Rises (ByKey c) (ixDrop c l k) := List.Pairwise.filter _ hl
theorem ixScan_rises {c : ByteArray → ByteArray → Int} {lo hi : ByteArray} {l : Ents} (hl : Rises (ByKey c) l) : Rises (ByKey c) (ixScan c l lo hi) := List.Pairwise.filter _ hl
theorem ixPut_mem {c : ByteArray → ByteArray → Int} {k v : ByteArray} {l : Ents} {e : ByteArray × ByteArray} : e ∈ ixPut c l k v ↔ e = (k, v) ∨ (e ∈ l ∧ c e.1 k ≠ 0) := by
  unfold ixPut
  simp only [List.mem_append, List.mem_cons, List.mem_filter, decide_eq_true_eq]
  constructor
  · rintro (⟨h1, h2⟩ | h | ⟨h1, h2⟩)
    · exact .inr ⟨h1, by omega⟩
    · exact .inl h
    · exact .inr ⟨h1, by omega⟩
  · rintro (h | ⟨h1, h2⟩)
    · exact .inr (.inl h)
    · rcases (show c e.1 k < 0 ∨ 0 < c e.1 k by omega) with h3 | h3
      · exact .inl ⟨h1, h3⟩
      · exact .inr (.inr ⟨h1, h3⟩)
theorem ixDrop_mem {c : ByteArray → ByteArray → Int} {k : ByteArray} {l : Ents} {e : ByteArray × ByteArray} : e ∈ ixDrop c l k ↔ e ∈ l ∧ c e.1 k ≠ 0 := by
  unfold ixDrop
  simp only [List.mem_filter, decide_eq_true_eq]
/-- What a Scan tells by the places of its bounds. -/
theorem ixScan_cut {c : ByteArray → ByteArray → Int} (h : Told c) {lo hi : ByteArray} {l : Ents} (hl : Rises (ByKey c) l) : ixScan c l lo hi = if hi.size = 0 then l.drop (below c l lo) else (l.drop (below c l lo)).take (below c (l.drop (below c l lo)) hi) := by
  have hs := (below_split h (k := lo) hl).2
  have hr : Rises (ByKey c) (l.drop (below c l lo)) := List.Pairwise.drop hl
  have hs2 := (below_split h (k := hi) hr).1
  by_cases h0 : hi.size = 0
  · rw [if_pos h0, ← hs]
    refine List.filter_congr (fun e _ => ?_)
    simp [within, h0]
  · rw [if_neg h0, ← hs2]
    conv => rhs; rw [← hs]
    rw [List.filter_filter]
    refine List.filter_congr (fun e _ => ?_)
    simp [within, h0, Bool.and_comm]
theorem ixGet_at {c : ByteArray → ByteArray → Int} (h : Told c) {k : ByteArray} {l : Ents} (hl : Rises (ByKey c) l) : ixGet c l k = if ixHas c l k then (l[below c l k]?).map (·.2) else none := by
  by_cases hh : ixHas c l k = true
  · rw [if_pos hh]
    obtain ⟨hi, h0⟩ := (ixHas_at h hl).1 hh
    unfold ixGet
    congr 1
    rw [List.find?_eq_some_iff_getElem.2 ⟨by simpa using h0, below c l k, hi, rfl, fun j hj => by have := (below_at h hl (by omega : j < l.length)).2 hj; simp; omega⟩]
    simp [hi]
  · rw [if_neg hh]
    unfold ixGet
    rw [List.find?_eq_none.2 (fun y hy => fun e => hh (List.any_eq_true.2 ⟨y, hy, e⟩))]
    rfl
end Tm
end Go.Proofs.YtmnjjjhmnhfapaaGreatDoor
namespace Go.Proofs.YtmnjjjhmnhfapaaGreatDoor

namespace Tm
/-- What was said of a key last: its text, its value, whether it is there. -/
abbrev Fact := ByteArray × ByteArray × Bool
theorem Told.zero {α : Type} {c : α → α → Int} (h : Told c) {a b d : α} (h1 : c a b = 0) (h2 : c b d = 0) : c a d = 0 := by
  have h3 := h.trans (a := a) (b := b) (d := d) (by omega) (by omega)
  have h4 := h.neg a b
  have h5 := h.neg b d
  have h6 := h.trans (a := d) (b := b) (d := a) (by omega) (by omega)
  have h7 := h.neg a d
  omega
theorem Told.self {α : Type} {c : α → α → Int} (h : Told c) (a : α) : c a a = 0 := by have := h.neg a a; omega
/-- The facts are those of what is there. -/
structure FactsOk (c : ByteArray → ByteArray → Int) (fs : List Fact) (es : Ents) : Prop where
  apart : fs.Pairwise (fun a b => c a.1 b.1 ≠ 0)
  same : ∀ k v, (k, v) ∈ es ↔ (k, v, true) ∈ fs
  short : ∀ f ∈ fs, f.1.size ≤ 64
theorem FactsOk.nil (c : ByteArray → ByteArray → Int) : FactsOk c [] [] := ⟨.nil, fun _ _ => by simp, fun f hf => by simp at hf⟩
/-- The place of what was said of a key. -/
def findF (c : ByteArray → ByteArray → Int) (fs : List Fact) (k : ByteArray) : Option Nat := fs.findIdx? (fun f => decide (c f.1 k = 0))
theorem findF_some {c : ByteArray → ByteArray → Int} {fs : List Fact} {k : ByteArray} {i : Nat} (h : findF c fs k = some i) : ∃ hi : i < fs.length, c (fs[i]).1 k = 0 := by
  obtain ⟨hi, hp, _⟩ := List.findIdx?_eq_some_iff_getElem.1 h
  exact ⟨hi, by simpa using hp⟩
theorem findF_none {c : ByteArray → ByteArray → Int} {fs : List Fact} {k : ByteArray} (h : findF c fs k = none) : ∀ f ∈ fs, c f.1 k ≠ 0 := by
  intro f hf
  have := List.findIdx?_eq_none_iff.1 h f hf
  simpa using this
theorem FactsOk.one {c : ByteArray → ByteArray → Int} (hT : Told c) {fs : List Fact} {es : Ents} (h : FactsOk c fs es) {i j : Nat} (hi : i < fs.length) (hj : j < fs.length) {k : ByteArray} (h1 : c (fs[i]).1 k = 0) (h2 : c (fs[j]).1 k = 0) : i = j := by
  have h3 := hT.neg (fs[j]).1 k
  have h4 : c (fs[i]).1 (fs[j]).1 = 0 := hT.zero h1 (by omega)
  have h5 := hT.neg (fs[i]).1 (fs[j]).1
  rcases Nat.lt_trichotomy i j with hlt | he | hgt
  · exact absurd h4 (List.pairwise_iff_getElem.1 h.apart i j hi hj hlt)
  · exact he
  · exact absurd (by omega) (List.pairwise_iff_getElem.1 h.apart j i hj hi hgt)
/-- Is a key there, by the facts? -/
theorem FactsOk.has {c : ByteArray → ByteArray → Int} (hT : Told c) {fs : List Fact} {es : Ents} (h : FactsOk c fs es) (k : ByteArray) : ixHas c es k = (match findF c fs k with | some i => (fs[i]?.map (·.2.2)).getD false | none => false) := by
  cases hf : findF c fs k with
  | none =>
    have hn := findF_none hf
    simp only
    rw [Bool.eq_false_iff]
    intro hh
    obtain ⟨e, he, h0⟩ := List.any_eq_true.1 hh
    exact hn _ ((h.same e.1 e.2).1 he) (by simpa using h0)
  | some i =>
    obtain ⟨hi, h0⟩ := findF_some hf
    have hgi : fs[i]? = some fs[i] := List.getElem?_eq_getElem hi
    simp only [hgi, Option.map_some, Option.getD_some]
    rw [Bool.eq_iff_iff]
    constructor
    · intro hh
      obtain ⟨e, he, h1⟩ := List.any_eq_true.1 hh
      have h1' : c e.1 k = 0 := by simpa using h1
      obtain ⟨j, hj, hje⟩ := List.mem_iff_getElem.1 ((h.same e.1 e.2).1 he)
      have : j = i := h.one hT hj hi (k := k) (by rw [hje]; exact h1') h0
      subst this
      rw [hje]
    · intro hb
      refine List.any_eq_true.2 ⟨((fs[i]).1, (fs[i]).2.1), (h.same _ _).2 ?_, by simpa using h0⟩
      have : ((fs[i]).1, (fs[i]).2.1, true) = fs[i] := by rw [← hb]
      rw [this]
      exact List.getElem_mem hi
theorem mem_set_iff {α : Type} {l : List α} {i : Nat} (hi : i < l.length) {x y : α} : y ∈ l.set i x ↔ y = x ∨ ∃ j, ∃ hj : j < l.length, j ≠ i ∧ l[j] = y := by
  constructor
  · intro hy
    obtain ⟨j, hj, he⟩ := List.mem_iff_getElem.1 hy
    rw [List.length_set] at hj
    rw [List.getElem_set] at he
    split at he
    · exact .inl he.symm
    · rename_i hne; exact .inr ⟨j, hj, fun e => hne e.symm, he⟩
  · rintro (rfl | ⟨j, hj, hne, he⟩)
    · exact List.mem_iff_getElem.2 ⟨i, by simpa using hi, by simp⟩
    · exact List.mem_iff_getElem.2 ⟨j, by simpa using hj, by rw [List.getElem_set, if_neg (fun e => hne e.symm)]; exact he⟩
theorem apart_set {c : ByteArray → ByteArray → Int} (hT : Told c) {fs : List Fact} (ha : fs.Pairwise (fun a b => c a.1 b.1 ≠ 0)) {i : Nat} (hi : i < fs.length) {x : Fact} (hx : c (fs[i]).1 x.1 = 0) : (fs.set i x).Pairwise (fun a b => c a.1 b.1 ≠ 0) := by
  have hP := List.pairwise_iff_getElem.1 ha
  refine List.pairwise_iff_getElem.2 (fun a b h1 h2 hlt => ?_)
  rw [List.length_set] at h1 h2
  rw [List.getElem_set, List.getElem_set]
  by_cases e1 : i = a
  · subst e1
    rw [if_pos rfl, if_neg (by omega)]
    intro h0
    exact hP i b h1 h2 hlt (hT.zero hx h0)
  · rw [if_neg e1]
    by_cases e2 : i = b
    · subst e2
      rw [if_pos rfl]
      intro h0
      have h3 := hT.neg (fs[i]).1 x.1
      exact hP a i h1 h2 hlt (hT.zero h0 (by omega))
    · rw [if_neg e2]
      exact hP a b h1 h2 hlt
theorem FactsOk.putAt {c : ByteArray → ByteArray → Int} (hT : Told c) {fs : List Fact} {es : Ents} (h : FactsOk c fs es) {k v : ByteArray} {i : Nat} (hf : findF c fs k = some i) (hk : k.size ≤ 64) : FactsOk c (fs.set i (k, v, true)) (ixPut c es k v) := by
  obtain ⟨hi, h0⟩ := findF_some hf
  refine ⟨apart_set hT h.apart hi h0, fun k' v' => ?_, fun f hf' => ?_⟩
  · rw [ixPut_mem, mem_set_iff hi]
    constructor
    · rintro (he | ⟨hm, hne⟩)
      · cases he; exact .inl rfl
      · obtain ⟨j, hj, hje⟩ := List.mem_iff_getElem.1 ((h.same _ _).1 hm)
        exact .inr ⟨j, hj, fun e => by subst e; rw [hje] at h0; exact hne h0, hje⟩
    · rintro (he | ⟨j, hj, hne, hje⟩)
      · cases he; exact .inl rfl
      · refine .inr ⟨(h.same _ _).2 (by rw [← hje]; exact List.getElem_mem hj), fun e => hne ?_⟩
        exact h.one hT hj hi (k := k) (by rw [hje]; exact e) h0
  · rcases (mem_set_iff hi).1 hf' with rfl | ⟨j, hj, _, rfl⟩
    · exact hk
    · exact h.short _ (List.getElem_mem hj)
theorem FactsOk.putNew {c : ByteArray → ByteArray → Int} {fs : List Fact} {es : Ents} (h : FactsOk c fs es) {k v : ByteArray} (hf : findF c fs k = none) (hk : k.size ≤ 64) : FactsOk c (fs ++ [(k, v, true)]) (ixPut c es k v) := by
  have hn := findF_none hf
  refine ⟨List.pairwise_append.2 ⟨h.apart, by simp, fun a ha b hb => by rw [List.mem_singleton.1 hb]; exact hn a ha⟩, fun k' v' => ?_, fun f hf' => ?_⟩
  · rw [ixPut_mem, List.mem_append, List.mem_singleton]
    constructor
    · rintro (he | ⟨hm, hne⟩)
      · cases he; exact .inr rfl
      · exact .inl ((h.same _ _).1 hm)
    · rintro (hm | he)
      · exact .inr ⟨(h.same _ _).2 hm, hn _ hm⟩
      · cases he; exact .inl rfl
  · rcases List.mem_append.1 hf' with hm | hm
    · exact h.short _ hm
    · rw [List.mem_singleton.1 hm]; exact hk
theorem FactsOk.dropAt {c : ByteArray → ByteArray → Int} (hT : Told c) {fs : List Fact} {es : Ents} (h : FactsOk c fs es) {k : ByteArray} {i : Nat} (hf : findF c fs k = some i) (hi : i < fs.length) : FactsOk c (fs.set i ((fs[i]).1, (fs[i]).2.1, false)) (ixDrop c es k) := by
  obtain ⟨_, h0⟩ := findF_some hf
  refine ⟨apart_set hT h.apart hi (hT.self _), fun k' v' => ?_, fun f hf' => ?_⟩
  · rw [ixDrop_mem, mem_set_iff hi]
    constructor
    · rintro ⟨hm, hne⟩
      obtain ⟨j, hj, hje⟩ := List.mem_iff_getElem.1 ((h.same _ _).1 hm)
      exact .inr ⟨j, hj, fun e => by subst e; rw [hje] at h0; exact hne h0, hje⟩
    · rintro (he | ⟨j, hj, hne, hje⟩)
      · cases he
      · refine ⟨(h.same _ _).2 (by rw [← hje]; exact List.getElem_mem hj), fun e => hne ?_⟩
        exact h.one hT hj hi (k := k) (by rw [hje]; exact e) h0
  · rcases (mem_set_iff hi).1 hf' with rfl | ⟨j, hj, _, rfl⟩
    · exact h.short fs[i] (List.getElem_mem hi)
    · exact h.short _ (List.getElem_mem hj)
theorem scanIn_length {α : Type} (c : α → α → Int) (es : List α) : (scanIn c (fun _ => true) es).length = es.length := by
  refine rev_ind (P := fun es => (scanIn c (fun _ => true) es).length = es.length) rfl (fun l x ih => ?_) es
  rw [scanIn_snoc, if_pos rfl, putIn_length, ih]
  simp
/-- As many facts as keys: of those that p takes. -/
theorem FactsOk.count {c : ByteArray → ByteArray → Int} (hT : Told c) {fs : List Fact} {es : Ents} (h : FactsOk c fs es) (hr : Rises (ByKey c) es) (p : ByteArray × ByteArray → Bool) : (es.filter p).length = (fs.filter (fun f => f.2.2 && p (f.1, f.2.1))).length := by
  have hm : ((fs.filter (fun f => f.2.2 && p (f.1, f.2.1))).map (fun f => (f.1, f.2.1))).Pairwise (fun a b => ByKey c a b ≠ 0) := by
    rw [List.pairwise_map]
    exact List.Pairwise.filter _ h.apart
  have he := scanIn_one (p := fun _ => true) hT.byKey hm (List.Pairwise.filter p hr) (fun y => by
    constructor
    · intro hy
      obtain ⟨h1, h2⟩ := List.mem_filter.1 hy
      refine ⟨List.mem_map.2 ⟨(y.1, y.2, true), List.mem_filter.2 ⟨(h.same _ _).1 h1, by simpa using h2⟩, rfl⟩, rfl⟩
    · rintro ⟨hy, _⟩
      obtain ⟨f, hf, rfl⟩ := List.mem_map.1 hy
      obtain ⟨h1, h2⟩ := List.mem_filter.1 hf
      simp only [Bool.and_eq_true] at h2
      refine List.mem_filter.2 ⟨(h.same _ _).2 ?_, h2.2⟩
      have : (f.1, f.2.1, true) = f := by rw [← h2.1]
      rw [this]; exact h1)
  rw [he, scanIn_length, List.length_map]
/-- How many keys are there, by the facts. -/
def hereF (fs : List Fact) : Nat := (fs.filter (fun f => f.2.2)).length
theorem FactsOk.here {c : ByteArray → ByteArray → Int} (hT : Told c) {fs : List Fact} {es : Ents} (h : FactsOk c fs es) (hr : Rises (ByKey c) es) : hereF fs = es.length := by
  have := h.count hT hr (fun _ => true)
  rw [List.filter_eq_self.2 (fun _ _ => rfl)] at this
  rw [this]
  unfold hereF
  congr 2
  funext f
  simp
end Tm
end Go.Proofs.YtmnjjjhmnhfapaaGreatDoor
/-
  Versions: lists of keys with their values, each with a number of its own; what an index holds of them.
-/
namespace Go.Proofs.YtmnjjjhmnhfapaaGreatDoor

namespace Tm
/-- A version: its number; its key with its value. -/
abbrev Ver := Nat × (ByteArray × ByteArray)
abbrev Vers := List Ver
def entsOf (l : Vers) : Ents := l.map (·.2)
theorem entsOf_length (l : Vers) : (entsOf l).length = l.length := List.length_map _
theorem entsOf_get {l : Vers} {i : Nat} (h : i < l.length) : (entsOf l)[i]'(by rw [entsOf_length]; exact h) = l[i].2 := by simp [entsOf]
def verPut (c : ByteArray → ByteArray → Int) (l : Vers) (n : Nat) (k v : ByteArray) : Vers := l.filter (fun x => decide (c x.2.1 k < 0)) ++ (n, (k, v)) :: l.filter (fun x => decide (0 < c x.2.1 k))
def verDrop (c : ByteArray → ByteArray → Int) (l : Vers) (k : ByteArray) : Vers := l.filter (fun x => decide (c x.2.1 k ≠ 0))
theorem entsOf_put (c : ByteArray → ByteArray → Int) (l : Vers) (n : Nat) (k v : ByteArray) : entsOf (verPut c l n k v) = ixPut c (entsOf l) k v := by
  simp [entsOf, verPut, ixPut, List.filter_map, Function.comp_def]
theorem entsOf_drop (c : ByteArray → ByteArray → Int) (l : Vers) (k : ByteArray) : entsOf (verDrop c l k) = ixDrop c (entsOf l) k := by
  simp [entsOf, verDrop, ixDrop, List.filter_map, Function.comp_def]
theorem filter_take {α : Type} (p : α → Bool) : ∀ (l : List α) (n : Nat), (∀ i (hi : i < l.length), p l[i] = decide (i < n)) → l.filter p = l.take n
  | [], n, _ => by simp
  | x :: r, 0, h => by
    rw [List.take_zero, List.filter_eq_nil_iff]
    intro y hy
    obtain ⟨i, hi, rfl⟩ := List.mem_iff_getElem.1 hy
    rw [h i hi]; simp
  | x :: r, n + 1, h => by
    have h0 := h 0 (by simp)
    rw [List.filter_cons_of_pos (by simpa using h0), List.take_succ_cons, filter_take p r n (fun i hi => by have := h (i + 1) (by simpa using hi); simpa using this)]
theorem filter_drop {α : Type} (p : α → Bool) : ∀ (l : List α) (n : Nat), (∀ i (hi : i < l.length), p l[i] = decide (n ≤ i)) → l.filter p = l.drop n
  | [], n, _ => by simp
  | x :: r, 0, h => by
    rw [List.drop_zero, List.filter_eq_self]
    intro y hy
    obtain ⟨i, hi, rfl⟩ := List.mem_iff_getElem.1 hy
    rw [h i hi]; simp
  | x :: r, n + 1, h => by
    have h0 := h 0 (by simp)
    rw [List.filter_cons_of_neg (by simpa using h0), List.drop_succ_cons, filter_drop p r n (fun i hi => by have := h (i + 1) (by simpa using hi); simpa using this)]
theorem filter_erase {α : Type} (p : α → Bool) : ∀ (l : List α) (n : Nat), (∀ i (hi : i < l.length), p l[i] = decide (i ≠ n)) → l.filter p = l.eraseIdx n
  | [], n, _ => by simp
  | x :: r, 0, h => by
    have h0 := h 0 (by simp)
    rw [List.filter_cons_of_neg (by simpa using h0), List.eraseIdx_cons_zero, List.filter_eq_self]
    intro y hy
    obtain ⟨i, hi, rfl⟩ := List.mem_iff_getElem.1 hy
    have := h (i + 1) (by simpa using hi)
    simpa using this
  | x :: r, n + 1, h => by
    have h0 := h 0 (by simp)
    rw [List.filter_cons_of_pos (by simpa using h0), List.eraseIdx_cons_succ, filter_erase p r n (fun i hi => by have := h (i + 1) (by simpa using hi); simpa using this)]
theorem sign_at {c : ByteArray → ByteArray → Int} (h : Told c) {k : ByteArray} {l : Ents} (hl : Rises (ByKey c) l) (hh : ixHas c l k = true) {i : Nat} (hi : i < l.length) : (c (l[i]).1 k = 0 ↔ i = below c l k) ∧ (0 < c (l[i]).1 k ↔ below c l k < i) := by
  obtain ⟨hb, h0⟩ := (ixHas_at h hl).1 hh
  have h1 := below_at h (k := k) hl hi
  have h2 : below c l k < i → 0 < c (l[i]).1 k := fun hlt => by
    have h4 : c (l[below c l k]).1 (l[i]).1 < 0 := List.pairwise_iff_getElem.1 hl _ _ hb hi hlt
    have h5 := h.neg (l[i]).1 k
    have h6 := h.neg (l[below c l k]).1 k
    have h7 := h.le_lt (a := k) (b := (l[below c l k]).1) (d := (l[i]).1) (by omega) h4
    omega
  have h3 : i = below c l k → c (l[i]).1 k = 0 := fun e => by subst e; exact h0
  constructor
  · constructor
    · intro e
      refine Nat.le_antisymm (Nat.le_of_not_lt fun hlt => ?_) (Nat.le_of_not_lt fun hlt => ?_)
      · have := h2 hlt; omega
      · have := h1.2 hlt; omega
    · exact h3
  · constructor
    · intro hp
      refine Nat.lt_of_not_le fun hle => ?_
      rcases Nat.lt_or_eq_of_le hle with hlt | e
      · have := h1.2 hlt; omega
      · have := h3 e; omega
    · exact h2
theorem none_at {c : ByteArray → ByteArray → Int} (h : Told c) {k : ByteArray} {l : Ents} (hl : Rises (ByKey c) l) (hh : ixHas c l k = false) {i : Nat} (hi : i < l.length) : 0 < c (l[i]).1 k ↔ below c l k ≤ i := by
  have h1 := below_at h (k := k) hl hi
  have h2 : c (l[i]).1 k ≠ 0 := fun e => by
    have : ixHas c l k = true := List.any_eq_true.2 ⟨l[i], List.getElem_mem hi, by simpa using e⟩
    rw [this] at hh; cases hh
  omega
theorem ver_low {c : ByteArray → ByteArray → Int} (h : Told c) {k : ByteArray} {l : Vers} (hl : Rises (ByKey c) (entsOf l)) : l.filter (fun x => decide (c x.2.1 k < 0)) = l.take (below c (entsOf l) k) :=
  filter_take _ _ _ fun i hi => by
    have := below_at h (k := k) hl (by rw [entsOf_length]; exact hi)
    rw [entsOf_get hi] at this
    simpa using this
theorem verPut_there {c : ByteArray → ByteArray → Int} (h : Told c) {k v : ByteArray} {n : Nat} {l : Vers} (hl : Rises (ByKey c) (entsOf l)) (hh : ixHas c (entsOf l) k = true) : verPut c l n k v = l.set (below c (entsOf l) k) (n, (k, v)) := by
  obtain ⟨hb, _⟩ := (ixHas_at h hl).1 hh
  rw [entsOf_length] at hb
  unfold verPut
  rw [ver_low h hl, filter_drop _ l (below c (entsOf l) k + 1) (fun i hi => by
    have := (sign_at h hl hh (by rw [entsOf_length]; exact hi)).2
    rw [entsOf_get hi] at this
    simpa [Nat.succ_le_iff] using this), List.set_eq_take_append_cons_drop, if_pos hb]
theorem verPut_new {c : ByteArray → ByteArray → Int} (h : Told c) {k v : ByteArray} {n : Nat} {l : Vers} (hl : Rises (ByKey c) (entsOf l)) (hh : ixHas c (entsOf l) k = false) : verPut c l n k v = l.take (below c (entsOf l) k) ++ (n, (k, v)) :: l.drop (below c (entsOf l) k) := by
  unfold verPut
  rw [ver_low h hl, filter_drop _ l (below c (entsOf l) k) (fun i hi => by
    have := none_at h hl hh (by rw [entsOf_length]; exact hi)
    rw [entsOf_get hi] at this
    simpa using this)]
theorem verDrop_there {c : ByteArray → ByteArray → Int} (h : Told c) {k : ByteArray} {l : Vers} (hl : Rises (ByKey c) (entsOf l)) (hh : ixHas c (entsOf l) k = true) : verDrop c l k = l.eraseIdx (below c (entsOf l) k) :=
  filter_erase _ _ _ fun i hi => by
    have := (sign_at h hl hh (by rw [entsOf_length]; exact hi)).1
    rw [entsOf_get hi] at this
    simpa using this
theorem verDrop_gone {c : ByteArray → ByteArray → Int} {k : ByteArray} {l : Vers} (hh : ixHas c (entsOf l) k = false) : verDrop c l k = l := by
  unfold verDrop
  rw [List.filter_eq_self]
  intro y hy
  have : ¬ c y.2.1 k = 0 := fun e => by
    have : ixHas c (entsOf l) k = true := List.any_eq_true.2 ⟨y.2, List.mem_map.2 ⟨y, hy, rfl⟩, by simpa using e⟩
    rw [this] at hh; cases hh
  simpa using this
theorem verPut_mem {c : ByteArray → ByteArray → Int} {l : Vers} {n : Nat} {k v : ByteArray} {x : Ver} (h : x ∈ verPut c l n k v) : x = (n, (k, v)) ∨ x ∈ l := by
  unfold verPut at h
  rcases List.mem_append.1 h with h | h
  · exact .inr (List.mem_filter.1 h).1
  · rcases List.mem_cons.1 h with h | h
    · exact .inl h
    · exact .inr (List.mem_filter.1 h).1
theorem verDrop_mem {c : ByteArray → ByteArray → Int} {l : Vers} {k : ByteArray} {x : Ver} (h : x ∈ verDrop c l k) : x ∈ l := (List.mem_filter.1 h).1

/-- What is put away never comes back: what a list and a later one have, the next one has. -/
def Flow : List Vers → Prop
  | [] => True
  | [_] => True
  | a :: b :: r => (∀ x ∈ a, ∀ m ∈ r, x ∈ m → x ∈ b) ∧ Flow (b :: r)
theorem Flow.tail {a : Vers} {r : List Vers} (h : Flow (a :: r)) : Flow r := by
  cases r with
  | nil => exact trivial
  | cons b r => exact h.2
theorem Flow.more {m m' : Vers} (hm : ∀ x ∈ m', x ∈ m) : ∀ {pre : List Vers}, Flow (pre ++ [m]) → Flow (pre ++ [m, m'])
  | [], _ => ⟨fun _ _ _ h => (by cases h), trivial⟩
  | [a], h => ⟨fun x _ q hq hx => by
      have : q = m' := by simpa using hq
      subst this; exact hm x hx, ⟨fun _ _ _ h => (by cases h), trivial⟩⟩
  | a :: b :: r, h => ⟨fun x hx q hq hxq => by
      have h1 := h.1 x hx
      have hq' : q ∈ r ++ [m] ∨ q = m' := by
        rcases List.mem_append.1 hq with e | e
        · exact .inl (List.mem_append.2 (.inl e))
        · rcases List.mem_cons.1 e with e | e
          · exact .inl (List.mem_append.2 (.inr (by simp [e])))
          · exact .inr (by simpa using e)
      rcases hq' with e | e
      · exact h1 q e hxq
      · subst e
        exact h1 m (by simp) (hm x hxq), Flow.more hm (pre := b :: r) h.2⟩
theorem Flow.last {m m' : Vers} : ∀ {pre : List Vers}, (∀ x ∈ m', x ∈ m ∨ ∀ a ∈ pre, x ∉ a) → Flow (pre ++ [m]) → Flow (pre ++ [m'])
  | [], _, _ => trivial
  | [a], _, _ => ⟨fun _ _ _ h => (by cases h), trivial⟩
  | a :: b :: r, hm, h => ⟨fun x hx q hq hxq => by
      have h1 := h.1 x hx
      rcases List.mem_append.1 hq with e | e
      · exact h1 q (List.mem_append.2 (.inl e)) hxq
      · have : q = m' := by simpa using e
        subst this
        rcases hm x hxq with e2 | e2
        · exact h1 m (by simp) e2
        · exact absurd hx (e2 a (by simp)), Flow.last (pre := b :: r) (fun x hx => (hm x hx).imp id (fun e y hy => e y (List.mem_cons_of_mem _ hy))) h.2⟩
theorem Flow.skip {a b : Vers} {r : List Vers} (h : Flow (a :: b :: r)) : Flow (a :: r) := by
  cases r with
  | nil => exact trivial
  | cons d r => exact ⟨fun x hx q hq hxq => h.2.1 x (h.1 x hx q (List.mem_cons_of_mem _ hq) hxq) q hq hxq, h.2.2⟩
theorem Flow.cons_of {a : Vers} : ∀ {r r' : List Vers}, Flow (a :: r) → (Flow r → Flow r') → r' = r ∨ (∃ b, r = b :: r') ∨ (∃ b t t', r = b :: t ∧ r' = b :: t' ∧ ∀ q ∈ t', q ∈ t) → Flow (a :: r')
  | r, r', h, hr, hc => by
    rcases hc with e | ⟨b, e⟩ | ⟨b, t, t', e1, e2, e3⟩
    · rw [e]; exact h
    · subst e; exact h.skip
    · subst e1; subst e2
      exact ⟨fun x hx q hq hxq => h.1 x hx q (e3 q hq) hxq, hr h.2⟩
theorem Flow.erase : ∀ {l : List Vers} (i : Nat), Flow l → Flow (l.eraseIdx i)
  | [], _, _ => by rw [List.eraseIdx_nil]; exact trivial
  | a :: r, 0, h => by rw [List.eraseIdx_cons_zero]; exact h.tail
  | a :: r, i + 1, h => by
    rw [List.eraseIdx_cons_succ]
    refine h.cons_of (fun hr => Flow.erase i hr) ?_
    cases r with
    | nil => exact .inl (by simp)
    | cons b t =>
      cases i with
      | zero => exact .inr (.inl ⟨b, by rw [List.eraseIdx_cons_zero]⟩)
      | succ i => exact .inr (.inr ⟨b, t, t.eraseIdx i, rfl, by rw [List.eraseIdx_cons_succ], fun q hq => List.mem_of_mem_eraseIdx hq⟩)
end Tm

/-- What an index holds: what is there now; the snapshots that are held (the eldest first); the last handle; the number of the next version. -/
structure IxSt where
  now : Tm.Vers
  held : List (Nat × Tm.Vers)
  given : Nat
  next : Nat
def nowOf (s : IxSt) : Tm.Ents := Tm.entsOf s.now
def ixNil : IxSt := ⟨[], [], 0, 0⟩
def allVers (s : IxSt) : Tm.Vers := s.now ++ s.held.flatMap (·.2)
/-- What Put answers. -/
def putErr (c : ByteArray → ByteArray → Int) (s : IxSt) (k v : ByteArray) : Int := if 64 < k.size ∨ 64 < v.size then 7 else if Tm.ixHas c (nowOf s) k = false ∧ 64 ≤ (nowOf s).length then 8 else 0
/-- What is held behind a Put. -/
def putSt (c : ByteArray → ByteArray → Int) (s : IxSt) (k v : ByteArray) : IxSt := if putErr c s k v = 0 then { s with now := Tm.verPut c s.now s.next k v, next := s.next + 1 } else s
/-- What is held behind a Delete. -/
def dropSt (c : ByteArray → ByteArray → Int) (s : IxSt) (k : ByteArray) : IxSt := if 64 < k.size then s else if Tm.ixHas c (nowOf s) k = true then { s with now := Tm.verDrop c s.now k, next := s.next + 1 } else s
/-- What is held behind a Snapshot. -/
def snapSt (s : IxSt) : IxSt := if 8 ≤ s.held.length then s else { s with held := s.held ++ [(s.given + 1, s.now)], given := s.given + 1 }
/-- The place of a handle. -/
def heldAt (s : IxSt) (h : Int) : Nat := s.held.findIdx (fun x => decide ((x.1 : Int) = h))
/-- What is held behind a Release. -/
def letSt (s : IxSt) (h : Int) : IxSt := { s with held := s.held.eraseIdx (heldAt s h) }
theorem nowOf_nil : nowOf ixNil = [] := rfl
theorem nowOf_length (s : IxSt) : (nowOf s).length = s.now.length := Tm.entsOf_length _
theorem nowOf_put {c : ByteArray → ByteArray → Int} {s : IxSt} {k v : ByteArray} (h : putErr c s k v = 0) : nowOf (putSt c s k v) = Tm.ixPut c (nowOf s) k v := by unfold putSt nowOf; rw [if_pos h, Tm.entsOf_put]
theorem putSt_no {c : ByteArray → ByteArray → Int} {s : IxSt} {k v : ByteArray} (h : putErr c s k v ≠ 0) : putSt c s k v = s := by unfold putSt; rw [if_neg h]
theorem nowOf_drop {c : ByteArray → ByteArray → Int} {s : IxSt} {k : ByteArray} (h : k.size ≤ 64) : nowOf (dropSt c s k) = Tm.ixDrop c (nowOf s) k := by
  unfold dropSt
  rw [if_neg (by omega)]
  by_cases hh : Tm.ixHas c (nowOf s) k = true
  · rw [if_pos hh]; exact Tm.entsOf_drop _ _ _
  · rw [if_neg hh, Tm.ixDrop_gone (by simpa using hh)]
theorem putSt_held (c : ByteArray → ByteArray → Int) (s : IxSt) (k v : ByteArray) : (putSt c s k v).held = s.held ∧ (putSt c s k v).given = s.given := by unfold putSt; split <;> exact ⟨rfl, rfl⟩
theorem dropSt_held (c : ByteArray → ByteArray → Int) (s : IxSt) (k : ByteArray) : (dropSt c s k).held = s.held ∧ (dropSt c s k).given = s.given := by
  unfold dropSt
  split
  · exact ⟨rfl, rfl⟩
  · split <;> exact ⟨rfl, rfl⟩
theorem nowOf_snap (s : IxSt) : nowOf (snapSt s) = nowOf s := by unfold snapSt; split <;> rfl
theorem nowOf_let (s : IxSt) (h : Int) : nowOf (letSt s h) = nowOf s := rfl
/-- What holds of all that an index may hold. -/
structure StOk (c : ByteArray → ByteArray → Int) (s : IxSt) : Prop where
  rises : Tm.Rises (Tm.ByKey c) (nowOf s)
  few : (nowOf s).length ≤ 64
  short : ∀ e ∈ nowOf s, e.1.size ≤ 64 ∧ e.2.size ≤ 64
  heldOk : ∀ h ∈ s.held, Tm.Rises (Tm.ByKey c) (Tm.entsOf h.2) ∧ h.2.length ≤ 64
  held8 : s.held.length ≤ 8
  less : ∀ x ∈ allVers s, x.1 < s.next
  one : ∀ x ∈ allVers s, ∀ y ∈ allVers s, x.1 = y.1 → x = y
  given : ∀ h ∈ s.held, 1 ≤ h.1 ∧ h.1 ≤ s.given
  apart : s.held.Pairwise (fun a b => a.1 < b.1)
  flow : Tm.Flow (s.held.map (·.2) ++ [s.now])
theorem StOk.nil (c : ByteArray → ByteArray → Int) : StOk c ixNil := ⟨.nil, Nat.zero_le _, fun _ h => (by cases h), fun _ h => (by cases h), Nat.zero_le _, fun _ h => (by cases h), fun _ h => (by cases h), fun _ h => (by cases h), .nil, trivial⟩
theorem mem_now {s : IxSt} {x : Tm.Ver} (h : x ∈ s.now) : x ∈ allVers s := List.mem_append.2 (.inl h)
theorem mem_held {s : IxSt} {x : Tm.Ver} {h : Nat × Tm.Vers} (hh : h ∈ s.held) (hx : x ∈ h.2) : x ∈ allVers s := List.mem_append.2 (.inr (List.mem_flatMap.2 ⟨h, hh, hx⟩))
theorem mem_all {s : IxSt} {x : Tm.Ver} (hx : x ∈ allVers s) : x ∈ s.now ∨ ∃ h ∈ s.held, x ∈ h.2 := by
  rcases List.mem_append.1 hx with e | e
  · exact .inl e
  · obtain ⟨h, hh, hx⟩ := List.mem_flatMap.1 e
    exact .inr ⟨h, hh, hx⟩
/-- The list of now is another one. -/
theorem StOk.turn {c : ByteArray → ByteArray → Int} {s : IxSt} (h : StOk c s) {l : Tm.Vers} {N : Nat} (hN : s.next ≤ N) (hr : Tm.Rises (Tm.ByKey c) (Tm.entsOf l)) (hf : l.length ≤ 64) (hs : ∀ e ∈ Tm.entsOf l, e.1.size ≤ 64 ∧ e.2.size ≤ 64) (hm : ∀ x ∈ l, x ∈ s.now ∨ (x.1 = s.next ∧ s.next < N)) (h1 : ∀ x ∈ l, ∀ y ∈ l, x.1 = y.1 → x = y) : StOk c { s with now := l, next := N } := by
  have hall : ∀ x ∈ allVers { s with now := l, next := N }, x ∈ allVers s ∨ (x.1 = s.next ∧ s.next < N ∧ x ∈ l) := fun x hx => by
    rcases mem_all hx with e | ⟨g, hg, e⟩
    · rcases hm x e with e2 | e2
      · exact .inl (mem_now e2)
      · exact .inr ⟨e2.1, e2.2, e⟩
    · exact .inl (mem_held (s := s) hg e)
  refine ⟨hr, by rw [nowOf_length]; exact hf, hs, h.heldOk, h.held8, fun x hx => ?_, fun x hx y hy e => ?_, h.given, h.apart, ?_⟩
  · show x.1 < N
    rcases hall x hx with e | ⟨e, e2, _⟩
    · have := h.less x e; omega
    · omega
  · rcases hall x hx with a | ⟨a, a2, a3⟩ <;> rcases hall y hy with b | ⟨b, b2, b3⟩
    · exact h.one x a y b e
    · have := h.less x a; omega
    · have := h.less y b; omega
    · exact h1 x a3 y b3 e
  · refine Tm.Flow.last (fun x hx => ?_) h.flow
    rcases hm x hx with e | e
    · exact .inl e
    · refine .inr fun a ha hxa => ?_
      obtain ⟨g, hg, rfl⟩ := List.mem_map.1 ha
      have := h.less x (mem_held hg hxa)
      omega
theorem StOk.put {c : ByteArray → ByteArray → Int} (hT : Tm.Told c) {s : IxSt} (h : StOk c s) (k v : ByteArray) : StOk c (putSt c s k v) := by
  by_cases h0 : putErr c s k v = 0
  · have hkv : k.size ≤ 64 ∧ v.size ≤ 64 := by
      unfold putErr at h0
      by_cases hl : 64 < k.size ∨ 64 < v.size
      · rw [if_pos hl] at h0; omega
      · omega
    have hfew : (Tm.verPut c s.now s.next k v).length ≤ 64 := by
      unfold putErr at h0
      rw [if_neg (by omega)] at h0
      have hfw := h.few
      cases hh : Tm.ixHas c (nowOf s) k
      · rw [hh] at h0
        rw [Tm.verPut_new hT h.rises hh]
        rw [nowOf_length] at h0 hfw
        by_cases h9 : 64 ≤ s.now.length
        · rw [if_pos ⟨rfl, h9⟩] at h0; omega
        · simp; omega
      · rw [Tm.verPut_there hT h.rises hh, List.length_set]
        rw [nowOf_length] at hfw; exact hfw
    unfold putSt
    rw [if_pos h0]
    refine h.turn (Nat.le_succ _) (by rw [Tm.entsOf_put]; exact Tm.ixPut_rises hT h.rises) hfew (fun e he => ?_) (fun x hx => ?_) (fun x hx y hy e => ?_)
    · rw [Tm.entsOf_put] at he
      rcases Tm.ixPut_mem.1 he with rfl | ⟨h1, _⟩
      · exact hkv
      · exact h.short e h1
    · rcases Tm.verPut_mem hx with rfl | e
      · exact .inr ⟨rfl, Nat.lt_succ_self _⟩
      · exact .inl e
    · rcases Tm.verPut_mem hx with rfl | a <;> rcases Tm.verPut_mem hy with rfl | b
      · rfl
      · have := h.less y (mem_now b); simp only at e; omega
      · have := h.less x (mem_now a); simp only at e; omega
      · exact h.one x (mem_now a) y (mem_now b) e
  · rw [putSt_no h0]; exact h
theorem StOk.drop {c : ByteArray → ByteArray → Int} {s : IxSt} (h : StOk c s) (k : ByteArray) : StOk c (dropSt c s k) := by
  unfold dropSt
  split
  · exact h
  · split
    · refine h.turn (Nat.le_succ _) (by rw [Tm.entsOf_drop]; exact Tm.ixDrop_rises h.rises) ?_ (fun e he => ?_) (fun x hx => .inl (Tm.verDrop_mem hx)) (fun x hx y hy e => h.one x (mem_now (Tm.verDrop_mem hx)) y (mem_now (Tm.verDrop_mem hy)) e)
      · have h1 := h.few
        rw [nowOf_length] at h1
        exact Nat.le_trans (List.length_filter_le _ _) h1
      · rw [Tm.entsOf_drop] at he
        exact h.short e (Tm.ixDrop_mem.1 he).1
    · exact h
theorem StOk.snap {c : ByteArray → ByteArray → Int} {s : IxSt} (h : StOk c s) : StOk c (snapSt s) := by
  unfold snapSt
  split
  · exact h
  · rename_i h8
    have hall : ∀ x, x ∈ allVers { s with held := s.held ++ [(s.given + 1, s.now)], given := s.given + 1 } → x ∈ allVers s := fun x hx => by
      rcases mem_all hx with e | ⟨g, hg, e⟩
      · exact mem_now e
      · rcases List.mem_append.1 hg with e1 | e1
        · exact mem_held e1 e
        · have : g = (s.given + 1, s.now) := by simpa using e1
          subst this; exact mem_now e
    refine ⟨h.rises, h.few, h.short, fun g hg => ?_, by simp; omega, fun x hx => h.less x (hall x hx), fun x hx y hy => h.one x (hall x hx) y (hall y hy), fun g hg => ?_, ?_, ?_⟩
    · rcases List.mem_append.1 hg with e1 | e1
      · exact h.heldOk g e1
      · have : g = (s.given + 1, s.now) := by simpa using e1
        subst this
        exact ⟨h.rises, by have := h.few; rw [nowOf_length] at this; exact this⟩
    · rcases List.mem_append.1 hg with e1 | e1
      · have := h.given g e1
        exact ⟨this.1, by show g.1 ≤ s.given + 1; omega⟩
      · have : g = (s.given + 1, s.now) := by simpa using e1
        subst this
        exact ⟨by show 1 ≤ s.given + 1; omega, Nat.le_refl _⟩
    · refine List.pairwise_append.2 ⟨h.apart, List.pairwise_singleton _ _, fun a ha b hb => ?_⟩
      have : b = (s.given + 1, s.now) := by simpa using hb
      subst this
      have := (h.given a ha).2
      show a.1 < s.given + 1
      omega
    · show Tm.Flow ((s.held ++ [(s.given + 1, s.now)]).map (·.2) ++ [s.now])
      rw [List.map_append, List.append_assoc]
      exact Tm.Flow.more (fun x hx => hx) h.flow
theorem StOk.let_ {c : ByteArray → ByteArray → Int} {s : IxSt} (h : StOk c s) (hd : Int) : StOk c (letSt s hd) := by
  have hall : ∀ x, x ∈ allVers (letSt s hd) → x ∈ allVers s := fun x hx => by
    rcases mem_all hx with e | ⟨g, hg, e⟩
    · exact mem_now e
    · exact mem_held (List.mem_of_mem_eraseIdx hg) e
  refine ⟨h.rises, h.few, h.short, fun g hg => h.heldOk g (List.mem_of_mem_eraseIdx hg), Nat.le_trans (List.length_eraseIdx_le _ _) h.held8, fun x hx => h.less x (hall x hx), fun x hx y hy => h.one x (hall x hx) y (hall y hy), fun g hg => h.given g (List.mem_of_mem_eraseIdx hg), h.apart.sublist (List.eraseIdx_sublist _ _), ?_⟩
  by_cases hlt : heldAt s hd < s.held.length
  · have h1 := Tm.Flow.erase (heldAt s hd) h.flow
    rw [List.eraseIdx_append_of_lt_length (by simpa using hlt)] at h1
    show Tm.Flow ((s.held.eraseIdx (heldAt s hd)).map (·.2) ++ [s.now])
    rw [show (s.held.eraseIdx (heldAt s hd)).map (·.2) = (s.held.map (·.2)).eraseIdx (heldAt s hd) by rw [List.eraseIdx_eq_take_drop_succ, List.eraseIdx_eq_take_drop_succ, List.map_append, List.map_take, List.map_drop]]
    exact h1
  · show Tm.Flow ((s.held.eraseIdx (heldAt s hd)).map (·.2) ++ [s.now])
    rw [List.eraseIdx_of_length_le (by omega)]
    exact h.flow
end Go.Proofs.YtmnjjjhmnhfapaaGreatDoor
namespace Go.Proofs.YtmnjjjhmnhfapaaGreatDoor
open Go.RowKit

theorem told_cmpOf (lns : List Tm.Ln) (st : Int) (sh : Bool) : Tm.Told (cmpOf lns st sh) := ⟨fun a b => cmpOf_neg lns st sh a b, fun h k => cmpOf_trans h k⟩
/-- The bytes by which a key stands. -/
def placeOf (lns : List Tm.Ln) (st : Int) (sh : Bool) (s : ByteArray) : ByteArray := ⟨(keyBytes lns st sh s).toArray⟩
/-- The cells of entries. -/
def entCells (es : Tm.Ents) : List Value := es.flatMap fun e => [.string e.1, .string e.2]
theorem entCells_length (es : Tm.Ents) : (entCells es).length = es.length * 2 := by
  induction es with
  | nil => rfl
  | cons e r ih => simp only [entCells, List.flatMap_cons, List.length_append, List.length_cons] at *; rw [ih]; simp; omega
theorem entCells_append (a b : Tm.Ents) : entCells (a ++ b) = entCells a ++ entCells b := by simp [entCells]
/-- Of rows of so many cells each: the cells of one. -/
theorem rows_get {α : Type} (f : α → List Value) (m : Nat) (hf : ∀ x, (f x).length = m) : ∀ (l : List α) (k : Nat) (hk : k < l.length) (j : Nat), j < m → (l.flatMap f)[k * m + j]? = (f l[k])[j]?
  | [], k, hk, _, _ => by simp at hk
  | x :: r, 0, _, j, hj => by
    rw [List.flatMap_cons, Nat.zero_mul, Nat.zero_add, List.getElem?_append_left (by rw [hf]; exact hj)]
    rfl
  | x :: r, k + 1, hk, j, hj => by
    rw [List.flatMap_cons, List.getElem?_append_right (by rw [hf, Nat.succ_mul]; omega), hf, show (k + 1) * m + j - m = k * m + j by rw [Nat.succ_mul]; omega]
    exact rows_get f m hf r k (by simpa using hk) j hj
theorem ents_at {w : World} {a : Option Addr} {n cap : Nat} {es : Tm.Ents} (h : Reads w (.slice a n cap) 2 es.length (entCells es)) {k : Nat} (hk : k < es.length) :
    ∃ g off, a = some ⟨g, off, none⟩ ∧ g < w.heap.size ∧ w.cell? ⟨g, off + k * 2, none⟩ = some (.string es[k].1) ∧ w.cell? ⟨g, off + k * 2 + 1, none⟩ = some (.string es[k].2) := by
  obtain ⟨g, off, cap', he, hg, hc⟩ := h.form (by rw [entCells_length]; omega)
  cases he
  have hr := rows_get (fun e : ByteArray × ByteArray => [Value.string e.1, Value.string e.2]) 2 (fun _ => rfl) es k hk
  exact ⟨g, off, rfl, hg, hc (k * 2) _ (hr 0 (by omega)), hc (k * 2 + 1) _ (hr 1 (by omega))⟩

/-- The cells of versions: where each lies. -/
def ptrs (B : Nat → Nat) (l : Tm.Vers) : List Value := l.map fun x => .pointer (some ⟨B x.1, 0, none⟩)
theorem ptrs_length (B : Nat → Nat) (l : Tm.Vers) : (ptrs B l).length = l.length := List.length_map _
theorem ptrs_one (B : Nat → Nat) (l : Tm.Vers) : ∀ u ∈ ptrs B l, u.oneCell' = true := by
  intro u hu
  obtain ⟨e, _, rfl⟩ := List.mem_map.1 hu
  rfl
theorem ptrs_congr {B B' : Nat → Nat} {l : Tm.Vers} (h : ∀ x ∈ l, B' x.1 = B x.1) : ptrs B' l = ptrs B l := List.map_congr_left fun x hx => by rw [h x hx]
/-- The cells of snapshots. -/
def snapCells (V : Nat → Value) (l : List (Nat × Tm.Vers)) : List Value := l.flatMap fun g => [.int .i64 g.1, V g.1]
theorem snapCells_length (V : Nat → Value) (l : List (Nat × Tm.Vers)) : (snapCells V l).length = l.length * 2 := by
  induction l with
  | nil => rfl
  | cons e r ih => simp only [snapCells, List.flatMap_cons, List.length_append, List.length_cons] at *; rw [ih]; simp; omega
theorem snapCells_append (V : Nat → Value) (a b : List (Nat × Tm.Vers)) : snapCells V (a ++ b) = snapCells V a ++ snapCells V b := by simp [snapCells]
theorem snapCells_congr {V V' : Nat → Value} {l : List (Nat × Tm.Vers)} (h : ∀ g ∈ l, V' g.1 = V g.1) : snapCells V' l = snapCells V l := by
  induction l with
  | nil => rfl
  | cons e r ih =>
    simp only [snapCells, List.flatMap_cons] at *
    rw [h e (by simp), ih (fun g hg => h g (by simp [hg]))]
/-- A version as it lies. -/
def VerAt (w : World) (K : ByteArray → ByteArray) (B : Nat → Nat) (x : Tm.Ver) : Prop :=
  B x.1 < w.heap.size ∧ w.cell? ⟨B x.1, 0, none⟩ = some (.string (K x.2.1)) ∧ w.cell? ⟨B x.1, 1, none⟩ = some (.string x.2.1) ∧ w.cell? ⟨B x.1, 2, none⟩ = some (.string x.2.2) ∧ w.heap[B x.1]? = some (.cells #[.string (K x.2.1), .string x.2.1, .string x.2.2] 137)
theorem VerAt.of_block {w w' : World} {K : ByteArray → ByteArray} {B B' : Nat → Nat} {x : Tm.Ver} (h : VerAt w K B x) (hz : w.heap.size ≤ w'.heap.size) (hb : w'.heap[B x.1]? = w.heap[B x.1]?) (hB : B' x.1 = B x.1) : VerAt w' K B' x := by
  obtain ⟨h0, h1, h2, h3, h4⟩ := h
  unfold VerAt
  rw [hB]
  exact ⟨by omega, (World.cell?_of_block (a := ⟨B x.1, 0, none⟩) hb).trans h1, (World.cell?_of_block (a := ⟨B x.1, 1, none⟩) hb).trans h2, (World.cell?_of_block (a := ⟨B x.1, 2, none⟩) hb).trans h3, hb.trans h4⟩
/-- A row of versions as it lies. -/
structure VRow (w : World) (K : ByteArray → ByteArray) (B : Nat → Nat) (v : Value) (l : Tm.Vers) : Prop where
  reads : Reads w v 1 l.length (ptrs B l)
  at_ : ∀ x ∈ l, VerAt w K B x
theorem VRow.below {w w' : World} {K : ByteArray → ByteArray} {B : Nat → Nat} {v : Value} {l : Tm.Vers} (h : VRow w K B v l) (hb : Below w.heap.size w w') : VRow w' K B v l :=
  ⟨h.reads.below hb h.reads.2.1, fun x hx => (h.at_ x hx).of_block hb.size (hb.block _ (h.at_ x hx).1) rfl⟩
theorem VRow.get {w : World} {K : ByteArray → ByteArray} {B : Nat → Nat} {a : Option Addr} {n cap : Nat} {l : Tm.Vers} (h : VRow w K B (.slice a n cap) l) {k : Nat} (hk : k < l.length) :
    ∃ g off, a = some ⟨g, off, none⟩ ∧ g < w.heap.size ∧ w.cell? ⟨g, off + k, none⟩ = some (.pointer (some ⟨B l[k].1, 0, none⟩)) ∧ VerAt w K B l[k] := by
  obtain ⟨g, off, cap', he, hg, hc⟩ := h.reads.form (by rw [ptrs_length]; omega)
  cases he
  exact ⟨g, off, rfl, hg, hc k _ (by simp [ptrs, hk]), h.at_ _ (List.getElem_mem hk)⟩

/-- The inside of an index: F its blocks that are never written any more; B where a version lies, V a snapshot's row; v and h the two rows that are written. -/
structure IxIn (w : World) (X : Nat) (S F : Nat → Prop) (bx : Nat) (K : ByteArray → ByteArray) (s : IxSt) (B : Nat → Nat) (V : Nat → Value) (v h : Value) : Prop where
  c1 : w.cell? ⟨bx, 1, none⟩ = some v
  c2 : w.cell? ⟨bx, 2, none⟩ = some h
  now : w.ownsRow X 138 1 v s.now.length (ptrs B s.now)
  held : w.ownsRow X 142 2 h s.held.length (snapCells V s.held)
  vS : ∀ g, v.ownBlock = some g → S g ∧ g ≠ bx ∧ h.ownBlock ≠ some g ∧ ¬ F g
  hS : ∀ g, h.ownBlock = some g → S g ∧ g ≠ bx ∧ ¬ F g
  fS : ∀ i, F i → S i ∧ i ≠ bx
  vers : ∀ x ∈ allVers s, F (B x.1) ∧ VerAt w K B x
  inj : ∀ x ∈ allVers s, ∀ y ∈ allVers s, B x.1 = B y.1 → x.1 = y.1
  rows : ∀ g ∈ s.held, w.ownsRow X 138 1 (V g.1) g.2.length (ptrs B g.2) ∧ ∀ b, (V g.1).ownBlock = some b → F b
/-- An index as it lies: S its own blocks, none of them below X. -/
structure Ix (w : World) (X : Nat) (S : Nat → Prop) (bx bc : Nat) (st : Int) (sh : Bool) (lns : List Tm.Ln) (s : IxSt) : Prop where
  from_ : ∀ i, S i → X ≤ i ∧ i < w.heap.size
  own : S bx
  c0 : w.cell? ⟨bx, 0, none⟩ = some (.pointer (some ⟨bc, 0, none⟩))
  c3 : w.cell? ⟨bx, 3, none⟩ = some (.int .i64 s.given)
  free : ∀ o, w.frozen? ⟨bx, o, none⟩ = false
  mem : ∃ F B V v h, IxIn w X S F bx (placeOf lns st sh) s B V v h
  ok : StOk (cmpOf lns st sh) s
theorem Ix.rises {w : World} {X : Nat} {S : Nat → Prop} {bx bc : Nat} {st : Int} {sh : Bool} {lns : List Tm.Ln} {s : IxSt} (h : Ix w X S bx bc st sh lns s) : Tm.Rises (Tm.ByKey (cmpOf lns st sh)) (nowOf s) := h.ok.rises
theorem Ix.few {w : World} {X : Nat} {S : Nat → Prop} {bx bc : Nat} {st : Int} {sh : Bool} {lns : List Tm.Ln} {s : IxSt} (h : Ix w X S bx bc st sh lns s) : (nowOf s).length ≤ 64 := h.ok.few
theorem Ix.short {w : World} {X : Nat} {S : Nat → Prop} {bx bc : Nat} {st : Int} {sh : Bool} {lns : List Tm.Ln} {s : IxSt} (h : Ix w X S bx bc st sh lns s) : ∀ e ∈ nowOf s, e.1.size ≤ 64 ∧ e.2.size ≤ 64 := h.ok.short
/-- What is never written stays. -/
theorem IxIn.fixed {w w' : World} {X : Nat} {S F T : Nat → Prop} {bx : Nat} {K : ByteArray → ByteArray} {s : IxSt} {B : Nat → Nat} {V : Nat → Value} {v h : Value} (hi : IxIn w X S F bx K s B V v h) (hf : Foot T w w') (hT : ∀ i, F i → ¬ T i) :
    (∀ x ∈ allVers s, F (B x.1) ∧ VerAt w' K B x) ∧ ∀ g ∈ s.held, w'.ownsRow X 138 1 (V g.1) g.2.length (ptrs B g.2) ∧ ∀ b, (V g.1).ownBlock = some b → F b :=
  ⟨fun x hx => ⟨(hi.vers x hx).1, (hi.vers x hx).2.of_block hf.size (hf.block _ (hi.vers x hx).2.1 (hT _ (hi.vers x hx).1)) rfl⟩,
    fun g hg => ⟨hf.owns (hi.rows g hg).1 (fun b e => hT b ((hi.rows g hg).2 b e)), (hi.rows g hg).2⟩⟩
theorem Ix.foot {w w' : World} {X : Nat} {S T : Nat → Prop} {bx bc : Nat} {st : Int} {sh : Bool} {lns : List Tm.Ln} {s : IxSt} (h : Ix w X S bx bc st sh lns s) (hf : Foot T w w') (hd : ∀ i, S i → ¬ T i) : Ix w' X S bx bc st sh lns s := by
  have hl := (h.from_ bx h.own).2
  have hcell : ∀ o, w'.cell? ⟨bx, o, none⟩ = w.cell? ⟨bx, o, none⟩ := fun o => hf.cell (p := ⟨bx, o, none⟩) hl (hd bx h.own)
  obtain ⟨F, B, V, v, g, hi⟩ := h.mem
  have hx := hi.fixed hf (fun i e => hd i (hi.fS i e).1)
  exact ⟨fun i hi => ⟨(h.from_ i hi).1, Nat.lt_of_lt_of_le (h.from_ i hi).2 hf.size⟩, h.own, by rw [hcell]; exact h.c0, by rw [hcell]; exact h.c3, fun o => by rw [hf.frozen (p := ⟨bx, o, none⟩) hl (hd bx h.own)]; exact h.free o,
    ⟨F, B, V, v, g, by rw [hcell]; exact hi.c1, by rw [hcell]; exact hi.c2, hf.owns hi.now (fun b e => hd b (hi.vS b e).1), hf.owns hi.held (fun b e => hd b (hi.hS b e).1), hi.vS, hi.hS, hi.fS, hx.1, hi.inj, hx.2⟩, h.ok⟩
theorem Ix.below {w w' : World} {X : Nat} {S : Nat → Prop} {bx bc : Nat} {st : Int} {sh : Bool} {lns : List Tm.Ln} {s : IxSt} (h : Ix w X S bx bc st sh lns s) (hb : Below w.heap.size w w') : Ix w' X S bx bc st sh lns s :=
  h.foot (Foot.of (S := fun _ => False) hb) (fun _ _ e => e)
/-- A step of an index: what it holds now; only its own blocks have turned. -/
def IxStep (w w' : World) (X : Nat) (S : Nat → Prop) (bx bc : Nat) (st : Int) (sh : Bool) (lns : List Tm.Ln) (s : IxSt) : Prop :=
  ∃ S' : Nat → Prop, Ix w' X S' bx bc st sh lns s ∧ Foot S w w' ∧ ∀ i, S' i → S i ∨ w.heap.size ≤ i
theorem IxStep.of_below {w w' : World} {X : Nat} {S : Nat → Prop} {bx bc : Nat} {st : Int} {sh : Bool} {lns : List Tm.Ln} {s : IxSt} (h : Ix w X S bx bc st sh lns s) (hb : Below w.heap.size w w') : IxStep w w' X S bx bc st sh lns s :=
  ⟨S, h.below hb, Foot.of hb, fun _ hi => .inl hi⟩
/-- What Scan answers of entries. -/
def scanOf (c : ByteArray → ByteArray → Int) (es : Tm.Ents) (lo hi : ByteArray) (limit : Int) (w : World) (e : Ending) (w' : World) : Prop :=
  Below w.heap.size w w' ∧
  if 64 < lo.size ∨ 64 < hi.size then e = .returned (.tuple #[.slice none 0 0, .int .i64 7])
  else if limit < 0 then e = .returned (.tuple #[.slice none 0 0, .int .i64 10])
  else ∃ v, e = .returned (.tuple #[v, .int .i64 0]) ∧ w'.ownsRow w.heap.size 67 2 v ((Tm.ixScan c es lo hi).take limit.toNat).length (entCells ((Tm.ixScan c es lo hi).take limit.toNat))
/-- What Scan answers of what is there now. -/
def scanAns (c : ByteArray → ByteArray → Int) (s : IxSt) (lo hi : ByteArray) (limit : Int) (w : World) (e : Ending) (w' : World) : Prop := scanOf c (nowOf s) lo hi limit w e w'
end Go.Proofs.YtmnjjjhmnhfapaaGreatDoor
namespace Go.Proofs.YtmnjjjhmnhfapaaGreatDoor
open Go.RowKit

set_option maxRecDepth 100000 in
set_option maxHeartbeats 1000000 in
theorem lawSameEnts_any (va vb : Value) (l : Tm.Ents) (w : World) (ha : Reads w va 2 l.length (entCells l)) (hb : Reads w vb 2 l.length (entCells l)) (hl : l.length ≤ 1000000) :
    Calls Tryz.prog 138 #[va, vb] w fun e w' => e = .returned (.bool true) ∧ ∃ n, w' = w.drewN n := by
  obtain ⟨a, cap, rfl⟩ := ha.shape
  obtain ⟨a', cap', rfl⟩ := hb.shape
  have HA := hide ha
  have HB := hide hb
  obtain ⟨n, hn⟩ : ∃ n, l.length = n := ⟨_, rfl⟩
  have HN := hide hn
  rw [hn] at hl HA HB
  rw [hn]
  clear ha hb hn
  go_enter Tryz.func138, Tryz.ntmps138
  go_wp2
  go_loopw [5] (fun i wr => ∃ k : Nat, k ≤ n ∧ i = .int .i64 k ∧ ∃ q, wr = w.drewN q) (fun i _ => n - (intOf i).toNat)
  case atStart => exact ⟨0, Nat.zero_le _, rfl, 0, rfl⟩
  case round =>
    obtain ⟨k, hk, rfl, q, rfl⟩ := hrel
    by_cases hlt : k < n
    · have hlt' : k < l.length := by rw [HN.out]; exact hlt
      obtain ⟨g, off, rfl, hg, c0, c1⟩ := ents_at (by rw [HN.out]; exact HA.out) hlt'
      obtain ⟨g', off', rfl, hg', d0, d1⟩ := ents_at (by rw [HN.out]; exact HB.out) hlt'
      have i1 : (0 : Int) ≤ (k : Int) := by omega
      have i2 : (k : Int) < (n : Int) := by omega
      generalize l[k] = x at *
      obtain ⟨p, s⟩ := x
      simp only at c0 c1 d0 d1
      clear hlt'
      go_wp2
      go_quiet (fail)
      go_wp2
      go_roundw
      case rel => exact ⟨k + 1, by omega, by go_num, _, rfl⟩
      case measure => simp [intOf]; omega
    · go_wp2
      go_ret
      exact ⟨rfl, q, rfl⟩

/-- The letters of a number, behind a text. -/
def lettersOn (s : ByteArray) (n : Nat) : ByteArray := if h : n = 0 then s else lettersOn (s ++ ⟨#[(65 + n % 26).toUInt8]⟩) (n / 26)
termination_by n
decreasing_by omega
/-- The caller's mark for the list of a number: its text. -/
def mkTxt (n : Nat) : ByteArray := lettersOn ⟨#[116, 104, 101, 32, 99, 97, 108, 108, 101, 114, 39, 115, 32]⟩ n
def mkEnt (n : Nat) : ByteArray × ByteArray := (mkTxt n, ⟨#[120]⟩)

set_option maxRecDepth 100000 in
theorem markEntry_any (n : Nat) (w : World) (h : n ≤ 1000000000) :
    Calls Tryz.prog 51 #[.int .i64 n] w fun e w' => e = .returned (.agg #[.string (mkTxt n), .string ⟨#[120]⟩]) ∧ Below w.heap.size w w' := by
  go_enter Tryz.func51, Tryz.ntmps51
  go_wp2
  go_loopw [0, 3] (fun i t wr => ∃ m : Nat, ∃ s : ByteArray, m ≤ n ∧ i = .int .i64 m ∧ t = .string s ∧ lettersOn s m = mkTxt n ∧ s.size ≤ 13 + (n - m) ∧ Below (w.heap.size + 1) (w.alloc (.cells #[.string .empty, .string .empty] 67)) wr) (fun i _ _ => (intOf i).toNat)
  case atStart => exact ⟨n, _, Nat.le_refl _, rfl, rfl, rfl, by simp [ByteArray.size], Below.refl _ _⟩
  case round =>
    obtain ⟨m, s, hm, rfl, rfl, hs, hsz, hB⟩ := hrel
    have k0 : wr.cell? ⟨w.heap.size, 0, none⟩ = some (.string .empty) := by rw [hB.cell (p := ⟨w.heap.size, 0, none⟩) (by simp), cell_new rfl]; rfl
    have k1 : wr.cell? ⟨w.heap.size, 1, none⟩ = some (.string .empty) := by rw [hB.cell (p := ⟨w.heap.size, 1, none⟩) (by simp), cell_new rfl]; rfl
    have kf : wr.heap[w.heap.size]? = some (.cells #[.string .empty, .string .empty] 67) := by rw [hB.block w.heap.size (by omega)]; exact heap_alloc_new w _
    have f0 : wr.frozen? ⟨w.heap.size, 0, none⟩ = false := by simp [World.frozen?, kf]
    have f1 : wr.frozen? ⟨w.heap.size, 1, none⟩ = false := by simp [World.frozen?, kf]
    have hz := hB.size
    have hz : w.heap.size + 1 ≤ wr.heap.size := by simpa using hz
    clear kf
    by_cases hp : 0 < m
    · have i1 : (0 : Int) < (m : Int) := by omega
      have HB := hide hB
      have HS := hide hs
      have hu : (((65 + m % 26).toUInt8).toNat : Int) = 65 + (m : Int) % 26 := by
        have : ((65 + m % 26).toUInt8).toNat = 65 + m % 26 := by rw [Nat.toUInt8, UInt8.toNat_ofNat']; omega
        rw [this]; omega
      have hconv := run_convert_bytes_back (P := Tryz.prog) (wr.alloc (.cells #[.int .u8 (65 + (m : Int) % 26)] 5)) 177 9 5 ⟨wr.heap.size, 0, none⟩ 1 [(65 + m % 26).toUInt8] Tryz.underlying177 Tryz.underlying5 Tryz.underlying9 (fun j hj => by
        have hj0 : j = 0 := by simpa using hj
        subst hj0
        simp only [List.getElem_cons_zero, hu]
        rw [addr_add, cell_new rfl]; rfl)
      have hs9 : s.size + 1 ≤ 2000000000 := by omega
      have HSZ : Hid ((s ++ ⟨#[(65 + m % 26).toUInt8]⟩).size = s.size + 1) := by unfold Hid; rw [ByteArray.size_append]; rfl
      have HSN : Hid (lettersOn (s ++ ⟨#[(65 + m % 26).toUInt8]⟩) (m / 26) = mkTxt n) := by unfold Hid; rw [← HS.out, lettersOn.eq_1 s m, dif_neg (by omega)]
      generalize (65 + m % 26).toUInt8 = b at *
      simp only [List.length_cons, List.length_nil, Nat.zero_add] at hconv
      clear hB hs hu
      go_wp2
      go_roundw
      case rel =>
        refine ⟨m / 26, _, by omega, by go_num, rfl, ?_, ?_, HB.out.alloc (by omega) _⟩
        · exact HSN.out
        · rw [HSZ.out]; omega
      case measure => simp [intOf]; omega
    · have hm0 : m = 0 := by omega
      have HS : Hid (s = mkTxt n) := by unfold Hid; rw [← hs, hm0, lettersOn.eq_1, dif_pos rfl]
      have HB := hide hB
      clear hs hB
      have r0 : (wr.setCell ⟨w.heap.size, 0, none⟩ (.string s)).cell? ⟨w.heap.size, 0, none⟩ = some (.string s) := World.cell?_setCell_same _ _ _ k0
      have r1 : ((wr.setCell ⟨w.heap.size, 0, none⟩ (.string s)).setCell ⟨w.heap.size, 1, none⟩ (.string ⟨#[120]⟩)).cell? ⟨w.heap.size, 1, none⟩ = some (.string ⟨#[120]⟩) := World.cell?_setCell_same _ _ _ (by rw [World.cell?_setCell_other _ _ _ _ (by simp)]; exact k1)
      go_wp2
      refine bodyPost_ret (v := .agg #[.string s, .string ⟨#[120]⟩]) (by simp [results, Tryz.results51, go_sem, r0, r1]) rfl ⟨by rw [HS.out], ?_⟩
      refine Below.setCell (Below.setCell ?_ (by simp) _) (by simp) _
      exact ((Below.refl _ _).alloc (Nat.le_refl _) _).trans (HB.out.mono (by omega))
end Go.Proofs.YtmnjjjhmnhfapaaGreatDoor
namespace Go.Proofs.YtmnjjjhmnhfapaaGreatDoor
open Go.RowKit

theorem compareBytes_cmpB : ∀ (a b : List UInt8), Lib.compareBytes a b = Tm.cmpB a b
  | [], [] => rfl
  | [], _ :: _ => rfl
  | _ :: _, [] => rfl
  | a :: x, b :: y => by
    rw [Lib.compareBytes, compareBytes_cmpB x y]
    unfold Tm.cmpB
    conv => rhs; unfold Tm.lessB
    by_cases h1 : a < b
    · simp [h1]
    · by_cases h2 : b < a
      · simp [h1, h2]
      · simp [h1, h2]
theorem run_cmpStr (a b : ByteArray) (w : World) : (callFunc 185 #[.string a, .string b]).run Tryz.prog w = .ok (.value (.int .i64 (Tm.cmpB a.data.toList b.data.toList))) w := by
  rw [run_callFunc_extern Tryz.func185 (by kernel_rfl) (by kernel_rfl) (by kernel_rfl) (show Extern.find _ = some Extern.BytealgCompare.compare by kernel_rfl), Lib.run_compareString, compareBytes_cmpB]
  simp
set_option maxRecDepth 100000 in
theorem CompareString_any (a b : ByteArray) (w : World) : Calls Tryz.prog 173 #[.string a, .string b] w fun e w' => e = .returned (.int .i64 (Tm.cmpB a.data.toList b.data.toList)) ∧ w' = w := by
  have h := run_cmpStr a b w
  go_enter Tryz.func173, Tryz.ntmps173
  go_wp2
  go_ret
  exact ⟨rfl, rfl⟩
set_option maxRecDepth 100000 in
theorem strCompare_any (a b : ByteArray) (w : World) : Calls Tryz.prog 150 #[.string a, .string b] w fun e w' => e = .returned (.int .i64 (Tm.cmpB a.data.toList b.data.toList)) ∧ w' = w := by
  go_enter Tryz.func150, Tryz.ntmps150
  go_wp2_with fail
  refine (CompareString_any a b _).mono ?_
  rintro e w' ⟨rfl, rfl⟩
  go_wp2
  go_ret
  exact ⟨rfl, rfl⟩
set_option maxRecDepth 100000 in
set_option maxHeartbeats 1000000 in
theorem verCompare_any (b : Nat) (p q : ByteArray) (w : World) (h0 : w.cell? ⟨b, 0, none⟩ = some (.string p)) : Calls Tryz.prog 111 #[.pointer (some ⟨b, 0, none⟩), .string q] w fun e w' => e = .returned (.int .i64 (Tm.cmpB p.data.toList q.data.toList)) ∧ Below w.heap.size w w' := by
  go_enter Tryz.func111, Tryz.ntmps111
  go_wp2_with fail
  refine (strCompare_any p q _).mono ?_
  rintro e w' ⟨rfl, rfl⟩
  go_wp2
  go_ret
  exact ⟨rfl, Below.refl _ _⟩

/-- The order of the bytes is that of the keys. -/
def Keyed (K : ByteArray → ByteArray) (c : ByteArray → ByteArray → Int) : Prop := ∀ a b, Tm.cmpB (K a).data.toList (K b).data.toList = c a b
theorem keyed_place {lns : List Tm.Ln} (hf : ∀ o ∈ lns, Tm.Fit o) {st : Int} {sh : Bool} (hst : 1 ≤ st ∧ st ≤ 4) : Keyed (placeOf lns st sh) (cmpOf lns st sh) := fun a b => by
  have := key_cmp hf (sh := sh) hst a b
  simpa [placeOf] using this

set_option maxRecDepth 100000 in
set_option maxHeartbeats 4000000 in
theorem Search_any (K : ByteArray → ByteArray) (c : ByteArray → ByteArray → Int) (hK : Keyed K c) (hT : Tm.Told c) (es : Tm.Vers) (hr : Tm.Rises (Tm.ByKey c) (Tm.entsOf es)) (B : Nat → Nat) (v : Value) (k : ByteArray) (w : World) (hrd : VRow w K B v es) (hl : es.length ≤ 1000) :
    Calls Tryz.prog 110 #[v, .string (K k), .func (.func 111) #[] #[]] w fun e w' => e = .returned (.tuple #[.int .i64 (Tm.below c (Tm.entsOf es) k : Nat), .bool (Tm.ixHas c (Tm.entsOf es) k)]) ∧ Below w.heap.size w w' := by
  obtain ⟨a, cap, rfl⟩ := hrd.reads.shape
  have HRD := hide hrd
  have HK := hide hK
  have HB : Hid (∀ i (hi : i < es.length), c es[i].2.1 k < 0 ↔ i < Tm.below c (Tm.entsOf es) k) := fun i hi => by
    have := Tm.below_at hT (k := k) hr (by rw [Tm.entsOf_length]; exact hi)
    rwa [Tm.entsOf_get hi] at this
  have HH : Hid (Tm.ixHas c (Tm.entsOf es) k = true ↔ ∃ hi : Tm.below c (Tm.entsOf es) k < es.length, c (es[Tm.below c (Tm.entsOf es) k]).2.1 k = 0) := by
    unfold Hid
    rw [Tm.ixHas_at hT (k := k) hr]
    constructor
    · rintro ⟨h1, h2⟩
      rw [Tm.entsOf_length] at h1
      rw [Tm.entsOf_get h1] at h2
      exact ⟨h1, h2⟩
    · rintro ⟨h1, h2⟩
      refine ⟨by rw [Tm.entsOf_length]; exact h1, ?_⟩
      rw [Tm.entsOf_get h1]; exact h2
  have hle := Tm.below_le c (Tm.entsOf es) k
  rw [Tm.entsOf_length] at hle
  obtain ⟨b, hb⟩ : ∃ b, Tm.below c (Tm.entsOf es) k = b := ⟨_, rfl⟩
  obtain ⟨has, hhas⟩ : ∃ has, Tm.ixHas c (Tm.entsOf es) k = has := ⟨_, rfl⟩
  rw [hb] at HB hle ⊢
  rw [hhas] at HH ⊢
  have HBE := hide hb
  obtain ⟨n, hn⟩ : ∃ n, es.length = n := ⟨_, rfl⟩
  have HN := hide hn
  rw [hn] at hl hle
  have HRN : Hid (∀ wr, Below w.heap.size w wr → VRow wr K B (.slice a n cap) es) := fun wr hb => by have := hrd.below hb; rwa [hn] at this
  rw [hn]
  clear hrd hK hT hr hn hb hhas HRD
  go_enter Tryz.func110, Tryz.ntmps110
  go_wp2_with fail
  go_loopg [9, 10] n (fun kx s9 s10 wr => ∃ lo hi : Nat, s9 = .int .i64 lo ∧ s10 = .int .i64 hi ∧ lo ≤ b ∧ b ≤ hi ∧ hi ≤ n ∧ hi - lo ≤ kx ∧ Hid (Below w.heap.size w wr))
  case atStart => exact ⟨0, n, rfl, rfl, Nat.zero_le _, hle, Nat.le_refl _, by omega, Below.refl _ _⟩
  case round =>
    obtain ⟨lo, hi, rfl, rfl, hlb, hbh, hin, hg, HW⟩ := hrel
    by_cases hlt : lo < hi
    · have hm : (lo + hi) / 2 < es.length := by rw [HN.out]; omega
      obtain ⟨g, off, rfl, hgl, c0, hva⟩ := (HRN.out wr HW.out).get hm
      have HC := hide (HK.out es[(lo + hi) / 2].2.1 k)
      have HBA := hide (HB.out _ hm)
      have HVA := hide hva
      generalize es[(lo + hi) / 2] = y at *
      have i1 : (0 : Int) ≤ ((lo : Int) + (hi : Int)) / 2 := by omega
      have i2 : ((lo : Int) + (hi : Int)) / 2 < (n : Int) := by omega
      have i3 : (((lo : Int) + (hi : Int)) / 2).toNat = (lo + hi) / 2 := by omega
      clear hva
      go_wp2_with fail
      refine (verCompare_any (B y.1) (K y.2.1) (K k) _ HVA.out.2.1).mono ?_
      rintro e w1 ⟨rfl, hb1⟩
      rw [HC.out]
      have HW1 := hide (HW.out.trans (hb1.mono HW.out.size))
      clear hb1
      by_cases hy : c y.2.1 k < 0
      · have hlt2 := HBA.out.1 hy
        go_wp2
        go_roundg (hi - ((lo + hi) / 2 + 1))
        case measure => omega
        case rel => exact ⟨(lo + hi) / 2 + 1, hi, by rw [show ((lo : Int) + (hi : Int)) / 2 + 1 = (((lo + hi) / 2 + 1 : Nat) : Int) by omega], rfl, by omega, hbh, hin, Nat.le_refl _, HW1.out⟩
      · have hge : ¬ (lo + hi) / 2 < b := fun h => hy (HBA.out.2 h)
        go_wp2
        go_roundg ((lo + hi) / 2 - lo)
        case measure => omega
        case rel => exact ⟨lo, (lo + hi) / 2, rfl, by rw [show ((lo : Int) + (hi : Int)) / 2 = (((lo + hi) / 2 : Nat) : Int) by omega], hlb, by omega, by omega, Nat.le_refl _, HW1.out⟩
    · have e1 : hi = b := by omega
      have e2 : lo = b := by omega
      subst e1
      subst e2
      by_cases hlt2 : lo < n
      · have hm : lo < es.length := by rw [HN.out]; omega
        obtain ⟨g, off, rfl, hgl, c0, hva⟩ := (HRN.out wr HW.out).get hm
        have HC := hide (HK.out es[lo].2.1 k)
        have HHA : Hid (has = decide (c es[lo].2.1 k = 0)) := by
          unfold Hid
          rw [Bool.eq_iff_iff, HH.out, decide_eq_true_eq]
          constructor
          · rintro ⟨h1, h2⟩
            have := HBE.out
            subst this
            exact h2
          · intro h2
            have := HBE.out
            subst this
            exact ⟨hm, h2⟩
        have HVA := hide hva
        generalize es[lo] = y at *
        have i1 : (0 : Int) ≤ (lo : Int) := by omega
        have i2 : (lo : Int) < (n : Int) := by omega
        clear hva
        go_wp2_with fail
        refine (verCompare_any (B y.1) (K y.2.1) (K k) _ HVA.out.2.1).mono ?_
        rintro e w1 ⟨rfl, hb1⟩
        rw [HC.out]
        have HW1 := hide (HW.out.trans (hb1.mono HW.out.size))
        clear hb1
        go_wp2
        go_ret2
        exact ⟨by rw [HHA.out]; simp; rfl, HW1.out⟩
      · have HHA : Hid (has = false) := by
          unfold Hid
          rw [Bool.eq_false_iff]
          intro h
          obtain ⟨h1, _⟩ := HH.out.1 h
          rw [HBE.out, HN.out] at h1
          omega
        go_wp2
        go_ret2
        exact ⟨by rw [HHA.out]; rfl, HW.out⟩
set_option maxRecDepth 100000 in
set_option maxHeartbeats 1000000 in
theorem find_any (K : ByteArray → ByteArray) (c : ByteArray → ByteArray → Int) (hK : Keyed K c) (hT : Tm.Told c) (es : Tm.Vers) (hr : Tm.Rises (Tm.ByKey c) (Tm.entsOf es)) (B : Nat → Nat) (v : Value) (k : ByteArray) (w : World) (hrd : VRow w K B v es) (hl : es.length ≤ 1000) :
    Calls Tryz.prog 66 #[v, .string (K k)] w fun e w' => e = .returned (.tuple #[.int .i64 (Tm.below c (Tm.entsOf es) k : Nat), .bool (Tm.ixHas c (Tm.entsOf es) k)]) ∧ Below w.heap.size w w' := by
  obtain ⟨a, cap, rfl⟩ := hrd.reads.shape
  have HRD := hide hrd
  clear hrd
  go_enter Tryz.func66, Tryz.ntmps66
  go_wp2_with fail
  refine (Search_any K c hK hT es hr B _ k _ HRD.out hl).mono ?_
  rintro e w1 ⟨rfl, hb1⟩
  have HB1 := hide hb1
  clear hb1
  go_wp2
  go_ret2
  exact ⟨rfl, HB1.out⟩
set_option maxRecDepth 100000 in
set_option maxHeartbeats 1000000 in
theorem countBelow_any (K : ByteArray → ByteArray) (c : ByteArray → ByteArray → Int) (hK : Keyed K c) (hT : Tm.Told c) (es : Tm.Vers) (hr : Tm.Rises (Tm.ByKey c) (Tm.entsOf es)) (B : Nat → Nat) (v : Value) (k : ByteArray) (w : World) (hrd : VRow w K B v es) (hl : es.length ≤ 1000) :
    Calls Tryz.prog 108 #[v, .string (K k)] w fun e w' => e = .returned (.int .i64 (Tm.below c (Tm.entsOf es) k : Nat)) ∧ Below w.heap.size w w' := by
  obtain ⟨a, cap, rfl⟩ := hrd.reads.shape
  have HRD := hide hrd
  clear hrd
  go_enter Tryz.func108, Tryz.ntmps108
  go_wp2_with fail
  refine (find_any K c hK hT es hr B _ k _ HRD.out hl).mono ?_
  rintro e w1 ⟨rfl, hb1⟩
  have HB1 := hide hb1
  clear hb1
  go_wp2
  go_ret
  exact ⟨rfl, HB1.out⟩
end Go.Proofs.YtmnjjjhmnhfapaaGreatDoor
namespace Go.Proofs.YtmnjjjhmnhfapaaGreatDoor
open Go.RowKit

/-- The list of now has turned: only the index's own block and the row of now were written; N: new blocks that are never written any more. -/
theorem Ix.turn {w w' : World} {X : Nat} {S F : Nat → Prop} {bx bc : Nat} {st : Int} {sh : Bool} {lns : List Tm.Ln} {s : IxSt} {B : Nat → Nat} {V : Nat → Value} {v h v' : Value} (hx : Ix w X S bx bc st sh lns s) (hi : IxIn w X S F bx (placeOf lns st sh) s B V v h)
    (hf : Foot (fun i => i = bx ∨ v.ownBlock = some i) w w') (hc0 : w'.cell? ⟨bx, 0, none⟩ = w.cell? ⟨bx, 0, none⟩) (hc1 : w'.cell? ⟨bx, 1, none⟩ = some v') (hc2 : w'.cell? ⟨bx, 2, none⟩ = w.cell? ⟨bx, 2, none⟩) (hc3 : w'.cell? ⟨bx, 3, none⟩ = w.cell? ⟨bx, 3, none⟩) (hfr : ∀ o, w'.frozen? ⟨bx, o, none⟩ = w.frozen? ⟨bx, o, none⟩)
    (l : Tm.Vers) (M : Nat) (B' : Nat → Nat) (N : Nat → Prop) (hB : ∀ n, n < s.next → B' n = B n) (hown : w'.ownsRow X 138 1 v' l.length (ptrs B' l))
    (hat : ∀ g, v'.ownBlock = some g → v.ownBlock = some g ∨ (w.heap.size ≤ g ∧ ¬ N g)) (hN : ∀ i, N i → w.heap.size ≤ i ∧ i < w'.heap.size) (hnew : ∀ x ∈ l, x ∈ s.now ∨ (N (B' x.1) ∧ VerAt w' (placeOf lns st sh) B' x ∧ x.1 = s.next))
    (hok : StOk (cmpOf lns st sh) { s with now := l, next := M }) : IxStep w w' X S bx bc st sh lns { s with now := l, next := M } := by
  have hl := (hx.from_ bx hx.own).2
  have hfix := hi.fixed hf (fun i e => by
    rintro (e' | e')
    · exact (hi.fS i e).2 e'
    · exact (hi.vS i e').2.2.2 e)
  have hlt : ∀ i, S i → i < w.heap.size := fun i e => (hx.from_ i e).2
  have hold : ∀ x ∈ allVers s, B' x.1 = B x.1 := fun x e => hB _ (hx.ok.less x e)
  have hall : ∀ x ∈ allVers { s with now := l, next := M }, x ∈ allVers s ∨ (N (B' x.1) ∧ VerAt w' (placeOf lns st sh) B' x ∧ x.1 = s.next) := fun x e => by
    rcases mem_all e with e | ⟨g, hg, e⟩
    · rcases hnew x e with e2 | e2
      · exact .inl (mem_now e2)
      · exact .inr e2
    · exact .inl (mem_held (s := s) hg e)
  have hneb : ∀ g, v'.ownBlock = some g → g ≠ bx := fun g e => by
    rcases hat g e with e1 | e1
    · exact (hi.vS g e1).2.1
    · rintro rfl; omega
  refine ⟨fun i => S i ∨ v'.ownBlock = some i ∨ N i, ⟨fun i e => ?_, .inl hx.own, by rw [hc0]; exact hx.c0, by rw [hc3]; exact hx.c3, fun o => by rw [hfr]; exact hx.free o, ⟨fun i => F i ∨ N i, B', V, v', h, hc1, by rw [hc2]; exact hi.c2, hown, ?_, fun g e => ?_, fun g e => ?_, fun i e => ?_, fun x e => ?_, fun x ex y ey e => ?_, fun g hg => ?_⟩, hok⟩, hf.mono (fun i e => ?_), fun i e => ?_⟩
  · rcases e with e | e | e
    · exact ⟨(hx.from_ i e).1, Nat.lt_of_lt_of_le (hx.from_ i e).2 hf.size⟩
    · exact hown.lt i e
    · exact ⟨Nat.le_trans (Nat.le_of_lt (Nat.lt_of_le_of_lt (hx.from_ bx hx.own).1 hl)) (hN i e).1, (hN i e).2⟩
  · exact hf.owns hi.held (fun b e => by
      rintro (e' | e')
      · exact (hi.hS b e).2.1 e'
      · exact (hi.vS b e').2.2.1 e)
  · refine ⟨.inr (.inl e), hneb g e, fun e2 => ?_, ?_⟩
    · rcases hat g e with e1 | e1
      · exact (hi.vS g e1).2.2.1 e2
      · have := hlt g (hi.hS g e2).1; omega
    · rcases hat g e with e1 | e1
      · rintro (e3 | e3)
        · exact (hi.vS g e1).2.2.2 e3
        · have := hlt g (hi.vS g e1).1; have := (hN g e3).1; omega
      · rintro (e3 | e3)
        · have := hlt g (hi.fS g e3).1; omega
        · exact e1.2 e3
  · refine ⟨.inl (hi.hS g e).1, (hi.hS g e).2.1, ?_⟩
    rintro (e3 | e3)
    · exact (hi.hS g e).2.2 e3
    · have := hlt g (hi.hS g e).1; have := (hN g e3).1; omega
  · rcases e with e | e
    · exact ⟨.inl (hi.fS i e).1, (hi.fS i e).2⟩
    · exact ⟨.inr (.inr e), by rintro rfl; have := (hN i e).1; omega⟩
  · rcases hall x e with e1 | ⟨e1, e2, _⟩
    · rw [hold x e1]
      exact ⟨.inl (hfix.1 x e1).1, (hfix.1 x e1).2.of_block (Nat.le_refl _) rfl (hold x e1)⟩
    · exact ⟨.inr e1, e2⟩
  · rcases hall x ex with a1 | ⟨a1, a2, a3⟩ <;> rcases hall y ey with b1 | ⟨b1, b2, b3⟩
    · rw [hold x a1, hold y b1] at e
      exact hi.inj x a1 y b1 e
    · rw [hold x a1] at e
      have := hlt _ (hi.fS _ (hi.vers x a1).1).1
      have := (hN _ b1).1
      omega
    · rw [hold y b1] at e
      have := hlt _ (hi.fS _ (hi.vers y b1).1).1
      have := (hN _ a1).1
      omega
    · omega
  · have h1 := hfix.2 g hg
    refine ⟨?_, fun b e => .inl (h1.2 b e)⟩
    rw [ptrs_congr (fun x hx' => hold x (mem_held hg hx'))]
    exact h1.1
  · rcases e with rfl | e
    · exact hx.own
    · exact (hi.vS i e).1
  · rcases e with e | e | e
    · exact .inl e
    · rcases hat i e with e1 | e1
      · exact .inl (hi.vS i e1).1
      · exact .inr e1.1
    · exact .inr (hN i e).1
/-- The list of snapshots has turned: only the index's own block and the row of snapshots were written; N: new blocks that are never written any more. -/
theorem Ix.turnHeld {w w' : World} {X : Nat} {S F : Nat → Prop} {bx bc : Nat} {st : Int} {sh : Bool} {lns : List Tm.Ln} {s : IxSt} {B : Nat → Nat} {V : Nat → Value} {v h h' : Value} (hx : Ix w X S bx bc st sh lns s) (hi : IxIn w X S F bx (placeOf lns st sh) s B V v h)
    (held : List (Nat × Tm.Vers)) (given : Nat) (hf : Foot (fun i => i = bx ∨ h.ownBlock = some i) w w') (hc0 : w'.cell? ⟨bx, 0, none⟩ = w.cell? ⟨bx, 0, none⟩) (hc1 : w'.cell? ⟨bx, 1, none⟩ = w.cell? ⟨bx, 1, none⟩) (hc2 : w'.cell? ⟨bx, 2, none⟩ = some h') (hc3 : w'.cell? ⟨bx, 3, none⟩ = some (.int .i64 given)) (hfr : ∀ o, w'.frozen? ⟨bx, o, none⟩ = w.frozen? ⟨bx, o, none⟩)
    (V' : Nat → Value) (N : Nat → Prop) (hown : w'.ownsRow X 142 2 h' held.length (snapCells V' held))
    (hat : ∀ g, h'.ownBlock = some g → h.ownBlock = some g ∨ (w.heap.size ≤ g ∧ ¬ N g)) (hN : ∀ i, N i → w.heap.size ≤ i ∧ i < w'.heap.size)
    (hrow : ∀ g ∈ held, (g ∈ s.held ∧ V' g.1 = V g.1) ∨ (g.2 = s.now ∧ w'.ownsRow X 138 1 (V' g.1) g.2.length (ptrs B g.2) ∧ ∀ b, (V' g.1).ownBlock = some b → N b))
    (hok : StOk (cmpOf lns st sh) { s with held := held, given := given }) : IxStep w w' X S bx bc st sh lns { s with held := held, given := given } := by
  have hl := (hx.from_ bx hx.own).2
  have hfix := hi.fixed hf (fun i e => by
    rintro (e' | e')
    · exact (hi.fS i e).2 e'
    · exact (hi.hS i e').2.2 e)
  have hlt : ∀ i, S i → i < w.heap.size := fun i e => (hx.from_ i e).2
  have hall : ∀ x ∈ allVers { s with held := held, given := given }, x ∈ allVers s := fun x e => by
    rcases mem_all e with e | ⟨g, hg, e⟩
    · exact mem_now e
    · rcases hrow g hg with ⟨h1, _⟩ | ⟨h1, _⟩
      · exact mem_held h1 e
      · rw [h1] at e; exact mem_now e
  refine ⟨fun i => S i ∨ h'.ownBlock = some i ∨ N i, ⟨fun i e => ?_, .inl hx.own, by rw [hc0]; exact hx.c0, hc3, fun o => by rw [hfr]; exact hx.free o, ⟨fun i => F i ∨ N i, B, V', v, h', by rw [hc1]; exact hi.c1, hc2, ?_, hown, fun g e => ?_, fun g e => ?_, fun i e => ?_, fun x e => ?_, fun x ex y ey e => ?_, fun g hg => ?_⟩, hok⟩, hf.mono (fun i e => ?_), fun i e => ?_⟩
  · rcases e with e | e | e
    · exact ⟨(hx.from_ i e).1, Nat.lt_of_lt_of_le (hx.from_ i e).2 hf.size⟩
    · exact hown.lt i e
    · exact ⟨Nat.le_trans (Nat.le_of_lt (Nat.lt_of_le_of_lt (hx.from_ bx hx.own).1 hl)) (hN i e).1, (hN i e).2⟩
  · exact hf.owns hi.now (fun b e => by
      rintro (e' | e')
      · exact (hi.vS b e).2.1 e'
      · exact (hi.vS b e).2.2.1 e')
  · have hg := hi.vS g e
    refine ⟨.inl hg.1, hg.2.1, fun e2 => ?_, ?_⟩
    · rcases hat g e2 with e1 | e1
      · exact hg.2.2.1 e1
      · have := hlt g hg.1; omega
    · rintro (e3 | e3)
      · exact hg.2.2.2 e3
      · have := hlt g hg.1; have := (hN g e3).1; omega
  · rcases hat g e with e1 | e1
    · refine ⟨.inl (hi.hS g e1).1, (hi.hS g e1).2.1, ?_⟩
      rintro (e3 | e3)
      · exact (hi.hS g e1).2.2 e3
      · have := hlt g (hi.hS g e1).1; have := (hN g e3).1; omega
    · refine ⟨.inr (.inl e), by rintro rfl; omega, ?_⟩
      rintro (e3 | e3)
      · have := hlt g (hi.fS g e3).1; omega
      · exact e1.2 e3
  · rcases e with e | e
    · exact ⟨.inl (hi.fS i e).1, (hi.fS i e).2⟩
    · exact ⟨.inr (.inr e), by rintro rfl; have := (hN i e).1; omega⟩
  · exact ⟨.inl (hfix.1 x (hall x e)).1, (hfix.1 x (hall x e)).2⟩
  · exact hi.inj x (hall x ex) y (hall y ey) e
  · rcases hrow g hg with ⟨h1, h2⟩ | ⟨_, h2, h3⟩
    · rw [h2]
      exact ⟨(hfix.2 g h1).1, fun b e => .inl ((hfix.2 g h1).2 b e)⟩
    · exact ⟨h2, fun b e => .inr (h3 b e)⟩
  · rcases e with rfl | e
    · exact hx.own
    · exact (hi.hS i e).1
  · rcases e with e | e | e
    · exact .inl e
    · rcases hat i e with e1 | e1
      · exact .inl (hi.hS i e1).1
      · exact .inr e1.1
    · exact .inr (hN i e).1
end Go.Proofs.YtmnjjjhmnhfapaaGreatDoor
namespace Go.Proofs.YtmnjjjhmnhfapaaGreatDoor

namespace Tm
/-- A row shifted up from a on, and the gap filled. -/
theorem over_shift {α : Type} {L xs news : List α} {a n m : Nat} (hx : L.take n = xs) (hxl : xs.length = n) (ha : a ≤ n) (hnl : news.length = m) (hL : n + m ≤ L.length) :
    (((L.take (a + m) ++ xs.drop a ++ L.drop (a + m + (xs.drop a).length)).take a) ++ news ++ ((L.take (a + m) ++ xs.drop a ++ L.drop (a + m + (xs.drop a).length)).drop (a + news.length))).take (n + m) = xs.take a ++ news ++ xs.drop a := by
  have h1 : (L.take (a + m)).length = a + m := by rw [List.length_take]; omega
  have h2 : (L.take (a + m) ++ xs.drop a ++ L.drop (a + m + (xs.drop a).length)).take a = xs.take a := by
    rw [List.append_assoc, List.take_append_of_le_length (by omega), List.take_take, Nat.min_eq_left (by omega), ← hx, List.take_take, Nat.min_eq_left ha]
  have h3 : (L.take (a + m) ++ xs.drop a ++ L.drop (a + m + (xs.drop a).length)).drop (a + news.length) = xs.drop a ++ L.drop (a + m + (xs.drop a).length) := by
    rw [List.append_assoc, hnl]
    exact List.drop_left' h1
  rw [h2, h3, ← List.append_assoc]
  exact List.take_left' (by simp; omega)
/-- A new row: what stood ahead of a, then the new, then what stood from a on. -/
theorem over_grow {α : Type} {L xs news Z : List α} {a n m : Nat} (hL : L = xs.take a ++ Z) (hxl : xs.length = n) (ha : a ≤ n) (hnl : news.length = m) :
    (((L.take a ++ news ++ L.drop (a + news.length)).take (a + m)) ++ xs.drop a ++ ((L.take a ++ news ++ L.drop (a + news.length)).drop (a + m + (xs.drop a).length))).take (n + m) = xs.take a ++ news ++ xs.drop a := by
  have h0 : (xs.take a).length = a := by rw [List.length_take]; omega
  have h1 : L.take a = xs.take a := by rw [hL]; exact List.take_left' h0
  rw [h1]
  have h2 : (xs.take a ++ news ++ L.drop (a + news.length)).take (a + m) = xs.take a ++ news := List.take_left' (by rw [List.length_append, h0, hnl])
  rw [h2]
  refine List.take_left' ?_
  simp
  omega
/-- A row without one part of it. -/
theorem over_out {α : Type} {L xs : List α} {a n m : Nat} (hx : L.take n = xs) (hxl : xs.length = n) (ha : a + m ≤ n) (zs : List α) (hz : zs.length = m) :
    (((L.take a ++ xs.drop (a + m) ++ L.drop (a + (xs.drop (a + m)).length)).take (n - m)) ++ zs ++ ((L.take a ++ xs.drop (a + m) ++ L.drop (a + (xs.drop (a + m)).length)).drop (n - m + zs.length))).take (n - m) = xs.take a ++ xs.drop (a + m) := by
  have h1 : L.take a = xs.take a := by rw [← hx, List.take_take, Nat.min_eq_left (by omega)]
  have h2 : (L.take a ++ xs.drop (a + m) ++ L.drop (a + (xs.drop (a + m)).length)).take (n - m) = xs.take a ++ xs.drop (a + m) := by
    rw [h1]
    exact List.take_left' (by simp; omega)
  rw [h2, List.append_assoc]
  exact List.take_left' (by simp; omega)
/-- One cell written, then those behind it. -/
theorem over_cons {α : Type} {L : List α} {o : Nat} (v : α) (r : List α) (h : o + 1 + r.length ≤ L.length) : (L.set o v).take (o + 1) ++ r ++ (L.set o v).drop (o + 1 + r.length) = L.take o ++ v :: r ++ L.drop (o + (r.length + 1)) := by
  have h0 : (L.take o ++ [v]).length = o + 1 := by simp; omega
  rw [List.set_eq_take_append_cons_drop, if_pos (by omega), List.append_cons, List.take_left' h0]
  have h1 : (L.take o ++ [v] ++ L.drop (o + 1)).drop (o + 1 + r.length) = L.drop (o + (r.length + 1)) := by
    rw [show o + 1 + r.length = (L.take o ++ [v]).length + r.length by omega, ← List.drop_drop, List.drop_left, List.drop_drop]
    congr 1
    omega
  rw [h1]
  simp
end Tm
end Go.Proofs.YtmnjjjhmnhfapaaGreatDoor
/-
  Rows of more cells an element: copy, clear and append for the walk.
-/
namespace Go.Proofs.YtmnjjjhmnhfapaaGreatDoor
open Go.RowKit

theorem run_copy_rows {P : Program} (w : World) (dT sT ty elem : TypeId) (size b o dLen dCap : Nat) (a : Addr) (sLen sCap : Nat) (cs : List Value)
    (hu : P.underlying dT = some (.slice elem)) (hs : (P.info? elem).map (·.size) = some size) (hn : cs.length = Nat.min sLen dLen * size)
    (hsrc : ∀ j v, cs[j]? = some v → w.cell? (a.add j) = some v) (hc : ∀ j, j < cs.length → (w.cell? ⟨b, o + j, none⟩).isSome = true) (hf : ∀ j, j < cs.length → w.frozen? ⟨b, o + j, none⟩ = false) (h1 : ∀ v ∈ cs, v.oneCell' = true) :
    (Builtin.copy_ #[dT, sT] ty #[.slice (some ⟨b, o, none⟩) dLen dCap, .slice (some a) sLen sCap]).run P w = .ok (goInt (Nat.min sLen dLen)) (w.setCells b o cs) := by
  have hl := run_loadCells_list (P := P) w a cs hsrc
  have hst := run_storeCells_cells (P := P) b o cs 0 w (by simpa using hc) (by simpa using hf) h1
  cases hq : P.info? elem with
  | none => simp [hq] at hs
  | some i =>
    have hi : i.size = size := by simpa [hq] using hs
    simp [Builtin.copy_, run_underlying hu, Builtin.lenOf, Builtin.firstCells, sizeOf, typeInfo, hq, hi, ← hn, hl, hst]
theorem wpList_copy_row {P : Program} (w : World) {ops : Array Oper} {rest : List Oper} {o : Oper} {a : Act} {Q : Exit → Act → World → Prop} (hgd : o.guard = none) (d s : Operand) (t t' : TypeId)
    (ho : o.op = .call { callee := .builtin .copy, args := #[d, s], argTypes := #[t, t'] }) (v u : Value) (hd : a.eval d = v) (hs : a.eval s = u) {v' : Value} {w' : World}
    (hr : (Builtin.copy_ #[t, t'] o.type #[v, u]).run P w = .ok v' w') (h : wpList P ops Q rest (a.put o.dst v') w') : wpList P ops Q (o :: rest) a w :=
  wpList_plain hgd fun _ hK => by
    unfold Oper.wp execOp
    simp only [ho, resolve, invoke, builtin, Sem.run_bind, Sem.run_pure, Result.andThen_ok, List.map_toArray, List.map_cons, List.map_nil, hd, hs, hr]
    exact hK _ _ h
theorem step_copy_row {P : Program} {ops : Array Oper} {o : Oper} {a : Act} {w : World} {K : Act → World → Prop} {Q : Exit → Act → World → Prop} {E : Prop}
    (hg : o.guard = none) (d x : Operand) (dT sT : TypeId) (hop : o.op = Op.call { callee := Callee.builtin Builtin.copy, args := #[d, x], argTypes := #[dT, sT] })
    (v u : Value) (hd : a.eval d = v) (hx : a.eval x = u) {v' : Value} {w' : World} (hr : (Builtin.copy_ #[dT, sT] o.type #[v, u]).run P w = .ok v' w') (hK : K (a.put o.dst v') w') :
    if Region.wanted o (yielded ops a.tmps) = true then Oper.wp P o a w K Q else E := by
  have hw : Region.wanted o (yielded ops a.tmps) = true := by simp [Region.wanted, hg]
  rw [if_pos hw]
  unfold Oper.wp
  simp [execOp, hop, resolve, invoke, builtin, hd, hx, hr, Result.andThen]
  exact hK
theorem run_append_two {P : Program} (w : World) (t t' ty e e' : TypeId) (ht : P.underlying t = some (.slice e)) (ht' : P.underlying t' = some (.slice e')) (b : Option Addr) (n cap : Nat) (a : Option Addr) (m c : Nat) :
    (Builtin.append_ #[t, t'] ty #[.slice b n cap, .slice a m c]).run P w = (Builtin.append_ #[t, t] ty #[.slice b n cap, .slice a m c]).run P w := by
  simp [Builtin.append_, run_underlying ht, run_underlying ht']
/-- At the operation, for the walk: an append onto a row of one's own. -/
theorem wpList_append_row {P : Program} {w : World} {ops : Array Oper} {rest : List Oper} {o : Oper} {a : Act} {Q : Exit → Act → World → Prop} (hgd : o.guard = none) (s x : Operand) (t t' : TypeId)
    (ho : o.op = .call { callee := .builtin .append, args := #[s, x], argTypes := #[t, t'] })
    (base : Nat) (e e' : TypeId) (i : TypeInfo) (z : Value) (size bytes : Nat) (ht : P.underlying t = some (.slice e)) (ht' : P.underlying t' = some (.slice e')) (hi : P.info? e = some i) (hz : i.zero = some z)
    (hsize : i.size = size) (hby : i.bytes = bytes) (hzs : z.cells.size = size) (hsz : 0 < size)
    (v : Value) (n : Nat) (xs : List Value) (hs : a.eval s = v) (hown : w.ownsRow base e size v n xs)
    (ad : Addr) (m c : Nat) (news : List Value) (hx : a.eval x = .slice (some ad) m c) (hl : news.length = m * size) (hnews : ∀ j u, news[j]? = some u → w.cell? (ad.add j) = some u) (h1 : ∀ u ∈ news, u.oneCell' = true)
    (h63 : n + m ≤ maxLen) (hbytes : (n + m) * bytes ≤ 140737488355328) (hbase : base ≤ w.heap.size)
    (h : ∀ v' w', w'.ownsRow base e size v' (n + m) (xs ++ news) → w.grownBy w' v.ownBlock → (v'.ownBlock = v.ownBlock ∨ v'.ownBlock = some w.heap.size) → wpList P ops Q rest (a.put o.dst v') w') :
    wpList P ops Q (o :: rest) a w := by
  refine wpList_plain hgd fun K hK => ?_
  obtain ⟨v', w', hr, h2, h3, _, h5⟩ := run_append_own_at (P := P) w base t o.type e i z size bytes ht hi hz hsize hby hzs hsz v n xs hown ad m c news hl hnews h1 h63 hbytes hbase
  obtain ⟨vb, vc, rfl⟩ := (Reads.of_owns hown).shape
  rw [← run_append_two w t t' o.type e e' ht ht'] at hr
  unfold Oper.wp execOp
  simp only [ho, resolve, invoke, builtin, Sem.run_bind, Sem.run_pure, Result.andThen_ok, List.map_toArray, List.map_cons, List.map_nil, hs, hx, hr]
  exact hK _ _ (h v' w' h2 h3 h5)

/-- Cells of a block written over. -/
theorem heap_over {g : Nat} {e : TypeId} : ∀ (vs : List Value) (o : Nat) (cur : Array Value) (w : World), w.heap[g]? = some (.cells cur e) → o + vs.length ≤ cur.size →
    ∃ cur', (w.setCells g o vs).heap[g]? = some (.cells cur' e) ∧ cur'.size = cur.size ∧ cur'.toList = cur.toList.take o ++ vs ++ cur.toList.drop (o + vs.length)
  | [], o, cur, w, h, _ => ⟨cur, h, rfl, by simp⟩
  | v :: r, o, cur, w, h, hl => by
    have h1 : (w.setCell ⟨g, o, none⟩ v).heap[g]? = some (.cells (cur.setIfInBounds o v) e) := by simp only [World.setCell, Array.getElem?_modify, h]; rfl
    simp only [List.length_cons] at hl
    obtain ⟨cur', h2, h3, h4⟩ := heap_over r (o + 1) (cur.setIfInBounds o v) _ h1 (by simp; omega)
    refine ⟨cur', by rw [World.setCells]; exact h2, by rw [h3]; simp, ?_⟩
    rw [h4, Array.toList_setIfInBounds]
    exact Tm.over_cons v r (by simp; omega)
theorem isSome_over (b : Nat) (vs : List Value) (o : Nat) (w : World) (h : ∀ j, j < vs.length → (w.cell? ⟨b, o + j, none⟩).isSome = true) (k : Nat) (hk : (w.cell? ⟨b, k, none⟩).isSome = true) : ((w.setCells b o vs).cell? ⟨b, k, none⟩).isSome = true := by
  by_cases hin : o ≤ k ∧ k < o + vs.length
  · have := World.cell?_setCells_in b vs o w h (k - o) (by omega)
    rw [show o + (k - o) = k by omega] at this
    rw [this]; rfl
  · rw [World.cell?_setCells_out b vs o w ⟨b, k, none⟩ (fun _ _ => by show k < o ∨ o + vs.length ≤ k; omega)]
    exact hk
/-- What stands from a place on. -/
theorem Reads.from_ {w : World} {size g off n cap : Nat} {xs : List Value} (h : Reads w (.slice (some ⟨g, off, none⟩) n cap) size n xs) {j : Nat} (hj : j ≤ n) : Reads w (.slice (some ⟨g, off + j * size, none⟩) (n - j) (cap - j)) size (n - j) (xs.drop (j * size)) := by
  obtain ⟨h1, h2, a, c, he, ⟨h3, h4⟩, hc⟩ := h
  cases he
  refine ⟨?_, fun g' hg' => h2 g' (by simpa [Value.ownBlock] using hg'), _, _, rfl, ⟨by omega, by omega⟩, fun t u hu => ⟨g, off + j * size, rfl, ?_⟩⟩
  · rw [List.length_drop, h1, Nat.sub_mul]
  · rw [List.getElem?_drop] at hu
    obtain ⟨g', off', he', hx⟩ := hc _ u hu
    cases he'
    rw [Nat.add_assoc]; exact hx
/-- What stands ahead of a place. -/
theorem Reads.upTo {w : World} {size n cap : Nat} {a : Option Addr} {xs : List Value} (h : Reads w (.slice a n cap) size n xs) {j : Nat} (hj : j ≤ n) : Reads w (.slice a j cap) size j (xs.take (j * size)) := by
  obtain ⟨h1, h2, a', c, he, ⟨h3, h4⟩, hc⟩ := h
  cases he
  refine ⟨?_, fun g' hg' => h2 g' (by cases a with
    | none => simp [Value.ownBlock] at hg'
    | some ad => simpa [Value.ownBlock] using hg'), _, _, rfl, ⟨by omega, by omega⟩, fun t u hu => ?_⟩
  · rw [List.length_take, h1]
    have := Nat.mul_le_mul_right size hj
    omega
  · rw [List.getElem?_take] at hu
    split at hu
    · exact hc t u hu
    · cases hu
/-- A slice that has nothing in it. -/
theorem Reads.none_ {w : World} {size g off cap : Nat} (hg : g < w.heap.size) (hc : cap ≤ maxLen) : Reads w (.slice (some ⟨g, off, none⟩) 0 cap) size 0 [] :=
  ⟨by simp, fun g' hg' => by simp [Value.ownBlock] at hg'; omega, _, _, rfl, ⟨Nat.zero_le _, hc⟩, fun j u hu => by simp at hu⟩
end Go.Proofs.YtmnjjjhmnhfapaaGreatDoor
