import Derived.Deep.LoopGhost
import Derived.Laws.IdiomCopy
import Derived.Test.YtmnjjjhmnhfapaaGreatDoorMCodeApi
import Derived.Test.YtmnjjjhmnhfapaaGreatDoorMCodeNew
import Derived.Test.YtmnjjjhmnhfapaaGreatDoorMCodeNormal
namespace Go.Proofs.YtmnjjjhmnhfapaaGreatDoor
open Go.RowKit
namespace Tm
theorem ends_all {lns : List Ln} (h : (together lns).2 = 0) (r : Int) : ends lns 4 r = true := by
 by_cases h0 : (parts lns r).length = 0
 ·exact ends_leaf h0
 unfold parts at h0
 cases hf : lns.find? (isParts r) with
 | none => rw [hf] at h0; simp at h0
 | some o =>
  have hm := List.mem_of_find?_eq_some hf
  have hp := List.find?_some hf
  simp only [isParts, Bool.and_eq_true, decide_eq_true_eq, beq_iff_eq] at hp
  have hb : lns.find? (badLoop lns) = none := by
   cases hb : lns.find? (badLoop lns) with
   | none => rfl
   | some q => unfold together at h; rw [hb] at h; simp at h
  have h1 := List.find?_eq_none.1 hb o hm
  rw [badLoop_ends, hp.1, hp.2] at h1
  simpa using h1
theorem leaf_of {lns : List Ln} {l : List Int} (h : hasParts lns l = false) {x : Int} (hx : x ∈ l) : (parts lns x).length = 0 := by
 unfold hasParts at h
 have := (List.any_eq_false.1 h) x hx
 simpa using this
theorem step_stop {lns : List Ln} : ∀ {l : List Int}, hasParts lns l = false → stepAll lns l = l
 | [], _ => rfl
 | x :: r, h => by
  have h0 := leaf_of h (List.mem_cons_self)
  have hr : hasParts lns r = false := by unfold hasParts at h ⊢; simp only [List.any_cons, Bool.or_eq_false_iff] at h; exact h.2
  have ih := step_stop hr
  unfold stepAll at ih ⊢
  rw [List.flatMap_cons, ih, step1, if_pos h0]; rfl
theorem flat_leaf {lns : List Ln} {n : Nat} : ∀ {l : List Int}, hasParts lns l = false → l.flatMap (expand lns n) = l
 | [], _ => rfl
 | x :: r, h => by
  have h0 := leaf_of h (List.mem_cons_self)
  have hr : hasParts lns r = false := by unfold hasParts at h ⊢; simp only [List.any_cons, Bool.or_eq_false_iff] at h; exact h.2
  rw [List.flatMap_cons, flat_leaf hr, expand_leaf h0]; rfl
theorem ends_zero {lns : List Ln} {l : List Int} (h : l.all (ends lns 0) = true) : hasParts lns l = false := by
 unfold hasParts
 rw [List.any_eq_false]
 intro x hx
 have := (List.all_eq_true.1 h) x hx
 simpa [ends] using this
theorem step_down {lns : List Ln} {n : Nat} : ∀ {l : List Int}, l.all (ends lns (n + 1)) = true → (stepAll lns l).all (ends lns n) = true ∧ (stepAll lns l).flatMap (expand lns n) = l.flatMap (expand lns (n + 1))
 | [], _ => ⟨rfl, rfl⟩
 | x :: r, h => by
  simp only [List.all_cons, Bool.and_eq_true] at h
  have ih := step_down h.2
  unfold stepAll at ih ⊢
  rw [List.flatMap_cons, List.all_append, List.flatMap_append, List.flatMap_cons, ih.1, ih.2]
  by_cases h0 : (parts lns x).length = 0
  ·rw [step1, if_pos h0]
   have e := ends_leaf (n := n) h0
   refine ⟨by simp [e], ?_⟩
   rw [expand_leaf (n := n + 1) h0]
   simp [expand_leaf (n := n) h0]
  ·rw [step1, if_neg h0]
   have h1 := h.1
   rw [ends] at h1
   have h2 : (parts lns x).all (ends lns n) = true := by simpa [h0] using h1
   refine ⟨by rw [h2]; rfl, ?_⟩
   rw [expand_part h0]
theorem expand_pos {lns : List Ln} : ∀ (n : Nat) (x : Int), 1 ≤ (expand lns n x).length
 | 0, x => Nat.le_refl _
 | n + 1, x => by
  rw [expand]
  split
  ·exact Nat.le_refl _
  ·rename_i h
   cases hp : parts lns x with
   | nil => rw [hp] at h; simp at h
   | cons y t => have := expand_pos (lns := lns) n y; rw [List.flatMap_cons, List.length_append]; omega
theorem flat_long {lns : List Ln} (n : Nat) (l : List Int) : l.length ≤ (l.flatMap (expand lns n)).length := by
 induction l with
 | nil => simp
 | cons x r ih => have := expand_pos (lns := lns) n x; rw [List.flatMap_cons, List.length_append, List.length_cons]; omega
def depth (lns : List Ln) (l : List Int) : Nat :=
 if l.all (ends lns 0) then 0 else if l.all (ends lns 1) then 1 else if l.all (ends lns 2) then 2 else if l.all (ends lns 3) then 3 else 4
theorem depth_le {lns : List Ln} {l : List Int} {n : Nat} (h : l.all (ends lns n) = true) (hn : n ≤ 4) : depth lns l ≤ n := by
 rcases (by omega : n = 0 ∨ n = 1 ∨ n = 2 ∨ n = 3 ∨ n = 4) with rfl | rfl | rfl | rfl | rfl <;> unfold depth <;> repeat' split
 all_goals first | omega | contradiction
theorem depth_all {lns : List Ln} {l : List Int} {n : Nat} (h : l.all (ends lns n) = true) (hn : n ≤ 4) : l.all (ends lns (depth lns l)) = true ∧ depth lns l ≤ 4 := by
 have h4 : l.all (ends lns 4) = true ∨ n ≤ 3 := by
  by_cases e : n = 4
  ·subst e; exact .inl h
  ·exact .inr (by omega)
 unfold depth
 repeat' split
 all_goals first
  | exact ⟨by assumption, by omega⟩
  | (rcases h4 with h4 | h4
     ·exact ⟨h4, Nat.le_refl _⟩
     ·rcases (by omega : n = 0 ∨ n = 1 ∨ n = 2 ∨ n = 3) with rfl | rfl | rfl | rfl <;> contradiction)
theorem depth_step {lns : List Ln} {l E : List Int} {n : Nat} (h : l.all (ends lns n) = true) (hn : n ≤ 4) (hE : l.flatMap (expand lns n) = E) (hp : hasParts lns l = true) :
  ∃ m, m ≤ 4 ∧ (stepAll lns l).all (ends lns m) = true ∧ (stepAll lns l).flatMap (expand lns m) = E := by
 cases n with
 | zero => rw [ends_zero h] at hp; cases hp
 | succ n =>
  obtain ⟨h1, h2⟩ := step_down h
  exact ⟨n, by omega, h1, h2.trans hE⟩
theorem depth_less {lns : List Ln} {l : List Int} {n : Nat} (h : l.all (ends lns n) = true) (hn : n ≤ 4) (hp : hasParts lns l = true) : depth lns (stepAll lns l) < depth lns l := by
 obtain ⟨h1, h2⟩ := depth_all h hn
 obtain ⟨d, hd⟩ : ∃ d, depth lns l = d := ⟨_, rfl⟩
 rw [hd] at h1 h2 ⊢
 cases d with
 | zero => rw [ends_zero h1] at hp; cases hp
 | succ d => have := depth_le (step_down h1).1 (by omega); omega
def inv (k : Int → Int) : List Int → Nat
 | [] => 0
 | x :: r => r.countP (fun y => decide (k y ≠ 0 ∧ k y < k x)) + inv k r
theorem inv_swap {k : Int → Int} {a b : Int} (hb : k b ≠ 0) (hab : k b < k a) : ∀ (p q : List Int), inv k (p ++ a :: b :: q) = inv k (p ++ b :: a :: q) + 1
 | [], q => by
  simp only [List.nil_append, inv, List.countP_cons]
  have e1 : decide (k b ≠ 0 ∧ k b < k a) = true := by simp [hb, hab]
  have e2 : decide (k a ≠ 0 ∧ k a < k b) = false := by simp; omega
  rw [e1, e2]; simp; omega
 | x :: p, q => by
  simp only [List.cons_append, inv]
  rw [inv_swap hb hab p q]
  have hp : (p ++ a :: b :: q).Perm (p ++ b :: a :: q) := List.Perm.append_left p (List.Perm.swap b a q)
  rw [hp.countP_eq]; omega
def wrong (k : Int → Int) (a b : Int) : Bool := decide (k b ≠ 0 ∧ k b < k a)
theorem calm_of {k : Int → Int} : ∀ {l : List Int}, (∀ j, j + 1 < l.length → wrong k (l.getD j 0) (l.getD (j + 1) 0) = false) → Calm k l
 | [], _ => trivial
 | [_], _ => trivial
 | a :: b :: r, h => by
  refine ⟨by have := h 0 (by simp); simpa [wrong] using this, calm_of fun j hj => ?_⟩
  have := h (j + 1) (by simp at hj ⊢; omega)
  simpa using this
end Tm
theorem Reads.one {w : World} {v : Value} {l l' : List Int} (h : Reads w v 1 l.length (ints l)) (h' : Reads w v 1 l'.length (ints l')) : l = l' := by
 obtain ⟨a, cap, rfl⟩ := h.shape
 have hl := h'.fits.1
 refine List.ext_getElem hl fun k h1 h2 => ?_
 obtain ⟨g, off, ha, _, c⟩ := h.at h1
 obtain ⟨g', off', ha', _, c'⟩ := h'.at h2
 rw [ha] at ha'
 cases ha'
 rw [c] at c'
 simpa using c'
open Classical in
noncomputable def listOf (w : World) (v : Value) : List Int := if h : ∃ l : List Int, Reads w v 1 l.length (ints l) then h.choose else []
theorem listOf_eq {w : World} {v : Value} {l : List Int} (h : Reads w v 1 l.length (ints l)) : listOf w v = l := by
 have hx : ∃ l : List Int, Reads w v 1 l.length (ints l) := ⟨l, h⟩
 unfold listOf
 rw [dif_pos hx]
 exact Reads.one hx.choose_spec h
theorem newTable_ends {s : List UInt8} {st : Int} {lns : List Tm.Ln} (h : Tm.newTable s st = (lns, 0, 0)) (r : Int) : Tm.ends lns 4 r = true := by
 refine Tm.ends_all ?_ r
 unfold Tm.newTable at h
 split at h
 ·simp at h
 ·split at h
  ·simp at h
  ·split at h
   ·rename_i n e heq
    simp at h
    exact absurd h.2.2 (readLines_err _ _ _ _ _ _ heq)
   ·rename_i heq
    injection h with h1 h2
    subst h1
    exact congrArg Prod.snd h2
namespace Tm
structure KeepTab (lns : List Ln) : Prop where
 a : seqOf lns [97] = some [⟨16, 32, 2, false⟩]
 b : seqOf lns [98] = some [⟨17, 32, 2, false⟩]
 pa : parts lns 97 = []
 pb : parts lns 98 = []
end Tm
theorem cmpOf_neg (lns : List Tm.Ln) (st : Int) (sh : Bool) (a b : ByteArray) : cmpOf lns st sh b a = - cmpOf lns st sh a b := Tm.cmpLL_neg _ _
theorem cmpOf_zero {lns : List Tm.Ln} {st : Int} {sh : Bool} {a b : ByteArray} : cmpOf lns st sh a b = 0 ↔ normOf lns a = normOf lns b :=
 ⟨fun h => stands_eq.1 (Tm.cmpLL_zero h), fun h => by unfold cmpOf; rw [h]; exact Tm.cmpLL_self _⟩
theorem cmpOf_trans {lns : List Tm.Ln} {st : Int} {sh : Bool} {a b c : ByteArray} (h : cmpOf lns st sh a b ≤ 0) (k : cmpOf lns st sh b c ≤ 0) : cmpOf lns st sh a c ≤ 0 := Tm.cmpLL_trans h k
theorem key_cmp {lns : List Tm.Ln} (hf : ∀ o ∈ lns, Tm.Fit o) {st : Int} {sh : Bool} (hst : 1 ≤ st ∧ st ≤ 4) (a b : ByteArray) : Tm.cmpB (keyBytes lns st sh a) (keyBytes lns st sh b) = cmpOf lns st sh a b :=
 key_order hf hst (norm_range hf a) (norm_range hf b)
structure Foot (S : Nat → Prop) (w w' : World) : Prop where
 os : w'.os = w.os
 tape : w'.tape = w.tape
 output : w'.output = w.output
 size : w.heap.size ≤ w'.heap.size
 block : ∀ k, k < w.heap.size → ¬ S k → w'.heap[k]? = w.heap[k]?
theorem Foot.refl (S : Nat → Prop) (w : World) : Foot S w w := ⟨rfl, rfl, rfl, Nat.le_refl _, fun _ _ _ => rfl⟩
theorem Foot.of {S : Nat → Prop} {w w' : World} (h : Below w.heap.size w w') : Foot S w w' := ⟨h.os, h.tape, h.output, h.size, fun k hk _ => h.block k hk⟩
theorem Foot.trans {S T : Nat → Prop} {u v w : World} (h : Foot S u v) (k : Foot T v w) (hT : ∀ i, T i → S i ∨ u.heap.size ≤ i) : Foot S u w :=
 ⟨k.os.trans h.os, k.tape.trans h.tape, k.output.trans h.output, Nat.le_trans h.size k.size, fun i hi hb => (k.block i (Nat.lt_of_lt_of_le hi h.size) (fun ht => by rcases hT i ht with h1 | h1; exact hb h1; omega)).trans (h.block i hi hb)⟩
theorem Foot.then {S : Nat → Prop} {u v w : World} (h : Foot S u v) (k : Below u.heap.size v w) : Foot S u w :=
 ⟨k.os.trans h.os, k.tape.trans h.tape, k.output.trans h.output, Nat.le_trans h.size k.size, fun i hi hb => (k.block i hi).trans (h.block i hi hb)⟩
theorem Foot.mono {S T : Nat → Prop} {u w : World} (h : Foot S u w) (hS : ∀ i, S i → T i) : Foot T u w := ⟨h.os, h.tape, h.output, h.size, fun k hk hn => h.block k hk (fun e => hn (hS k e))⟩
theorem Foot.cell {S : Nat → Prop} {u w : World} (h : Foot S u w) {p : Addr} (hp : p.block < u.heap.size) (hn : ¬ S p.block) : w.cell? p = u.cell? p := World.cell?_of_block (h.block _ hp hn)
theorem Foot.frozen {S : Nat → Prop} {u w : World} (h : Foot S u w) {p : Addr} (hp : p.block < u.heap.size) (hn : ¬ S p.block) : w.frozen? p = u.frozen? p := World.frozen?_of_block (h.block _ hp hn)
theorem Foot.setCell {S : Nat → Prop} {u w : World} (h : Foot S u w) {p : Addr} (hp : S p.block ∨ u.heap.size ≤ p.block) (v : Value) : Foot S u (w.setCell p v) :=
 ⟨h.os, h.tape, h.output, by simpa [World.setCell] using h.size, fun k hk hn => by
  rw [Below.heap_setCell _ _ _ _ (by rintro rfl; rcases hp with e | e; exact hn e; omega)]
  exact h.block k hk hn⟩
theorem Foot.alloc {S : Nat → Prop} {u w : World} (h : Foot S u w) (o : Obj) : Foot S u (w.alloc o) := h.then ((Below.refl _ _).alloc h.size o)
theorem Foot.grown {S : Nat → Prop} {u w w' : World} {row : Option Nat} (h : Foot S u w) (hg : w.grownBy w' row) (hr : ∀ k, row = some k → S k ∨ u.heap.size ≤ k) : Foot S u w' :=
 ⟨hg.os.trans h.os, hg.tape.trans h.tape, hg.output.trans h.output, Nat.le_trans h.size hg.size, fun k hk hn => (hg.block k (Nat.lt_of_lt_of_le hk h.size) (fun e => by rcases hr k e.symm with e | e; exact hn e; omega)).trans (h.block k hk hn)⟩
theorem Foot.reads {S : Nat → Prop} {u w : World} (h : Foot S u w) {v : Value} {size n : Nat} {xs : List Value} (hr : Reads u v size n xs) (hn : ∀ g, v.ownBlock = some g → ¬ S g) : Reads w v size n xs :=
 hr.of_blocks h.size (fun g hg => h.block g (hr.2.1 g hg) (hn g hg))
theorem Foot.owns {S : Nat → Prop} {u w : World} (h : Foot S u w) {base : Nat} {e : TypeId} {size : Nat} {v : Value} {n : Nat} {xs : List Value} (hr : u.ownsRow base e size v n xs) (hn : ∀ g, v.ownBlock = some g → ¬ S g) : w.ownsRow base e size v n xs :=
 ownsRow_same hr (fun g hg => h.block g (hr.lt g hg).2 (hn g hg))
theorem owns_setAt {w : World} {base : Nat} {e : TypeId} {size g n cap : Nat} {xs : List Value} (h : w.ownsRow base e size (.slice (some ⟨g, 0, none⟩) n cap) n xs) (k : Nat) (u : Value) : (w.setCell ⟨g, k, none⟩ u).ownsRow base e size (.slice (some ⟨g, 0, none⟩) n cap) n (xs.set k u) := by
 refine ⟨by rw [List.length_set]; exact h.1, ?_⟩
 rcases h.2 with ⟨he, _⟩ | ⟨g', cap', cur, he, hb, hg, h1, h2, h3, h4⟩
 ·cases he
 ·cases he
  refine .inr ⟨g, cap, cur.setIfInBounds k u, rfl, hb, ?_, h1, h2, by simpa using h3, ?_⟩
  ·simp only [World.setCell, Array.getElem?_modify, hg]; rfl
  ·rw [Array.toList_setIfInBounds, ← h4, List.take_set]
namespace Tm
structure Told {α : Type} (c : α → α → Int) : Prop where
 neg : ∀ a b, c b a = - c a b
 trans : ∀ {a b d}, c a b ≤ 0 → c b d ≤ 0 → c a d ≤ 0
theorem Told.lt {α : Type} {c : α → α → Int} (h : Told c) {a b d : α} (h1 : c a b < 0) (h2 : c b d < 0) : c a d < 0 := by
 have h3 := h.trans (a := a) (b := b) (d := d) (by omega) (by omega)
 rcases (show c a d < 0 ∨ c a d = 0 by omega) with h4 | h4
 ·exact h4
 ·have h5 := h.neg a d
  have h6 := h.trans (a := d) (b := a) (d := b) (by omega) (by omega)
  have h7 := h.neg b d
  omega
def Rises {α : Type} (c : α → α → Int) (l : List α) : Prop := l.Pairwise (fun a b => c a b < 0)
def putIn {α : Type} (c : α → α → Int) (e : α) : List α → List α
 | [] => [e]
 | x :: r => if c e x < 0 then e :: x :: r else x :: putIn c e r
theorem putIn_mem {α : Type} {c : α → α → Int} {e y : α} : ∀ {l : List α}, y ∈ putIn c e l ↔ y = e ∨ y ∈ l
 | [] => by simp [putIn]
 | x :: r => by
  unfold putIn
  split
  ·simp
  ·simp only [List.mem_cons, putIn_mem (l := r)]
   constructor
   ·rintro (h | h | h)
    ·exact .inr (.inl h)
    ·exact .inl h
    ·exact .inr (.inr h)
   ·rintro (h | h | h)
    ·exact .inr (.inl h)
    ·exact .inl h
    ·exact .inr (.inr h)
theorem putIn_length {α : Type} {c : α → α → Int} {e : α} : ∀ {l : List α}, (putIn c e l).length = l.length + 1
 | [] => rfl
 | x :: r => by
  unfold putIn
  split
  ·simp
  ·simp [putIn_length (l := r)]
theorem putIn_rises {α : Type} {c : α → α → Int} (h : Told c) {e : α} : ∀ {l : List α}, Rises c l → (∀ x ∈ l, c e x ≠ 0) → Rises c (putIn c e l)
 | [], _, _ => by simp [putIn, Rises]
 | x :: r, hl, hne => by
  have hx := List.pairwise_cons.1 hl
  have hx0 := hne x (by simp)
  unfold putIn
  split
  ·rename_i hlt
   refine List.pairwise_cons.2 ⟨fun y hy => ?_, hl⟩
   rcases List.mem_cons.1 hy with rfl | hy
   ·exact hlt
   ·exact h.lt hlt (hx.1 y hy)
  ·rename_i hge
   refine List.pairwise_cons.2 ⟨fun y hy => ?_, putIn_rises h hx.2 (fun z hz => hne z (by simp [hz]))⟩
   rcases putIn_mem.1 hy with rfl | hy
   ·have := h.neg y x
    omega
   ·exact hx.1 y hy
theorem Rises.one {α : Type} {c : α → α → Int} (h : Told c) : ∀ {l m : List α}, Rises c l → Rises c m → (∀ y, y ∈ l ↔ y ∈ m) → l = m
 | [], [], _, _, _ => rfl
 | [], y :: s, _, _, he => by have := (he y).2 (by simp); simp at this
 | x :: r, [], _, _, he => by have := (he x).1 (by simp); simp at this
 | x :: r, y :: s, hl, hm, he => by
  have hx := List.pairwise_cons.1 hl
  have hy := List.pairwise_cons.1 hm
  have hself : ∀ a, ¬ c a a < 0 := fun a => by have := h.neg a a; omega
  have hxy : x = y := by
   rcases List.mem_cons.1 ((he x).1 (by simp)) with h1 | h1
   ·exact h1
   ·rcases List.mem_cons.1 ((he y).2 (by simp)) with h2 | h2
    ·exact h2.symm
    ·have h3 := hx.1 y h2
     have h4 := hy.1 x h1
     exact absurd (h.lt h3 h4) (hself x)
  subst hxy
  congr 1
  refine Rises.one h hx.2 hy.2 (fun z => ⟨fun hz => ?_, fun hz => ?_⟩)
  ·rcases List.mem_cons.1 ((he z).1 (by simp [hz])) with h1 | h1
   ·subst h1; exact absurd (hx.1 z hz) (hself z)
   ·exact h1
  ·rcases List.mem_cons.1 ((he z).2 (by simp [hz])) with h1 | h1
   ·subst h1; exact absurd (hy.1 z hz) (hself z)
   ·exact h1
end Tm
namespace Tm
def lastAt (fs : List (List Int)) (f : List Int) : Nat → Int
 | 0 => -1
 | n + 1 => if fs[n]? = some f then n else lastAt fs f n
theorem lastAt_range (fs : List (List Int)) (f : List Int) : ∀ n, lastAt fs f n = -1 ∨ ∃ i : Nat, i < n ∧ lastAt fs f n = i ∧ fs[i]? = some f
 | 0 => .inl rfl
 | n + 1 => by
  unfold lastAt
  split
  ·rename_i h; exact .inr ⟨n, by omega, rfl, h⟩
  ·rcases lastAt_range fs f n with h | ⟨i, h1, h2, h3⟩
   ·exact .inl h
   ·exact .inr ⟨i, by omega, h2, h3⟩
theorem lastAt_new {fs : List (List Int)} {f g : List Int} : lastAt (fs ++ [g]) f (fs.length + 1) = if g = f then (fs.length : Int) else lastAt fs f fs.length := by
 have keep : ∀ n, n ≤ fs.length → lastAt (fs ++ [g]) f n = lastAt fs f n := by
  intro n
  induction n with
  | zero => intro _; rfl
  | succ n ih =>
   intro hn
   unfold lastAt
   rw [List.getElem?_append_left (by omega), ih (by omega)]
 rw [lastAt, List.getElem?_append_right (Nat.le_refl _)]
 simp only [Nat.sub_self, List.getElem?_cons_zero, Option.some.injEq]
 split
 ·rfl
 ·exact keep _ (Nat.le_refl _)
def shownIs (fs : List (List Int)) (gone : List Bool) (n i : Nat) : Bool := decide (∃ f, fs[i]? = some f ∧ lastAt fs f n = i) && (gone[i]? == some false)
def shownAt (fs : List (List Int)) (gone : List Bool) (n : Nat) : List Nat := (List.range n).filter (shownIs fs gone n)
theorem shownAt_step (fs : List (List Int)) (gone : List Bool) (n k : Nat) : ((List.range (k + 1)).filter (shownIs fs gone n)) = (List.range k).filter (shownIs fs gone n) ++ (if shownIs fs gone n k then [k] else []) := by
 rw [List.range_succ, List.filter_append]
 congr 1
 by_cases h : shownIs fs gone n k <;> simp [h]
end Tm
namespace Tm
def scanIn {α : Type} (c : α → α → Int) (p : α → Bool) (es : List α) : List α := es.foldl (fun out e => if p e then putIn c e out else out) []
theorem scanIn_snoc {α : Type} (c : α → α → Int) (p : α → Bool) (es : List α) (e : α) : scanIn c p (es ++ [e]) = if p e then putIn c e (scanIn c p es) else scanIn c p es := by simp [scanIn]
theorem rev_ind {α : Type} {P : List α → Prop} (h0 : P []) (hs : ∀ l x, P l → P (l ++ [x])) (l : List α) : P l := by
 rw [← List.reverse_reverse l]
 induction l.reverse with
 | nil => exact h0
 | cons a r ih => rw [List.reverse_cons]; exact hs _ _ ih
theorem scanIn_mem {α : Type} {c : α → α → Int} {p : α → Bool} {y : α} (es : List α) : y ∈ scanIn c p es ↔ y ∈ es ∧ p y = true := by
 refine rev_ind (P := fun es => y ∈ scanIn c p es ↔ y ∈ es ∧ p y = true) (by simp [scanIn]) (fun l x ih => ?_) es
 rw [scanIn_snoc]
 by_cases h : p x = true
 ·rw [if_pos h, putIn_mem, ih]
  simp only [List.mem_append, List.mem_singleton]
  constructor
  ·rintro (rfl | ⟨h1, h2⟩)
   ·exact ⟨.inr rfl, h⟩
   ·exact ⟨.inl h1, h2⟩
  ·rintro ⟨h1 | rfl, h2⟩
   ·exact .inr ⟨h1, h2⟩
   ·exact .inl rfl
 ·rw [if_neg h, ih]
  simp only [List.mem_append, List.mem_singleton]
  constructor
  ·rintro ⟨h1, h2⟩; exact ⟨.inl h1, h2⟩
  ·rintro ⟨h1 | rfl, h2⟩
   ·exact ⟨h1, h2⟩
   ·exact absurd h2 h
theorem scanIn_rises {α : Type} {c : α → α → Int} (h : Told c) {p : α → Bool} (es : List α) (hne : es.Pairwise (fun a b => c a b ≠ 0)) : Rises c (scanIn c p es) := by
 refine rev_ind (P := fun es => es.Pairwise (fun a b => c a b ≠ 0) → Rises c (scanIn c p es)) (fun _ => by simp [scanIn, Rises]) (fun l x ih hp => ?_) es hne
 obtain ⟨h1, _, h3⟩ := List.pairwise_append.1 hp
 rw [scanIn_snoc]
 split
 ·refine putIn_rises h (ih h1) (fun y hy => ?_)
  have h4 := h3 y ((scanIn_mem l).1 hy).1 x (by simp)
  have h5 := h.neg y x
  omega
 ·exact ih h1
theorem scanIn_one {α : Type} {c : α → α → Int} (h : Told c) {p : α → Bool} {es l : List α} (hne : es.Pairwise (fun a b => c a b ≠ 0)) (hl : Rises c l) (hm : ∀ y, y ∈ l ↔ y ∈ es ∧ p y = true) : l = scanIn c p es :=
 Rises.one h hl (scanIn_rises h es hne) (fun y => (hm y).trans (scanIn_mem es).symm)
end Tm
namespace Tm
abbrev Ents := List (ByteArray × ByteArray)
def ByKey (c : ByteArray → ByteArray → Int) (a b : ByteArray × ByteArray) : Int := c a.1 b.1
theorem Told.byKey {c : ByteArray → ByteArray → Int} (h : Told c) : Told (ByKey c) := ⟨fun a b => h.neg a.1 b.1, fun {a b d} => h.trans (a := a.1) (b := b.1) (d := d.1)⟩
theorem Told.le_lt {α : Type} {c : α → α → Int} (h : Told c) {a b d : α} (h1 : c a b ≤ 0) (h2 : c b d < 0) : c a d < 0 := by
 have h3 := h.trans h1 (Int.le_of_lt h2)
 rcases (show c a d < 0 ∨ c a d = 0 by omega) with h4 | h4
 ·exact h4
 ·have h5 := h.neg a d
  have h6 := h.trans (a := d) (b := a) (d := b) (by omega) h1
  have h7 := h.neg b d
  omega
theorem Told.lt_le {α : Type} {c : α → α → Int} (h : Told c) {a b d : α} (h1 : c a b < 0) (h2 : c b d ≤ 0) : c a d < 0 := by
 have h3 := h.trans (Int.le_of_lt h1) h2
 rcases (show c a d < 0 ∨ c a d = 0 by omega) with h4 | h4
 ·exact h4
 ·have h5 := h.neg a d
  have h6 := h.trans (a := b) (b := d) (d := a) h2 (by omega)
  have h7 := h.neg a b
  omega
def below (c : ByteArray → ByteArray → Int) (l : Ents) (k : ByteArray) : Nat := (l.filter (fun e => decide (c e.1 k < 0))).length
def ixHas (c : ByteArray → ByteArray → Int) (l : Ents) (k : ByteArray) : Bool := l.any (fun e => decide (c e.1 k = 0))
def ixPut (c : ByteArray → ByteArray → Int) (l : Ents) (k v : ByteArray) : Ents := l.filter (fun e => decide (c e.1 k < 0)) ++ (k, v) :: l.filter (fun e => decide (0 < c e.1 k))
def ixDrop (c : ByteArray → ByteArray → Int) (l : Ents) (k : ByteArray) : Ents := l.filter (fun e => decide (c e.1 k ≠ 0))
def ixGet (c : ByteArray → ByteArray → Int) (l : Ents) (k : ByteArray) : Option ByteArray := (l.find? (fun e => decide (c e.1 k = 0))).map (·.2)
def within (c : ByteArray → ByteArray → Int) (lo hi : ByteArray) (e : ByteArray × ByteArray) : Bool := decide (0 ≤ c e.1 lo) && (decide (hi.size = 0) || decide (c e.1 hi < 0))
def ixScan (c : ByteArray → ByteArray → Int) (l : Ents) (lo hi : ByteArray) : Ents := l.filter (within c lo hi)
theorem below_le (c : ByteArray → ByteArray → Int) (l : Ents) (k : ByteArray) : below c l k ≤ l.length := List.length_filter_le _ _
theorem rises_above {c : ByteArray → ByteArray → Int} (h : Told c) {x : ByteArray × ByteArray} {r : Ents} (hl : Rises (ByKey c) (x :: r)) {k : ByteArray} (hx : 0 ≤ c x.1 k) : ∀ y ∈ r, 0 < c y.1 k := by
 intro y hy
 have h1 : c x.1 y.1 < 0 := (List.pairwise_cons.1 hl).1 y hy
 have h2 := h.neg x.1 k
 have h3 := h.le_lt (a := k) (b := x.1) (d := y.1) (by omega) h1
 have h4 := h.neg k y.1
 omega
theorem below_split {c : ByteArray → ByteArray → Int} (h : Told c) {k : ByteArray} : ∀ {l : Ents}, Rises (ByKey c) l → l.filter (fun e => decide (c e.1 k < 0)) = l.take (below c l k) ∧ l.filter (fun e => decide (0 ≤ c e.1 k)) = l.drop (below c l k)
 | [], _ => by simp
 | x :: r, hl => by
  have ih := below_split h (k := k) (List.pairwise_cons.1 hl).2
  by_cases hx : c x.1 k < 0
  ·have hb : below c (x :: r) k = below c r k + 1 := by simp [below, hx]
   rw [hb, List.filter_cons_of_pos (by simp [hx]), List.filter_cons_of_neg (by simp; omega)]
   exact ⟨by rw [List.take_succ_cons, ih.1], by rw [List.drop_succ_cons, ih.2]⟩
  ·have ha := rises_above h hl (k := k) (by omega)
   have hn : (x :: r).filter (fun e => decide (c e.1 k < 0)) = [] := by
    rw [List.filter_eq_nil_iff]
    intro y hy
    rcases List.mem_cons.1 hy with rfl | hy
    ·simpa using hx
    ·have := ha y hy; simp; omega
   have hb : below c (x :: r) k = 0 := by unfold below; rw [hn]; rfl
   rw [hb, hn]
   refine ⟨rfl, ?_⟩
   rw [List.drop_zero, List.filter_eq_self]
   intro y hy
   rcases List.mem_cons.1 hy with rfl | hy
   ·simp; omega
   ·have := ha y hy; simp; omega
theorem below_at {c : ByteArray → ByteArray → Int} (h : Told c) {k : ByteArray} {l : Ents} (hl : Rises (ByKey c) l) {i : Nat} (hi : i < l.length) : c (l[i]).1 k < 0 ↔ i < below c l k := by
 have hs := below_split h (k := k) hl
 constructor
 ·intro hc
  refine Nat.lt_of_not_le (fun hle => ?_)
  have hm : l[i] ∈ l.drop (below c l k) := by
   rw [List.mem_iff_getElem?]
   exact ⟨i - below c l k, by rw [List.getElem?_drop, show below c l k + (i - below c l k) = i by omega]; simp [hi]⟩
  rw [← hs.2] at hm
  have := (List.mem_filter.1 hm).2
  simp at this
  omega
 ·intro hlt
  have hm : l[i] ∈ l.take (below c l k) := by
   rw [List.mem_iff_getElem?]
   exact ⟨i, by rw [List.getElem?_take, if_pos hlt]; simp [hi]⟩
  rw [← hs.1] at hm
  simpa using (List.mem_filter.1 hm).2
theorem ixHas_at {c : ByteArray → ByteArray → Int} (h : Told c) {k : ByteArray} {l : Ents} (hl : Rises (ByKey c) l) : ixHas c l k = true ↔ ∃ hi : below c l k < l.length, c (l[below c l k]).1 k = 0 := by
 constructor
 ·intro hh
  obtain ⟨e, he, h0⟩ := List.any_eq_true.1 hh
  obtain ⟨i, hi, rfl⟩ := List.mem_iff_getElem.1 he
  have h0' : c (l[i]).1 k = 0 := by simpa using h0
  have h1 : ¬ i < below c l k := fun hlt => by have := (below_at h hl hi).2 hlt; omega
  have h2 : ¬ below c l k < i := fun hlt => by
   have hb : below c l k < l.length := by omega
   have h3 : ¬ c (l[below c l k]).1 k < 0 := fun hc => by have := (below_at h hl hb).1 hc; omega
   have h4 : c (l[below c l k]).1 (l[i]).1 < 0 := List.pairwise_iff_getElem.1 hl _ _ hb hi hlt
   have h5 := h.lt_le h4 (by omega : c (l[i]).1 k ≤ 0)
   omega
  have e : i = below c l k := by omega
  subst e
  exact ⟨hi, h0'⟩
 ·rintro ⟨hi, h0⟩
  exact List.any_eq_true.2 ⟨l[below c l k], List.getElem_mem hi, by simpa using h0⟩
theorem ixDrop_gone {c : ByteArray → ByteArray → Int} {k : ByteArray} {l : Ents} (hh : ixHas c l k = false) : ixDrop c l k = l := by
 unfold ixDrop
 rw [List.filter_eq_self]
 intro y hy
 have : ¬ c y.1 k = 0 := fun e => by
  have : ixHas c l k = true := List.any_eq_true.2 ⟨y, hy, by simpa using e⟩
  rw [this] at hh
  cases hh
 simpa using this
theorem ixPut_rises {c : ByteArray → ByteArray → Int} (h : Told c) {k v : ByteArray} {l : Ents} (hl : Rises (ByKey c) l) : Rises (ByKey c) (ixPut c l k v) := by
 unfold ixPut
 refine List.pairwise_append.2 ⟨List.Pairwise.filter _ hl, List.pairwise_cons.2 ⟨fun y hy => ?_, List.Pairwise.filter _ hl⟩, fun a ha b hb => ?_⟩
 ·have h1 : 0 < c y.1 k := by simpa using (List.mem_filter.1 hy).2
  have h2 := h.neg y.1 k
  show c k y.1 < 0
  omega
 ·have h1 : c a.1 k < 0 := by simpa using (List.mem_filter.1 ha).2
  rcases List.mem_cons.1 hb with rfl | hb
  ·exact h1
  ·have h2 : 0 < c b.1 k := by simpa using (List.mem_filter.1 hb).2
   have h3 := h.neg b.1 k
   exact h.lt h1 (by omega)
theorem ixDrop_rises {c : ByteArray → ByteArray → Int} {k : ByteArray} {l : Ents} (hl : Rises (ByKey c) l) : Rises (ByKey c) (ixDrop c l k) := List.Pairwise.filter _ hl
theorem ixPut_mem {c : ByteArray → ByteArray → Int} {k v : ByteArray} {l : Ents} {e : ByteArray × ByteArray} : e ∈ ixPut c l k v ↔ e = (k, v) ∨ (e ∈ l ∧ c e.1 k ≠ 0) := by
 unfold ixPut
 simp only [List.mem_append, List.mem_cons, List.mem_filter, decide_eq_true_eq]
 constructor
 ·rintro (⟨h1, h2⟩ | h | ⟨h1, h2⟩)
  ·exact .inr ⟨h1, by omega⟩
  ·exact .inl h
  ·exact .inr ⟨h1, by omega⟩
 ·rintro (h | ⟨h1, h2⟩)
  ·exact .inr (.inl h)
  ·rcases (show c e.1 k < 0 ∨ 0 < c e.1 k by omega) with h3 | h3
   ·exact .inl ⟨h1, h3⟩
   ·exact .inr (.inr ⟨h1, h3⟩)
theorem ixDrop_mem {c : ByteArray → ByteArray → Int} {k : ByteArray} {l : Ents} {e : ByteArray × ByteArray} : e ∈ ixDrop c l k ↔ e ∈ l ∧ c e.1 k ≠ 0 := by
 unfold ixDrop
 simp only [List.mem_filter, decide_eq_true_eq]
theorem ixScan_cut {c : ByteArray → ByteArray → Int} (h : Told c) {lo hi : ByteArray} {l : Ents} (hl : Rises (ByKey c) l) : ixScan c l lo hi = if hi.size = 0 then l.drop (below c l lo) else (l.drop (below c l lo)).take (below c (l.drop (below c l lo)) hi) := by
 have hs := (below_split h (k := lo) hl).2
 have hr : Rises (ByKey c) (l.drop (below c l lo)) := List.Pairwise.drop hl
 have hs2 := (below_split h (k := hi) hr).1
 by_cases h0 : hi.size = 0
 ·rw [if_pos h0, ← hs]
  refine List.filter_congr (fun e _ => ?_)
  simp [within, h0]
 ·rw [if_neg h0, ← hs2]
  conv => rhs; rw [← hs]
  rw [List.filter_filter]
  refine List.filter_congr (fun e _ => ?_)
  simp [within, h0, Bool.and_comm]
theorem ixGet_at {c : ByteArray → ByteArray → Int} (h : Told c) {k : ByteArray} {l : Ents} (hl : Rises (ByKey c) l) : ixGet c l k = if ixHas c l k then (l[below c l k]?).map (·.2) else none := by
 by_cases hh : ixHas c l k = true
 ·rw [if_pos hh]
  obtain ⟨hi, h0⟩ := (ixHas_at h hl).1 hh
  unfold ixGet
  congr 1
  rw [List.find?_eq_some_iff_getElem.2 ⟨by simpa using h0, below c l k, hi, rfl, fun j hj => by have := (below_at h hl (by omega : j < l.length)).2 hj; simp; omega⟩]
  simp [hi]
 ·rw [if_neg hh]
  unfold ixGet
  rw [List.find?_eq_none.2 (fun y hy => fun e => hh (List.any_eq_true.2 ⟨y, hy, e⟩))]
  rfl
end Tm
namespace Tm
abbrev Fact := ByteArray × ByteArray × Bool
structure FactsOk (c : ByteArray → ByteArray → Int) (fs : List Fact) (es : Ents) : Prop where
 apart : fs.Pairwise (fun a b => c a.1 b.1 ≠ 0)
 same : ∀ k v, (k, v) ∈ es ↔ (k, v, true) ∈ fs
 short : ∀ f ∈ fs, f.1.size ≤ 64
theorem scanIn_length {α : Type} (c : α → α → Int) (es : List α) : (scanIn c (fun _ => true) es).length = es.length := by
 refine rev_ind (P := fun es => (scanIn c (fun _ => true) es).length = es.length) rfl (fun l x ih => ?_) es
 rw [scanIn_snoc, if_pos rfl, putIn_length, ih]
 simp
end Tm
namespace Tm
abbrev Ver := Nat × (ByteArray × ByteArray)
abbrev Vers := List Ver
def entsOf (l : Vers) : Ents := l.map (·.2)
theorem entsOf_length (l : Vers) : (entsOf l).length = l.length := List.length_map _
theorem entsOf_get {l : Vers} {i : Nat} (h : i < l.length) : (entsOf l)[i]'(by rw [entsOf_length]; exact h) = l[i].2 := by simp [entsOf]
def verPut (c : ByteArray → ByteArray → Int) (l : Vers) (n : Nat) (k v : ByteArray) : Vers := l.filter (fun x => decide (c x.2.1 k < 0)) ++ (n, (k, v)) :: l.filter (fun x => decide (0 < c x.2.1 k))
def verDrop (c : ByteArray → ByteArray → Int) (l : Vers) (k : ByteArray) : Vers := l.filter (fun x => decide (c x.2.1 k ≠ 0))
theorem entsOf_put (c : ByteArray → ByteArray → Int) (l : Vers) (n : Nat) (k v : ByteArray) : entsOf (verPut c l n k v) = ixPut c (entsOf l) k v := by
 simp [entsOf, verPut, ixPut, List.filter_map, Function.comp_def]
theorem entsOf_drop (c : ByteArray → ByteArray → Int) (l : Vers) (k : ByteArray) : entsOf (verDrop c l k) = ixDrop c (entsOf l) k := by
 simp [entsOf, verDrop, ixDrop, List.filter_map, Function.comp_def]
theorem filter_take {α : Type} (p : α → Bool) : ∀ (l : List α) (n : Nat), (∀ i (hi : i < l.length), p l[i] = decide (i < n)) → l.filter p = l.take n
 | [], n, _ => by simp
 | x :: r, 0, h => by
  rw [List.take_zero, List.filter_eq_nil_iff]
  intro y hy
  obtain ⟨i, hi, rfl⟩ := List.mem_iff_getElem.1 hy
  rw [h i hi]; simp
 | x :: r, n + 1, h => by
  have h0 := h 0 (by simp)
  rw [List.filter_cons_of_pos (by simpa using h0), List.take_succ_cons, filter_take p r n (fun i hi => by have := h (i + 1) (by simpa using hi); simpa using this)]
theorem filter_drop {α : Type} (p : α → Bool) : ∀ (l : List α) (n : Nat), (∀ i (hi : i < l.length), p l[i] = decide (n ≤ i)) → l.filter p = l.drop n
 | [], n, _ => by simp
 | x :: r, 0, h => by
  rw [List.drop_zero, List.filter_eq_self]
  intro y hy
  obtain ⟨i, hi, rfl⟩ := List.mem_iff_getElem.1 hy
  rw [h i hi]; simp
 | x :: r, n + 1, h => by
  have h0 := h 0 (by simp)
  rw [List.filter_cons_of_neg (by simpa using h0), List.drop_succ_cons, filter_drop p r n (fun i hi => by have := h (i + 1) (by simpa using hi); simpa using this)]
theorem filter_erase {α : Type} (p : α → Bool) : ∀ (l : List α) (n : Nat), (∀ i (hi : i < l.length), p l[i] = decide (i ≠ n)) → l.filter p = l.eraseIdx n
 | [], n, _ => by simp
 | x :: r, 0, h => by
  have h0 := h 0 (by simp)
  rw [List.filter_cons_of_neg (by simpa using h0), List.eraseIdx_cons_zero, List.filter_eq_self]
  intro y hy
  obtain ⟨i, hi, rfl⟩ := List.mem_iff_getElem.1 hy
  have := h (i + 1) (by simpa using hi)
  simpa using this
 | x :: r, n + 1, h => by
  have h0 := h 0 (by simp)
  rw [List.filter_cons_of_pos (by simpa using h0), List.eraseIdx_cons_succ, filter_erase p r n (fun i hi => by have := h (i + 1) (by simpa using hi); simpa using this)]
theorem sign_at {c : ByteArray → ByteArray → Int} (h : Told c) {k : ByteArray} {l : Ents} (hl : Rises (ByKey c) l) (hh : ixHas c l k = true) {i : Nat} (hi : i < l.length) : (c (l[i]).1 k = 0 ↔ i = below c l k) ∧ (0 < c (l[i]).1 k ↔ below c l k < i) := by
 obtain ⟨hb, h0⟩ := (ixHas_at h hl).1 hh
 have h1 := below_at h (k := k) hl hi
 have h2 : below c l k < i → 0 < c (l[i]).1 k := fun hlt => by
  have h4 : c (l[below c l k]).1 (l[i]).1 < 0 := List.pairwise_iff_getElem.1 hl _ _ hb hi hlt
  have h5 := h.neg (l[i]).1 k
  have h6 := h.neg (l[below c l k]).1 k
  have h7 := h.le_lt (a := k) (b := (l[below c l k]).1) (d := (l[i]).1) (by omega) h4
  omega
 have h3 : i = below c l k → c (l[i]).1 k = 0 := fun e => by subst e; exact h0
 constructor
 ·constructor
  ·intro e
   refine Nat.le_antisymm (Nat.le_of_not_lt fun hlt => ?_) (Nat.le_of_not_lt fun hlt => ?_)
   ·have := h2 hlt; omega
   ·have := h1.2 hlt; omega
  ·exact h3
 ·constructor
  ·intro hp
   refine Nat.lt_of_not_le fun hle => ?_
   rcases Nat.lt_or_eq_of_le hle with hlt | e
   ·have := h1.2 hlt; omega
   ·have := h3 e; omega
  ·exact h2
theorem none_at {c : ByteArray → ByteArray → Int} (h : Told c) {k : ByteArray} {l : Ents} (hl : Rises (ByKey c) l) (hh : ixHas c l k = false) {i : Nat} (hi : i < l.length) : 0 < c (l[i]).1 k ↔ below c l k ≤ i := by
 have h1 := below_at h (k := k) hl hi
 have h2 : c (l[i]).1 k ≠ 0 := fun e => by
  have : ixHas c l k = true := List.any_eq_true.2 ⟨l[i], List.getElem_mem hi, by simpa using e⟩
  rw [this] at hh; cases hh
 omega
theorem ver_low {c : ByteArray → ByteArray → Int} (h : Told c) {k : ByteArray} {l : Vers} (hl : Rises (ByKey c) (entsOf l)) : l.filter (fun x => decide (c x.2.1 k < 0)) = l.take (below c (entsOf l) k) :=
 filter_take _ _ _ fun i hi => by
  have := below_at h (k := k) hl (by rw [entsOf_length]; exact hi)
  rw [entsOf_get hi] at this
  simpa using this
theorem verPut_there {c : ByteArray → ByteArray → Int} (h : Told c) {k v : ByteArray} {n : Nat} {l : Vers} (hl : Rises (ByKey c) (entsOf l)) (hh : ixHas c (entsOf l) k = true) : verPut c l n k v = l.set (below c (entsOf l) k) (n, (k, v)) := by
 obtain ⟨hb, _⟩ := (ixHas_at h hl).1 hh
 rw [entsOf_length] at hb
 unfold verPut
 rw [ver_low h hl, filter_drop _ l (below c (entsOf l) k + 1) (fun i hi => by
  have := (sign_at h hl hh (by rw [entsOf_length]; exact hi)).2
  rw [entsOf_get hi] at this
  simpa [Nat.succ_le_iff] using this), List.set_eq_take_append_cons_drop, if_pos hb]
theorem verPut_new {c : ByteArray → ByteArray → Int} (h : Told c) {k v : ByteArray} {n : Nat} {l : Vers} (hl : Rises (ByKey c) (entsOf l)) (hh : ixHas c (entsOf l) k = false) : verPut c l n k v = l.take (below c (entsOf l) k) ++ (n, (k, v)) :: l.drop (below c (entsOf l) k) := by
 unfold verPut
 rw [ver_low h hl, filter_drop _ l (below c (entsOf l) k) (fun i hi => by
  have := none_at h hl hh (by rw [entsOf_length]; exact hi)
  rw [entsOf_get hi] at this
  simpa using this)]
theorem verDrop_there {c : ByteArray → ByteArray → Int} (h : Told c) {k : ByteArray} {l : Vers} (hl : Rises (ByKey c) (entsOf l)) (hh : ixHas c (entsOf l) k = true) : verDrop c l k = l.eraseIdx (below c (entsOf l) k) :=
 filter_erase _ _ _ fun i hi => by
  have := (sign_at h hl hh (by rw [entsOf_length]; exact hi)).1
  rw [entsOf_get hi] at this
  simpa using this
theorem verPut_mem {c : ByteArray → ByteArray → Int} {l : Vers} {n : Nat} {k v : ByteArray} {x : Ver} (h : x ∈ verPut c l n k v) : x = (n, (k, v)) ∨ x ∈ l := by
 unfold verPut at h
 rcases List.mem_append.1 h with h | h
 ·exact .inr (List.mem_filter.1 h).1
 ·rcases List.mem_cons.1 h with h | h
  ·exact .inl h
  ·exact .inr (List.mem_filter.1 h).1
theorem verDrop_mem {c : ByteArray → ByteArray → Int} {l : Vers} {k : ByteArray} {x : Ver} (h : x ∈ verDrop c l k) : x ∈ l := (List.mem_filter.1 h).1
def Flow : List Vers → Prop
 | [] => True
 | [_] => True
 | a :: b :: r => (∀ x ∈ a, ∀ m ∈ r, x ∈ m → x ∈ b) ∧ Flow (b :: r)
theorem Flow.last {m m' : Vers} : ∀ {pre : List Vers}, (∀ x ∈ m', x ∈ m ∨ ∀ a ∈ pre, x ∉ a) → Flow (pre ++ [m]) → Flow (pre ++ [m'])
 | [], _, _ => trivial
 | [a], _, _ => ⟨fun _ _ _ h => (by cases h), trivial⟩
 | a :: b :: r, hm, h => ⟨fun x hx q hq hxq => by
   have h1 := h.1 x hx
   rcases List.mem_append.1 hq with e | e
   ·exact h1 q (List.mem_append.2 (.inl e)) hxq
   ·have : q = m' := by simpa using e
    subst this
    rcases hm x hxq with e2 | e2
    ·exact h1 m (by simp) e2
    ·exact absurd hx (e2 a (by simp)), Flow.last (pre := b :: r) (fun x hx => (hm x hx).imp id (fun e y hy => e y (List.mem_cons_of_mem _ hy))) h.2⟩
end Tm
structure IxSt where
 now : Tm.Vers
 held : List (Nat × Tm.Vers)
 given : Nat
 next : Nat
def nowOf (s : IxSt) : Tm.Ents := Tm.entsOf s.now
def ixNil : IxSt := ⟨[], [], 0, 0⟩
def allVers (s : IxSt) : Tm.Vers := s.now ++ s.held.flatMap (·.2)
def putErr (c : ByteArray → ByteArray → Int) (s : IxSt) (k v : ByteArray) : Int := if 64 < k.size ∨ 64 < v.size then 7 else if Tm.ixHas c (nowOf s) k = false ∧ 64 ≤ (nowOf s).length then 8 else 0
def putSt (c : ByteArray → ByteArray → Int) (s : IxSt) (k v : ByteArray) : IxSt := if putErr c s k v = 0 then { s with now := Tm.verPut c s.now s.next k v, next := s.next + 1 } else s
def dropSt (c : ByteArray → ByteArray → Int) (s : IxSt) (k : ByteArray) : IxSt := if 64 < k.size then s else if Tm.ixHas c (nowOf s) k = true then { s with now := Tm.verDrop c s.now k, next := s.next + 1 } else s
theorem nowOf_nil : nowOf ixNil = [] := rfl
theorem nowOf_length (s : IxSt) : (nowOf s).length = s.now.length := Tm.entsOf_length _
theorem nowOf_put {c : ByteArray → ByteArray → Int} {s : IxSt} {k v : ByteArray} (h : putErr c s k v = 0) : nowOf (putSt c s k v) = Tm.ixPut c (nowOf s) k v := by unfold putSt nowOf; rw [if_pos h, Tm.entsOf_put]
theorem putSt_no {c : ByteArray → ByteArray → Int} {s : IxSt} {k v : ByteArray} (h : putErr c s k v ≠ 0) : putSt c s k v = s := by unfold putSt; rw [if_neg h]
theorem nowOf_drop {c : ByteArray → ByteArray → Int} {s : IxSt} {k : ByteArray} (h : k.size ≤ 64) : nowOf (dropSt c s k) = Tm.ixDrop c (nowOf s) k := by
 unfold dropSt
 rw [if_neg (by omega)]
 by_cases hh : Tm.ixHas c (nowOf s) k = true
 ·rw [if_pos hh]; exact Tm.entsOf_drop _ _ _
 ·rw [if_neg hh, Tm.ixDrop_gone (by simpa using hh)]
structure StOk (c : ByteArray → ByteArray → Int) (s : IxSt) : Prop where
 rises : Tm.Rises (Tm.ByKey c) (nowOf s)
 few : (nowOf s).length ≤ 64
 short : ∀ e ∈ nowOf s, e.1.size ≤ 64 ∧ e.2.size ≤ 64
 heldOk : ∀ h ∈ s.held, Tm.Rises (Tm.ByKey c) (Tm.entsOf h.2) ∧ h.2.length ≤ 64
 held8 : s.held.length ≤ 8
 less : ∀ x ∈ allVers s, x.1 < s.next
 one : ∀ x ∈ allVers s, ∀ y ∈ allVers s, x.1 = y.1 → x = y
 given : ∀ h ∈ s.held, 1 ≤ h.1 ∧ h.1 ≤ s.given
 apart : s.held.Pairwise (fun a b => a.1 < b.1)
 flow : Tm.Flow (s.held.map (·.2) ++ [s.now])
theorem StOk.nil (c : ByteArray → ByteArray → Int) : StOk c ixNil := ⟨.nil, Nat.zero_le _, fun _ h => (by cases h), fun _ h => (by cases h), Nat.zero_le _, fun _ h => (by cases h), fun _ h => (by cases h), fun _ h => (by cases h), .nil, trivial⟩
theorem mem_now {s : IxSt} {x : Tm.Ver} (h : x ∈ s.now) : x ∈ allVers s := List.mem_append.2 (.inl h)
theorem mem_held {s : IxSt} {x : Tm.Ver} {h : Nat × Tm.Vers} (hh : h ∈ s.held) (hx : x ∈ h.2) : x ∈ allVers s := List.mem_append.2 (.inr (List.mem_flatMap.2 ⟨h, hh, hx⟩))
theorem mem_all {s : IxSt} {x : Tm.Ver} (hx : x ∈ allVers s) : x ∈ s.now ∨ ∃ h ∈ s.held, x ∈ h.2 := by
 rcases List.mem_append.1 hx with e | e
 ·exact .inl e
 ·obtain ⟨h, hh, hx⟩ := List.mem_flatMap.1 e
  exact .inr ⟨h, hh, hx⟩
theorem StOk.turn {c : ByteArray → ByteArray → Int} {s : IxSt} (h : StOk c s) {l : Tm.Vers} {N : Nat} (hN : s.next ≤ N) (hr : Tm.Rises (Tm.ByKey c) (Tm.entsOf l)) (hf : l.length ≤ 64) (hs : ∀ e ∈ Tm.entsOf l, e.1.size ≤ 64 ∧ e.2.size ≤ 64) (hm : ∀ x ∈ l, x ∈ s.now ∨ (x.1 = s.next ∧ s.next < N)) (h1 : ∀ x ∈ l, ∀ y ∈ l, x.1 = y.1 → x = y) : StOk c { s with now := l, next := N } := by
 have hall : ∀ x ∈ allVers { s with now := l, next := N }, x ∈ allVers s ∨ (x.1 = s.next ∧ s.next < N ∧ x ∈ l) := fun x hx => by
  rcases mem_all hx with e | ⟨g, hg, e⟩
  ·rcases hm x e with e2 | e2
   ·exact .inl (mem_now e2)
   ·exact .inr ⟨e2.1, e2.2, e⟩
  ·exact .inl (mem_held (s := s) hg e)
 refine ⟨hr, by rw [nowOf_length]; exact hf, hs, h.heldOk, h.held8, fun x hx => ?_, fun x hx y hy e => ?_, h.given, h.apart, ?_⟩
 ·show x.1 < N
  rcases hall x hx with e | ⟨e, e2, _⟩
  ·have := h.less x e; omega
  ·omega
 ·rcases hall x hx with a | ⟨a, a2, a3⟩ <;> rcases hall y hy with b | ⟨b, b2, b3⟩
  ·exact h.one x a y b e
  ·have := h.less x a; omega
  ·have := h.less y b; omega
  ·exact h1 x a3 y b3 e
 ·refine Tm.Flow.last (fun x hx => ?_) h.flow
  rcases hm x hx with e | e
  ·exact .inl e
  ·refine .inr fun a ha hxa => ?_
   obtain ⟨g, hg, rfl⟩ := List.mem_map.1 ha
   have := h.less x (mem_held hg hxa)
   omega
theorem StOk.put {c : ByteArray → ByteArray → Int} (hT : Tm.Told c) {s : IxSt} (h : StOk c s) (k v : ByteArray) : StOk c (putSt c s k v) := by
 by_cases h0 : putErr c s k v = 0
 ·have hkv : k.size ≤ 64 ∧ v.size ≤ 64 := by
   unfold putErr at h0
   by_cases hl : 64 < k.size ∨ 64 < v.size
   ·rw [if_pos hl] at h0; omega
   ·omega
  have hfew : (Tm.verPut c s.now s.next k v).length ≤ 64 := by
   unfold putErr at h0
   rw [if_neg (by omega)] at h0
   have hfw := h.few
   cases hh : Tm.ixHas c (nowOf s) k
   ·rw [hh] at h0
    rw [Tm.verPut_new hT h.rises hh]
    rw [nowOf_length] at h0 hfw
    by_cases h9 : 64 ≤ s.now.length
    ·rw [if_pos ⟨rfl, h9⟩] at h0; omega
    ·simp; omega
   ·rw [Tm.verPut_there hT h.rises hh, List.length_set]
    rw [nowOf_length] at hfw; exact hfw
  unfold putSt
  rw [if_pos h0]
  refine h.turn (Nat.le_succ _) (by rw [Tm.entsOf_put]; exact Tm.ixPut_rises hT h.rises) hfew (fun e he => ?_) (fun x hx => ?_) (fun x hx y hy e => ?_)
  ·rw [Tm.entsOf_put] at he
   rcases Tm.ixPut_mem.1 he with rfl | ⟨h1, _⟩
   ·exact hkv
   ·exact h.short e h1
  ·rcases Tm.verPut_mem hx with rfl | e
   ·exact .inr ⟨rfl, Nat.lt_succ_self _⟩
   ·exact .inl e
  ·rcases Tm.verPut_mem hx with rfl | a <;> rcases Tm.verPut_mem hy with rfl | b
   ·rfl
   ·have := h.less y (mem_now b); simp only at e; omega
   ·have := h.less x (mem_now a); simp only at e; omega
   ·exact h.one x (mem_now a) y (mem_now b) e
 ·rw [putSt_no h0]; exact h
theorem StOk.drop {c : ByteArray → ByteArray → Int} {s : IxSt} (h : StOk c s) (k : ByteArray) : StOk c (dropSt c s k) := by
 unfold dropSt
 split
 ·exact h
 ·split
  ·refine h.turn (Nat.le_succ _) (by rw [Tm.entsOf_drop]; exact Tm.ixDrop_rises h.rises) ?_ (fun e he => ?_) (fun x hx => .inl (Tm.verDrop_mem hx)) (fun x hx y hy e => h.one x (mem_now (Tm.verDrop_mem hx)) y (mem_now (Tm.verDrop_mem hy)) e)
   ·have h1 := h.few
    rw [nowOf_length] at h1
    exact Nat.le_trans (List.length_filter_le _ _) h1
   ·rw [Tm.entsOf_drop] at he
    exact h.short e (Tm.ixDrop_mem.1 he).1
  ·exact h
theorem told_cmpOf (lns : List Tm.Ln) (st : Int) (sh : Bool) : Tm.Told (cmpOf lns st sh) := ⟨fun a b => cmpOf_neg lns st sh a b, fun h k => cmpOf_trans h k⟩
def placeOf (lns : List Tm.Ln) (st : Int) (sh : Bool) (s : ByteArray) : ByteArray := ⟨(keyBytes lns st sh s).toArray⟩
def entCells (es : Tm.Ents) : List Value := es.flatMap fun e => [.string e.1, .string e.2]
theorem entCells_length (es : Tm.Ents) : (entCells es).length = es.length * 2 := by
 induction es with
 | nil => rfl
 | cons e r ih => simp only [entCells, List.flatMap_cons, List.length_append, List.length_cons] at *; rw [ih]; simp; omega
theorem entCells_append (a b : Tm.Ents) : entCells (a ++ b) = entCells a ++ entCells b := by simp [entCells]
theorem rows_get {α : Type} (f : α → List Value) (m : Nat) (hf : ∀ x, (f x).length = m) : ∀ (l : List α) (k : Nat) (hk : k < l.length) (j : Nat), j < m → (l.flatMap f)[k * m + j]? = (f l[k])[j]?
 | [], k, hk, _, _ => by simp at hk
 | x :: r, 0, _, j, hj => by
  rw [List.flatMap_cons, Nat.zero_mul, Nat.zero_add, List.getElem?_append_left (by rw [hf]; exact hj)]
  rfl
 | x :: r, k + 1, hk, j, hj => by
  rw [List.flatMap_cons, List.getElem?_append_right (by rw [hf, Nat.succ_mul]; omega), hf, show (k + 1) * m + j - m = k * m + j by rw [Nat.succ_mul]; omega]
  exact rows_get f m hf r k (by simpa using hk) j hj
theorem ents_at {w : World} {a : Option Addr} {n cap : Nat} {es : Tm.Ents} (h : Reads w (.slice a n cap) 2 es.length (entCells es)) {k : Nat} (hk : k < es.length) :
  ∃ g off, a = some ⟨g, off, none⟩ ∧ g < w.heap.size ∧ w.cell? ⟨g, off + k * 2, none⟩ = some (.string es[k].1) ∧ w.cell? ⟨g, off + k * 2 + 1, none⟩ = some (.string es[k].2) := by
 obtain ⟨g, off, cap', he, hg, hc⟩ := h.form (by rw [entCells_length]; omega)
 cases he
 have hr := rows_get (fun e : ByteArray × ByteArray => [Value.string e.1, Value.string e.2]) 2 (fun _ => rfl) es k hk
 exact ⟨g, off, rfl, hg, hc (k * 2) _ (hr 0 (by omega)), hc (k * 2 + 1) _ (hr 1 (by omega))⟩
def ptrs (B : Nat → Nat) (l : Tm.Vers) : List Value := l.map fun x => .pointer (some ⟨B x.1, 0, none⟩)
theorem ptrs_length (B : Nat → Nat) (l : Tm.Vers) : (ptrs B l).length = l.length := List.length_map _
theorem ptrs_one (B : Nat → Nat) (l : Tm.Vers) : ∀ u ∈ ptrs B l, u.oneCell' = true := by
 intro u hu
 obtain ⟨e, _, rfl⟩ := List.mem_map.1 hu
 rfl
theorem ptrs_congr {B B' : Nat → Nat} {l : Tm.Vers} (h : ∀ x ∈ l, B' x.1 = B x.1) : ptrs B' l = ptrs B l := List.map_congr_left fun x hx => by rw [h x hx]
def snapCells (V : Nat → Value) (l : List (Nat × Tm.Vers)) : List Value := l.flatMap fun g => [.int .i64 g.1, V g.1]
def VerAt (w : World) (K : ByteArray → ByteArray) (B : Nat → Nat) (x : Tm.Ver) : Prop :=
 B x.1 < w.heap.size ∧ w.cell? ⟨B x.1, 0, none⟩ = some (.string (K x.2.1)) ∧ w.cell? ⟨B x.1, 1, none⟩ = some (.string x.2.1) ∧ w.cell? ⟨B x.1, 2, none⟩ = some (.string x.2.2) ∧ w.heap[B x.1]? = some (.cells #[.string (K x.2.1), .string x.2.1, .string x.2.2] 137)
theorem VerAt.of_block {w w' : World} {K : ByteArray → ByteArray} {B B' : Nat → Nat} {x : Tm.Ver} (h : VerAt w K B x) (hz : w.heap.size ≤ w'.heap.size) (hb : w'.heap[B x.1]? = w.heap[B x.1]?) (hB : B' x.1 = B x.1) : VerAt w' K B' x := by
 obtain ⟨h0, h1, h2, h3, h4⟩ := h
 unfold VerAt
 rw [hB]
 exact ⟨by omega, (World.cell?_of_block (a := ⟨B x.1, 0, none⟩) hb).trans h1, (World.cell?_of_block (a := ⟨B x.1, 1, none⟩) hb).trans h2, (World.cell?_of_block (a := ⟨B x.1, 2, none⟩) hb).trans h3, hb.trans h4⟩
structure VRow (w : World) (K : ByteArray → ByteArray) (B : Nat → Nat) (v : Value) (l : Tm.Vers) : Prop where
 reads : Reads w v 1 l.length (ptrs B l)
 at_ : ∀ x ∈ l, VerAt w K B x
theorem VRow.below {w w' : World} {K : ByteArray → ByteArray} {B : Nat → Nat} {v : Value} {l : Tm.Vers} (h : VRow w K B v l) (hb : Below w.heap.size w w') : VRow w' K B v l :=
 ⟨h.reads.below hb h.reads.2.1, fun x hx => (h.at_ x hx).of_block hb.size (hb.block _ (h.at_ x hx).1) rfl⟩
theorem VRow.get {w : World} {K : ByteArray → ByteArray} {B : Nat → Nat} {a : Option Addr} {n cap : Nat} {l : Tm.Vers} (h : VRow w K B (.slice a n cap) l) {k : Nat} (hk : k < l.length) :
  ∃ g off, a = some ⟨g, off, none⟩ ∧ g < w.heap.size ∧ w.cell? ⟨g, off + k, none⟩ = some (.pointer (some ⟨B l[k].1, 0, none⟩)) ∧ VerAt w K B l[k] := by
 obtain ⟨g, off, cap', he, hg, hc⟩ := h.reads.form (by rw [ptrs_length]; omega)
 cases he
 exact ⟨g, off, rfl, hg, hc k _ (by simp [ptrs, hk]), h.at_ _ (List.getElem_mem hk)⟩
structure IxIn (w : World) (X : Nat) (S F : Nat → Prop) (bx : Nat) (K : ByteArray → ByteArray) (s : IxSt) (B : Nat → Nat) (V : Nat → Value) (v h : Value) : Prop where
 c1 : w.cell? ⟨bx, 1, none⟩ = some v
 c2 : w.cell? ⟨bx, 2, none⟩ = some h
 now : w.ownsRow X 138 1 v s.now.length (ptrs B s.now)
 held : w.ownsRow X 142 2 h s.held.length (snapCells V s.held)
 vS : ∀ g, v.ownBlock = some g → S g ∧ g ≠ bx ∧ h.ownBlock ≠ some g ∧ ¬ F g
 hS : ∀ g, h.ownBlock = some g → S g ∧ g ≠ bx ∧ ¬ F g
 fS : ∀ i, F i → S i ∧ i ≠ bx
 vers : ∀ x ∈ allVers s, F (B x.1) ∧ VerAt w K B x
 inj : ∀ x ∈ allVers s, ∀ y ∈ allVers s, B x.1 = B y.1 → x.1 = y.1
 rows : ∀ g ∈ s.held, w.ownsRow X 138 1 (V g.1) g.2.length (ptrs B g.2) ∧ ∀ b, (V g.1).ownBlock = some b → F b
structure Ix (w : World) (X : Nat) (S : Nat → Prop) (bx bc : Nat) (st : Int) (sh : Bool) (lns : List Tm.Ln) (s : IxSt) : Prop where
 from_ : ∀ i, S i → X ≤ i ∧ i < w.heap.size
 own : S bx
 c0 : w.cell? ⟨bx, 0, none⟩ = some (.pointer (some ⟨bc, 0, none⟩))
 c3 : w.cell? ⟨bx, 3, none⟩ = some (.int .i64 s.given)
 free : ∀ o, w.frozen? ⟨bx, o, none⟩ = false
 mem : ∃ F B V v h, IxIn w X S F bx (placeOf lns st sh) s B V v h
 ok : StOk (cmpOf lns st sh) s
theorem Ix.rises {w : World} {X : Nat} {S : Nat → Prop} {bx bc : Nat} {st : Int} {sh : Bool} {lns : List Tm.Ln} {s : IxSt} (h : Ix w X S bx bc st sh lns s) : Tm.Rises (Tm.ByKey (cmpOf lns st sh)) (nowOf s) := h.ok.rises
theorem Ix.few {w : World} {X : Nat} {S : Nat → Prop} {bx bc : Nat} {st : Int} {sh : Bool} {lns : List Tm.Ln} {s : IxSt} (h : Ix w X S bx bc st sh lns s) : (nowOf s).length ≤ 64 := h.ok.few
theorem IxIn.fixed {w w' : World} {X : Nat} {S F T : Nat → Prop} {bx : Nat} {K : ByteArray → ByteArray} {s : IxSt} {B : Nat → Nat} {V : Nat → Value} {v h : Value} (hi : IxIn w X S F bx K s B V v h) (hf : Foot T w w') (hT : ∀ i, F i → ¬ T i) :
  (∀ x ∈ allVers s, F (B x.1) ∧ VerAt w' K B x) ∧ ∀ g ∈ s.held, w'.ownsRow X 138 1 (V g.1) g.2.length (ptrs B g.2) ∧ ∀ b, (V g.1).ownBlock = some b → F b :=
 ⟨fun x hx => ⟨(hi.vers x hx).1, (hi.vers x hx).2.of_block hf.size (hf.block _ (hi.vers x hx).2.1 (hT _ (hi.vers x hx).1)) rfl⟩,
  fun g hg => ⟨hf.owns (hi.rows g hg).1 (fun b e => hT b ((hi.rows g hg).2 b e)), (hi.rows g hg).2⟩⟩
theorem Ix.foot {w w' : World} {X : Nat} {S T : Nat → Prop} {bx bc : Nat} {st : Int} {sh : Bool} {lns : List Tm.Ln} {s : IxSt} (h : Ix w X S bx bc st sh lns s) (hf : Foot T w w') (hd : ∀ i, S i → ¬ T i) : Ix w' X S bx bc st sh lns s := by
 have hl := (h.from_ bx h.own).2
 have hcell : ∀ o, w'.cell? ⟨bx, o, none⟩ = w.cell? ⟨bx, o, none⟩ := fun o => hf.cell (p := ⟨bx, o, none⟩) hl (hd bx h.own)
 obtain ⟨F, B, V, v, g, hi⟩ := h.mem
 have hx := hi.fixed hf (fun i e => hd i (hi.fS i e).1)
 exact ⟨fun i hi => ⟨(h.from_ i hi).1, Nat.lt_of_lt_of_le (h.from_ i hi).2 hf.size⟩, h.own, by rw [hcell]; exact h.c0, by rw [hcell]; exact h.c3, fun o => by rw [hf.frozen (p := ⟨bx, o, none⟩) hl (hd bx h.own)]; exact h.free o,
  ⟨F, B, V, v, g, by rw [hcell]; exact hi.c1, by rw [hcell]; exact hi.c2, hf.owns hi.now (fun b e => hd b (hi.vS b e).1), hf.owns hi.held (fun b e => hd b (hi.hS b e).1), hi.vS, hi.hS, hi.fS, hx.1, hi.inj, hx.2⟩, h.ok⟩
theorem Ix.below {w w' : World} {X : Nat} {S : Nat → Prop} {bx bc : Nat} {st : Int} {sh : Bool} {lns : List Tm.Ln} {s : IxSt} (h : Ix w X S bx bc st sh lns s) (hb : Below w.heap.size w w') : Ix w' X S bx bc st sh lns s :=
 h.foot (Foot.of (S := fun _ => False) hb) (fun _ _ e => e)
def IxStep (w w' : World) (X : Nat) (S : Nat → Prop) (bx bc : Nat) (st : Int) (sh : Bool) (lns : List Tm.Ln) (s : IxSt) : Prop :=
 ∃ S' : Nat → Prop, Ix w' X S' bx bc st sh lns s ∧ Foot S w w' ∧ ∀ i, S' i → S i ∨ w.heap.size ≤ i
theorem IxStep.of_below {w w' : World} {X : Nat} {S : Nat → Prop} {bx bc : Nat} {st : Int} {sh : Bool} {lns : List Tm.Ln} {s : IxSt} (h : Ix w X S bx bc st sh lns s) (hb : Below w.heap.size w w') : IxStep w w' X S bx bc st sh lns s :=
 ⟨S, h.below hb, Foot.of hb, fun _ hi => .inl hi⟩
def scanOf (c : ByteArray → ByteArray → Int) (es : Tm.Ents) (lo hi : ByteArray) (limit : Int) (w : World) (e : Ending) (w' : World) : Prop :=
 Below w.heap.size w w' ∧
 if 64 < lo.size ∨ 64 < hi.size then e = .returned (.tuple #[.slice none 0 0, .int .i64 7])
 else if limit < 0 then e = .returned (.tuple #[.slice none 0 0, .int .i64 10])
 else ∃ v, e = .returned (.tuple #[v, .int .i64 0]) ∧ w'.ownsRow w.heap.size 67 2 v ((Tm.ixScan c es lo hi).take limit.toNat).length (entCells ((Tm.ixScan c es lo hi).take limit.toNat))
def scanAns (c : ByteArray → ByteArray → Int) (s : IxSt) (lo hi : ByteArray) (limit : Int) (w : World) (e : Ending) (w' : World) : Prop := scanOf c (nowOf s) lo hi limit w e w'
set_option maxRecDepth 100000 in
set_option maxHeartbeats 1000000 in
theorem lawSameEnts_any (va vb : Value) (l : Tm.Ents) (w : World) (ha : Reads w va 2 l.length (entCells l)) (hb : Reads w vb 2 l.length (entCells l)) (hl : l.length ≤ 1000000) :
  Calls Tryz.prog 138 #[va, vb] w fun e w' => e = .returned (.bool true) ∧ ∃ n, w' = w.drewN n := by
 obtain ⟨a, cap, rfl⟩ := ha.shape
 obtain ⟨a', cap', rfl⟩ := hb.shape
 have HA := hide ha
 have HB := hide hb
 obtain ⟨n, hn⟩ : ∃ n, l.length = n := ⟨_, rfl⟩
 have HN := hide hn
 rw [hn] at hl HA HB
 rw [hn]
 clear ha hb hn
 go_enter Tryz.func138, Tryz.ntmps138
 go_wp2
 go_loopw [5] (fun i wr => ∃ k : Nat, k ≤ n ∧ i = .int .i64 k ∧ ∃ q, wr = w.drewN q) (fun i _ => n - (intOf i).toNat)
 case atStart => exact ⟨0, Nat.zero_le _, rfl, 0, rfl⟩
 case round =>
  obtain ⟨k, hk, rfl, q, rfl⟩ := hrel
  by_cases hlt : k < n
  ·have hlt' : k < l.length := by rw [HN.out]; exact hlt
   obtain ⟨g, off, rfl, hg, c0, c1⟩ := ents_at (by rw [HN.out]; exact HA.out) hlt'
   obtain ⟨g', off', rfl, hg', d0, d1⟩ := ents_at (by rw [HN.out]; exact HB.out) hlt'
   have i1 : (0 : Int) ≤ (k : Int) := by omega
   have i2 : (k : Int) < (n : Int) := by omega
   generalize l[k] = x at *
   obtain ⟨p, s⟩ := x
   simp only at c0 c1 d0 d1
   clear hlt'
   go_wp2
   go_quiet (fail)
   go_wp2
   go_roundw
   case rel => exact ⟨k + 1, by omega, by go_num, _, rfl⟩
   case measure => simp [intOf]; omega
  ·go_wp2
   go_ret
   exact ⟨rfl, q, rfl⟩
def lettersOn (s : ByteArray) (n : Nat) : ByteArray := if h : n = 0 then s else lettersOn (s ++ ⟨#[(65 + n % 26).toUInt8]⟩) (n / 26)
termination_by n
decreasing_by omega
def mkTxt (n : Nat) : ByteArray := lettersOn ⟨#[116, 104, 101, 32, 99, 97, 108, 108, 101, 114, 39, 115, 32]⟩ n
def mkEnt (n : Nat) : ByteArray × ByteArray := (mkTxt n, ⟨#[120]⟩)
set_option maxRecDepth 100000 in
theorem markEntry_any (n : Nat) (w : World) (h : n ≤ 1000000000) :
  Calls Tryz.prog 51 #[.int .i64 n] w fun e w' => e = .returned (.agg #[.string (mkTxt n), .string ⟨#[120]⟩]) ∧ Below w.heap.size w w' := by
 go_enter Tryz.func51, Tryz.ntmps51
 go_wp2
 go_loopw [0, 3] (fun i t wr => ∃ m : Nat, ∃ s : ByteArray, m ≤ n ∧ i = .int .i64 m ∧ t = .string s ∧ lettersOn s m = mkTxt n ∧ s.size ≤ 13 + (n - m) ∧ Below (w.heap.size + 1) (w.alloc (.cells #[.string .empty, .string .empty] 67)) wr) (fun i _ _ => (intOf i).toNat)
 case atStart => exact ⟨n, _, Nat.le_refl _, rfl, rfl, rfl, by simp [ByteArray.size], Below.refl _ _⟩
 case round =>
  obtain ⟨m, s, hm, rfl, rfl, hs, hsz, hB⟩ := hrel
  have k0 : wr.cell? ⟨w.heap.size, 0, none⟩ = some (.string .empty) := by rw [hB.cell (p := ⟨w.heap.size, 0, none⟩) (by simp), cell_new rfl]; rfl
  have k1 : wr.cell? ⟨w.heap.size, 1, none⟩ = some (.string .empty) := by rw [hB.cell (p := ⟨w.heap.size, 1, none⟩) (by simp), cell_new rfl]; rfl
  have kf : wr.heap[w.heap.size]? = some (.cells #[.string .empty, .string .empty] 67) := by rw [hB.block w.heap.size (by omega)]; exact heap_alloc_new w _
  have f0 : wr.frozen? ⟨w.heap.size, 0, none⟩ = false := by simp [World.frozen?, kf]
  have f1 : wr.frozen? ⟨w.heap.size, 1, none⟩ = false := by simp [World.frozen?, kf]
  have hz := hB.size
  have hz : w.heap.size + 1 ≤ wr.heap.size := by simpa using hz
  clear kf
  by_cases hp : 0 < m
  ·have i1 : (0 : Int) < (m : Int) := by omega
   have HB := hide hB
   have HS := hide hs
   have hu : (((65 + m % 26).toUInt8).toNat : Int) = 65 + (m : Int) % 26 := by
    have : ((65 + m % 26).toUInt8).toNat = 65 + m % 26 := by rw [Nat.toUInt8, UInt8.toNat_ofNat']; omega
    rw [this]; omega
   have hconv := run_convert_bytes_back (P := Tryz.prog) (wr.alloc (.cells #[.int .u8 (65 + (m : Int) % 26)] 5)) 177 9 5 ⟨wr.heap.size, 0, none⟩ 1 [(65 + m % 26).toUInt8] Tryz.underlying177 Tryz.underlying5 Tryz.underlying9 (fun j hj => by
    have hj0 : j = 0 := by simpa using hj
    subst hj0
    simp only [List.getElem_cons_zero, hu]
    rw [addr_add, cell_new rfl]; rfl)
   have hs9 : s.size + 1 ≤ 2000000000 := by omega
   have HSZ : Hid ((s ++ ⟨#[(65 + m % 26).toUInt8]⟩).size = s.size + 1) := by unfold Hid; rw [ByteArray.size_append]; rfl
   have HSN : Hid (lettersOn (s ++ ⟨#[(65 + m % 26).toUInt8]⟩) (m / 26) = mkTxt n) := by unfold Hid; rw [← HS.out, lettersOn.eq_1 s m, dif_neg (by omega)]
   generalize (65 + m % 26).toUInt8 = b at *
   simp only [List.length_cons, List.length_nil, Nat.zero_add] at hconv
   clear hB hs hu
   go_wp2
   go_roundw
   case rel =>
    refine ⟨m / 26, _, by omega, by go_num, rfl, ?_, ?_, HB.out.alloc (by omega) _⟩
    ·exact HSN.out
    ·rw [HSZ.out]; omega
   case measure => simp [intOf]; omega
  ·have hm0 : m = 0 := by omega
   have HS : Hid (s = mkTxt n) := by unfold Hid; rw [← hs, hm0, lettersOn.eq_1, dif_pos rfl]
   have HB := hide hB
   clear hs hB
   have r0 : (wr.setCell ⟨w.heap.size, 0, none⟩ (.string s)).cell? ⟨w.heap.size, 0, none⟩ = some (.string s) := World.cell?_setCell_same _ _ _ k0
   have r1 : ((wr.setCell ⟨w.heap.size, 0, none⟩ (.string s)).setCell ⟨w.heap.size, 1, none⟩ (.string ⟨#[120]⟩)).cell? ⟨w.heap.size, 1, none⟩ = some (.string ⟨#[120]⟩) := World.cell?_setCell_same _ _ _ (by rw [World.cell?_setCell_other _ _ _ _ (by simp)]; exact k1)
   go_wp2
   refine bodyPost_ret (v := .agg #[.string s, .string ⟨#[120]⟩]) (by simp [results, Tryz.results51, go_sem, r0, r1]) rfl ⟨by rw [HS.out], ?_⟩
   refine Below.setCell (Below.setCell ?_ (by simp) _) (by simp) _
   exact ((Below.refl _ _).alloc (Nat.le_refl _) _).trans (HB.out.mono (by omega))
theorem compareBytes_cmpB : ∀ (a b : List UInt8), Lib.compareBytes a b = Tm.cmpB a b
 | [], [] => rfl
 | [], _ :: _ => rfl
 | _ :: _, [] => rfl
 | a :: x, b :: y => by
  rw [Lib.compareBytes, compareBytes_cmpB x y]
  unfold Tm.cmpB
  conv => rhs; unfold Tm.lessB
  by_cases h1 : a < b
  ·simp [h1]
  ·by_cases h2 : b < a
   ·simp [h1, h2]
   ·simp [h1, h2]
theorem run_cmpStr (a b : ByteArray) (w : World) : (callFunc 185 #[.string a, .string b]).run Tryz.prog w = .ok (.value (.int .i64 (Tm.cmpB a.data.toList b.data.toList))) w := by
 rw [run_callFunc_extern Tryz.func185 (by kernel_rfl) (by kernel_rfl) (by kernel_rfl) (show Extern.find _ = some Extern.BytealgCompare.compare by kernel_rfl), Lib.run_compareString, compareBytes_cmpB]
 simp
set_option maxRecDepth 100000 in
theorem CompareString_any (a b : ByteArray) (w : World) : Calls Tryz.prog 173 #[.string a, .string b] w fun e w' => e = .returned (.int .i64 (Tm.cmpB a.data.toList b.data.toList)) ∧ w' = w := by
 have h := run_cmpStr a b w
 go_enter Tryz.func173, Tryz.ntmps173
 go_wp2
 go_ret
 exact ⟨rfl, rfl⟩
set_option maxRecDepth 100000 in
theorem strCompare_any (a b : ByteArray) (w : World) : Calls Tryz.prog 150 #[.string a, .string b] w fun e w' => e = .returned (.int .i64 (Tm.cmpB a.data.toList b.data.toList)) ∧ w' = w := by
 go_enter Tryz.func150, Tryz.ntmps150
 go_wp2_with fail
 refine (CompareString_any a b _).mono ?_
 rintro e w' ⟨rfl, rfl⟩
 go_wp2
 go_ret
 exact ⟨rfl, rfl⟩
set_option maxRecDepth 100000 in
set_option maxHeartbeats 1000000 in
theorem verCompare_any (b : Nat) (p q : ByteArray) (w : World) (h0 : w.cell? ⟨b, 0, none⟩ = some (.string p)) : Calls Tryz.prog 111 #[.pointer (some ⟨b, 0, none⟩), .string q] w fun e w' => e = .returned (.int .i64 (Tm.cmpB p.data.toList q.data.toList)) ∧ Below w.heap.size w w' := by
 go_enter Tryz.func111, Tryz.ntmps111
 go_wp2_with fail
 refine (strCompare_any p q _).mono ?_
 rintro e w' ⟨rfl, rfl⟩
 go_wp2
 go_ret
 exact ⟨rfl, Below.refl _ _⟩
def Keyed (K : ByteArray → ByteArray) (c : ByteArray → ByteArray → Int) : Prop := ∀ a b, Tm.cmpB (K a).data.toList (K b).data.toList = c a b
theorem keyed_place {lns : List Tm.Ln} (hf : ∀ o ∈ lns, Tm.Fit o) {st : Int} {sh : Bool} (hst : 1 ≤ st ∧ st ≤ 4) : Keyed (placeOf lns st sh) (cmpOf lns st sh) := fun a b => by
 have := key_cmp hf (sh := sh) hst a b
 simpa [placeOf] using this
set_option maxRecDepth 100000 in
set_option maxHeartbeats 4000000 in
theorem Search_any (K : ByteArray → ByteArray) (c : ByteArray → ByteArray → Int) (hK : Keyed K c) (hT : Tm.Told c) (es : Tm.Vers) (hr : Tm.Rises (Tm.ByKey c) (Tm.entsOf es)) (B : Nat → Nat) (v : Value) (k : ByteArray) (w : World) (hrd : VRow w K B v es) (hl : es.length ≤ 1000) :
  Calls Tryz.prog 110 #[v, .string (K k), .func (.func 111) #[] #[]] w fun e w' => e = .returned (.tuple #[.int .i64 (Tm.below c (Tm.entsOf es) k : Nat), .bool (Tm.ixHas c (Tm.entsOf es) k)]) ∧ Below w.heap.size w w' := by
 obtain ⟨a, cap, rfl⟩ := hrd.reads.shape
 have HRD := hide hrd
 have HK := hide hK
 have HB : Hid (∀ i (hi : i < es.length), c es[i].2.1 k < 0 ↔ i < Tm.below c (Tm.entsOf es) k) := fun i hi => by
  have := Tm.below_at hT (k := k) hr (by rw [Tm.entsOf_length]; exact hi)
  rwa [Tm.entsOf_get hi] at this
 have HH : Hid (Tm.ixHas c (Tm.entsOf es) k = true ↔ ∃ hi : Tm.below c (Tm.entsOf es) k < es.length, c (es[Tm.below c (Tm.entsOf es) k]).2.1 k = 0) := by
  unfold Hid
  rw [Tm.ixHas_at hT (k := k) hr]
  constructor
  ·rintro ⟨h1, h2⟩
   rw [Tm.entsOf_length] at h1
   rw [Tm.entsOf_get h1] at h2
   exact ⟨h1, h2⟩
  ·rintro ⟨h1, h2⟩
   refine ⟨by rw [Tm.entsOf_length]; exact h1, ?_⟩
   rw [Tm.entsOf_get h1]; exact h2
 have hle := Tm.below_le c (Tm.entsOf es) k
 rw [Tm.entsOf_length] at hle
 obtain ⟨b, hb⟩ : ∃ b, Tm.below c (Tm.entsOf es) k = b := ⟨_, rfl⟩
 obtain ⟨has, hhas⟩ : ∃ has, Tm.ixHas c (Tm.entsOf es) k = has := ⟨_, rfl⟩
 rw [hb] at HB hle ⊢
 rw [hhas] at HH ⊢
 have HBE := hide hb
 obtain ⟨n, hn⟩ : ∃ n, es.length = n := ⟨_, rfl⟩
 have HN := hide hn
 rw [hn] at hl hle
 have HRN : Hid (∀ wr, Below w.heap.size w wr → VRow wr K B (.slice a n cap) es) := fun wr hb => by have := hrd.below hb; rwa [hn] at this
 rw [hn]
 clear hrd hK hT hr hn hb hhas HRD
 go_enter Tryz.func110, Tryz.ntmps110
 go_wp2_with fail
 go_loopg [9, 10] n (fun kx s9 s10 wr => ∃ lo hi : Nat, s9 = .int .i64 lo ∧ s10 = .int .i64 hi ∧ lo ≤ b ∧ b ≤ hi ∧ hi ≤ n ∧ hi - lo ≤ kx ∧ Hid (Below w.heap.size w wr))
 case atStart => exact ⟨0, n, rfl, rfl, Nat.zero_le _, hle, Nat.le_refl _, by omega, Below.refl _ _⟩
 case round =>
  obtain ⟨lo, hi, rfl, rfl, hlb, hbh, hin, hg, HW⟩ := hrel
  by_cases hlt : lo < hi
  ·have hm : (lo + hi) / 2 < es.length := by rw [HN.out]; omega
   obtain ⟨g, off, rfl, hgl, c0, hva⟩ := (HRN.out wr HW.out).get hm
   have HC := hide (HK.out es[(lo + hi) / 2].2.1 k)
   have HBA := hide (HB.out _ hm)
   have HVA := hide hva
   generalize es[(lo + hi) / 2] = y at *
   have i1 : (0 : Int) ≤ ((lo : Int) + (hi : Int)) / 2 := by omega
   have i2 : ((lo : Int) + (hi : Int)) / 2 < (n : Int) := by omega
   have i3 : (((lo : Int) + (hi : Int)) / 2).toNat = (lo + hi) / 2 := by omega
   clear hva
   go_wp2_with fail
   refine (verCompare_any (B y.1) (K y.2.1) (K k) _ HVA.out.2.1).mono ?_
   rintro e w1 ⟨rfl, hb1⟩
   rw [HC.out]
   have HW1 := hide (HW.out.trans (hb1.mono HW.out.size))
   clear hb1
   by_cases hy : c y.2.1 k < 0
   ·have hlt2 := HBA.out.1 hy
    go_wp2
    go_roundg (hi - ((lo + hi) / 2 + 1))
    case measure => omega
    case rel => exact ⟨(lo + hi) / 2 + 1, hi, by rw [show ((lo : Int) + (hi : Int)) / 2 + 1 = (((lo + hi) / 2 + 1 : Nat) : Int) by omega], rfl, by omega, hbh, hin, Nat.le_refl _, HW1.out⟩
   ·have hge : ¬ (lo + hi) / 2 < b := fun h => hy (HBA.out.2 h)
    go_wp2
    go_roundg ((lo + hi) / 2 - lo)
    case measure => omega
    case rel => exact ⟨lo, (lo + hi) / 2, rfl, by rw [show ((lo : Int) + (hi : Int)) / 2 = (((lo + hi) / 2 : Nat) : Int) by omega], hlb, by omega, by omega, Nat.le_refl _, HW1.out⟩
  ·have e1 : hi = b := by omega
   have e2 : lo = b := by omega
   subst e1
   subst e2
   by_cases hlt2 : lo < n
   ·have hm : lo < es.length := by rw [HN.out]; omega
    obtain ⟨g, off, rfl, hgl, c0, hva⟩ := (HRN.out wr HW.out).get hm
    have HC := hide (HK.out es[lo].2.1 k)
    have HHA : Hid (has = decide (c es[lo].2.1 k = 0)) := by
     unfold Hid
     rw [Bool.eq_iff_iff, HH.out, decide_eq_true_eq]
     constructor
     ·rintro ⟨h1, h2⟩
      have := HBE.out
      subst this
      exact h2
     ·intro h2
      have := HBE.out
      subst this
      exact ⟨hm, h2⟩
    have HVA := hide hva
    generalize es[lo] = y at *
    have i1 : (0 : Int) ≤ (lo : Int) := by omega
    have i2 : (lo : Int) < (n : Int) := by omega
    clear hva
    go_wp2_with fail
    refine (verCompare_any (B y.1) (K y.2.1) (K k) _ HVA.out.2.1).mono ?_
    rintro e w1 ⟨rfl, hb1⟩
    rw [HC.out]
    have HW1 := hide (HW.out.trans (hb1.mono HW.out.size))
    clear hb1
    go_wp2
    go_ret2
    exact ⟨by rw [HHA.out]; simp; rfl, HW1.out⟩
   ·have HHA : Hid (has = false) := by
     unfold Hid
     rw [Bool.eq_false_iff]
     intro h
     obtain ⟨h1, _⟩ := HH.out.1 h
     rw [HBE.out, HN.out] at h1
     omega
    go_wp2
    go_ret2
    exact ⟨by rw [HHA.out]; rfl, HW.out⟩
set_option maxRecDepth 100000 in
set_option maxHeartbeats 1000000 in
theorem find_any (K : ByteArray → ByteArray) (c : ByteArray → ByteArray → Int) (hK : Keyed K c) (hT : Tm.Told c) (es : Tm.Vers) (hr : Tm.Rises (Tm.ByKey c) (Tm.entsOf es)) (B : Nat → Nat) (v : Value) (k : ByteArray) (w : World) (hrd : VRow w K B v es) (hl : es.length ≤ 1000) :
  Calls Tryz.prog 66 #[v, .string (K k)] w fun e w' => e = .returned (.tuple #[.int .i64 (Tm.below c (Tm.entsOf es) k : Nat), .bool (Tm.ixHas c (Tm.entsOf es) k)]) ∧ Below w.heap.size w w' := by
 obtain ⟨a, cap, rfl⟩ := hrd.reads.shape
 have HRD := hide hrd
 clear hrd
 go_enter Tryz.func66, Tryz.ntmps66
 go_wp2_with fail
 refine (Search_any K c hK hT es hr B _ k _ HRD.out hl).mono ?_
 rintro e w1 ⟨rfl, hb1⟩
 have HB1 := hide hb1
 clear hb1
 go_wp2
 go_ret2
 exact ⟨rfl, HB1.out⟩
set_option maxRecDepth 100000 in
set_option maxHeartbeats 1000000 in
theorem countBelow_any (K : ByteArray → ByteArray) (c : ByteArray → ByteArray → Int) (hK : Keyed K c) (hT : Tm.Told c) (es : Tm.Vers) (hr : Tm.Rises (Tm.ByKey c) (Tm.entsOf es)) (B : Nat → Nat) (v : Value) (k : ByteArray) (w : World) (hrd : VRow w K B v es) (hl : es.length ≤ 1000) :
  Calls Tryz.prog 108 #[v, .string (K k)] w fun e w' => e = .returned (.int .i64 (Tm.below c (Tm.entsOf es) k : Nat)) ∧ Below w.heap.size w w' := by
 obtain ⟨a, cap, rfl⟩ := hrd.reads.shape
 have HRD := hide hrd
 clear hrd
 go_enter Tryz.func108, Tryz.ntmps108
 go_wp2_with fail
 refine (find_any K c hK hT es hr B _ k _ HRD.out hl).mono ?_
 rintro e w1 ⟨rfl, hb1⟩
 have HB1 := hide hb1
 clear hb1
 go_wp2
 go_ret
 exact ⟨rfl, HB1.out⟩
theorem Ix.turn {w w' : World} {X : Nat} {S F : Nat → Prop} {bx bc : Nat} {st : Int} {sh : Bool} {lns : List Tm.Ln} {s : IxSt} {B : Nat → Nat} {V : Nat → Value} {v h v' : Value} (hx : Ix w X S bx bc st sh lns s) (hi : IxIn w X S F bx (placeOf lns st sh) s B V v h)
  (hf : Foot (fun i => i = bx ∨ v.ownBlock = some i) w w') (hc0 : w'.cell? ⟨bx, 0, none⟩ = w.cell? ⟨bx, 0, none⟩) (hc1 : w'.cell? ⟨bx, 1, none⟩ = some v') (hc2 : w'.cell? ⟨bx, 2, none⟩ = w.cell? ⟨bx, 2, none⟩) (hc3 : w'.cell? ⟨bx, 3, none⟩ = w.cell? ⟨bx, 3, none⟩) (hfr : ∀ o, w'.frozen? ⟨bx, o, none⟩ = w.frozen? ⟨bx, o, none⟩)
  (l : Tm.Vers) (M : Nat) (B' : Nat → Nat) (N : Nat → Prop) (hB : ∀ n, n < s.next → B' n = B n) (hown : w'.ownsRow X 138 1 v' l.length (ptrs B' l))
  (hat : ∀ g, v'.ownBlock = some g → v.ownBlock = some g ∨ (w.heap.size ≤ g ∧ ¬ N g)) (hN : ∀ i, N i → w.heap.size ≤ i ∧ i < w'.heap.size) (hnew : ∀ x ∈ l, x ∈ s.now ∨ (N (B' x.1) ∧ VerAt w' (placeOf lns st sh) B' x ∧ x.1 = s.next))
  (hok : StOk (cmpOf lns st sh) { s with now := l, next := M }) : IxStep w w' X S bx bc st sh lns { s with now := l, next := M } := by
 have hl := (hx.from_ bx hx.own).2
 have hfix := hi.fixed hf (fun i e => by
  rintro (e' | e')
  ·exact (hi.fS i e).2 e'
  ·exact (hi.vS i e').2.2.2 e)
 have hlt : ∀ i, S i → i < w.heap.size := fun i e => (hx.from_ i e).2
 have hold : ∀ x ∈ allVers s, B' x.1 = B x.1 := fun x e => hB _ (hx.ok.less x e)
 have hall : ∀ x ∈ allVers { s with now := l, next := M }, x ∈ allVers s ∨ (N (B' x.1) ∧ VerAt w' (placeOf lns st sh) B' x ∧ x.1 = s.next) := fun x e => by
  rcases mem_all e with e | ⟨g, hg, e⟩
  ·rcases hnew x e with e2 | e2
   ·exact .inl (mem_now e2)
   ·exact .inr e2
  ·exact .inl (mem_held (s := s) hg e)
 have hneb : ∀ g, v'.ownBlock = some g → g ≠ bx := fun g e => by
  rcases hat g e with e1 | e1
  ·exact (hi.vS g e1).2.1
  ·rintro rfl; omega
 refine ⟨fun i => S i ∨ v'.ownBlock = some i ∨ N i, ⟨fun i e => ?_, .inl hx.own, by rw [hc0]; exact hx.c0, by rw [hc3]; exact hx.c3, fun o => by rw [hfr]; exact hx.free o, ⟨fun i => F i ∨ N i, B', V, v', h, hc1, by rw [hc2]; exact hi.c2, hown, ?_, fun g e => ?_, fun g e => ?_, fun i e => ?_, fun x e => ?_, fun x ex y ey e => ?_, fun g hg => ?_⟩, hok⟩, hf.mono (fun i e => ?_), fun i e => ?_⟩
 ·rcases e with e | e | e
  ·exact ⟨(hx.from_ i e).1, Nat.lt_of_lt_of_le (hx.from_ i e).2 hf.size⟩
  ·exact hown.lt i e
  ·exact ⟨Nat.le_trans (Nat.le_of_lt (Nat.lt_of_le_of_lt (hx.from_ bx hx.own).1 hl)) (hN i e).1, (hN i e).2⟩
 ·exact hf.owns hi.held (fun b e => by
   rintro (e' | e')
   ·exact (hi.hS b e).2.1 e'
   ·exact (hi.vS b e').2.2.1 e)
 ·refine ⟨.inr (.inl e), hneb g e, fun e2 => ?_, ?_⟩
  ·rcases hat g e with e1 | e1
   ·exact (hi.vS g e1).2.2.1 e2
   ·have := hlt g (hi.hS g e2).1; omega
  ·rcases hat g e with e1 | e1
   ·rintro (e3 | e3)
    ·exact (hi.vS g e1).2.2.2 e3
    ·have := hlt g (hi.vS g e1).1; have := (hN g e3).1; omega
   ·rintro (e3 | e3)
    ·have := hlt g (hi.fS g e3).1; omega
    ·exact e1.2 e3
 ·refine ⟨.inl (hi.hS g e).1, (hi.hS g e).2.1, ?_⟩
  rintro (e3 | e3)
  ·exact (hi.hS g e).2.2 e3
  ·have := hlt g (hi.hS g e).1; have := (hN g e3).1; omega
 ·rcases e with e | e
  ·exact ⟨.inl (hi.fS i e).1, (hi.fS i e).2⟩
  ·exact ⟨.inr (.inr e), by rintro rfl; have := (hN i e).1; omega⟩
 ·rcases hall x e with e1 | ⟨e1, e2, _⟩
  ·rw [hold x e1]
   exact ⟨.inl (hfix.1 x e1).1, (hfix.1 x e1).2.of_block (Nat.le_refl _) rfl (hold x e1)⟩
  ·exact ⟨.inr e1, e2⟩
 ·rcases hall x ex with a1 | ⟨a1, a2, a3⟩ <;> rcases hall y ey with b1 | ⟨b1, b2, b3⟩
  ·rw [hold x a1, hold y b1] at e
   exact hi.inj x a1 y b1 e
  ·rw [hold x a1] at e
   have := hlt _ (hi.fS _ (hi.vers x a1).1).1
   have := (hN _ b1).1
   omega
  ·rw [hold y b1] at e
   have := hlt _ (hi.fS _ (hi.vers y b1).1).1
   have := (hN _ a1).1
   omega
  ·omega
 ·have h1 := hfix.2 g hg
  refine ⟨?_, fun b e => .inl (h1.2 b e)⟩
  rw [ptrs_congr (fun x hx' => hold x (mem_held hg hx'))]
  exact h1.1
 ·rcases e with rfl | e
  ·exact hx.own
  ·exact (hi.vS i e).1
 ·rcases e with e | e | e
  ·exact .inl e
  ·rcases hat i e with e1 | e1
   ·exact .inl (hi.vS i e1).1
   ·exact .inr e1.1
  ·exact .inr (hN i e).1
namespace Tm
theorem over_shift {α : Type} {L xs news : List α} {a n m : Nat} (hx : L.take n = xs) (hxl : xs.length = n) (ha : a ≤ n) (hnl : news.length = m) (hL : n + m ≤ L.length) :
  (((L.take (a + m) ++ xs.drop a ++ L.drop (a + m + (xs.drop a).length)).take a) ++ news ++ ((L.take (a + m) ++ xs.drop a ++ L.drop (a + m + (xs.drop a).length)).drop (a + news.length))).take (n + m) = xs.take a ++ news ++ xs.drop a := by
 have h1 : (L.take (a + m)).length = a + m := by rw [List.length_take]; omega
 have h2 : (L.take (a + m) ++ xs.drop a ++ L.drop (a + m + (xs.drop a).length)).take a = xs.take a := by
  rw [List.append_assoc, List.take_append_of_le_length (by omega), List.take_take, Nat.min_eq_left (by omega), ← hx, List.take_take, Nat.min_eq_left ha]
 have h3 : (L.take (a + m) ++ xs.drop a ++ L.drop (a + m + (xs.drop a).length)).drop (a + news.length) = xs.drop a ++ L.drop (a + m + (xs.drop a).length) := by
  rw [List.append_assoc, hnl]
  exact List.drop_left' h1
 rw [h2, h3, ← List.append_assoc]
 exact List.take_left' (by simp; omega)
theorem over_grow {α : Type} {L xs news Z : List α} {a n m : Nat} (hL : L = xs.take a ++ Z) (hxl : xs.length = n) (ha : a ≤ n) (hnl : news.length = m) :
  (((L.take a ++ news ++ L.drop (a + news.length)).take (a + m)) ++ xs.drop a ++ ((L.take a ++ news ++ L.drop (a + news.length)).drop (a + m + (xs.drop a).length))).take (n + m) = xs.take a ++ news ++ xs.drop a := by
 have h0 : (xs.take a).length = a := by rw [List.length_take]; omega
 have h1 : L.take a = xs.take a := by rw [hL]; exact List.take_left' h0
 rw [h1]
 have h2 : (xs.take a ++ news ++ L.drop (a + news.length)).take (a + m) = xs.take a ++ news := List.take_left' (by rw [List.length_append, h0, hnl])
 rw [h2]
 refine List.take_left' ?_
 simp
 omega
theorem over_out {α : Type} {L xs : List α} {a n m : Nat} (hx : L.take n = xs) (hxl : xs.length = n) (ha : a + m ≤ n) (zs : List α) (hz : zs.length = m) :
  (((L.take a ++ xs.drop (a + m) ++ L.drop (a + (xs.drop (a + m)).length)).take (n - m)) ++ zs ++ ((L.take a ++ xs.drop (a + m) ++ L.drop (a + (xs.drop (a + m)).length)).drop (n - m + zs.length))).take (n - m) = xs.take a ++ xs.drop (a + m) := by
 have h1 : L.take a = xs.take a := by rw [← hx, List.take_take, Nat.min_eq_left (by omega)]
 have h2 : (L.take a ++ xs.drop (a + m) ++ L.drop (a + (xs.drop (a + m)).length)).take (n - m) = xs.take a ++ xs.drop (a + m) := by
  rw [h1]
  exact List.take_left' (by simp; omega)
 rw [h2, List.append_assoc]
 exact List.take_left' (by simp; omega)
theorem over_cons {α : Type} {L : List α} {o : Nat} (v : α) (r : List α) (h : o + 1 + r.length ≤ L.length) : (L.set o v).take (o + 1) ++ r ++ (L.set o v).drop (o + 1 + r.length) = L.take o ++ v :: r ++ L.drop (o + (r.length + 1)) := by
 have h0 : (L.take o ++ [v]).length = o + 1 := by simp; omega
 rw [List.set_eq_take_append_cons_drop, if_pos (by omega), List.append_cons, List.take_left' h0]
 have h1 : (L.take o ++ [v] ++ L.drop (o + 1)).drop (o + 1 + r.length) = L.drop (o + (r.length + 1)) := by
  rw [show o + 1 + r.length = (L.take o ++ [v]).length + r.length by omega, ← List.drop_drop, List.drop_left, List.drop_drop]
  congr 1
  omega
 rw [h1]
 simp
end Tm
theorem run_copy_rows {P : Program} (w : World) (dT sT ty elem : TypeId) (size b o dLen dCap : Nat) (a : Addr) (sLen sCap : Nat) (cs : List Value)
  (hu : P.underlying dT = some (.slice elem)) (hs : (P.info? elem).map (·.size) = some size) (hn : cs.length = Nat.min sLen dLen * size)
  (hsrc : ∀ j v, cs[j]? = some v → w.cell? (a.add j) = some v) (hc : ∀ j, j < cs.length → (w.cell? ⟨b, o + j, none⟩).isSome = true) (hf : ∀ j, j < cs.length → w.frozen? ⟨b, o + j, none⟩ = false) (h1 : ∀ v ∈ cs, v.oneCell' = true) :
  (Builtin.copy_ #[dT, sT] ty #[.slice (some ⟨b, o, none⟩) dLen dCap, .slice (some a) sLen sCap]).run P w = .ok (goInt (Nat.min sLen dLen)) (w.setCells b o cs) := by
 have hl := run_loadCells_list (P := P) w a cs hsrc
 have hst := run_storeCells_cells (P := P) b o cs 0 w (by simpa using hc) (by simpa using hf) h1
 cases hq : P.info? elem with
 | none => simp [hq] at hs
 | some i =>
  have hi : i.size = size := by simpa [hq] using hs
  simp [Builtin.copy_, run_underlying hu, Builtin.lenOf, Builtin.firstCells, sizeOf, typeInfo, hq, hi, ← hn, hl, hst]
theorem wpList_copy_row {P : Program} (w : World) {ops : Array Oper} {rest : List Oper} {o : Oper} {a : Act} {Q : Exit → Act → World → Prop} (hgd : o.guard = none) (d s : Operand) (t t' : TypeId)
  (ho : o.op = .call { callee := .builtin .copy, args := #[d, s], argTypes := #[t, t'] }) (v u : Value) (hd : a.eval d = v) (hs : a.eval s = u) {v' : Value} {w' : World}
  (hr : (Builtin.copy_ #[t, t'] o.type #[v, u]).run P w = .ok v' w') (h : wpList P ops Q rest (a.put o.dst v') w') : wpList P ops Q (o :: rest) a w :=
 wpList_plain hgd fun _ hK => by
  unfold Oper.wp execOp
  simp only [ho, resolve, invoke, builtin, Sem.run_bind, Sem.run_pure, Result.andThen_ok, List.map_toArray, List.map_cons, List.map_nil, hd, hs, hr]
  exact hK _ _ h
theorem step_copy_row {P : Program} {ops : Array Oper} {o : Oper} {a : Act} {w : World} {K : Act → World → Prop} {Q : Exit → Act → World → Prop} {E : Prop}
  (hg : o.guard = none) (d x : Operand) (dT sT : TypeId) (hop : o.op = Op.call { callee := Callee.builtin Builtin.copy, args := #[d, x], argTypes := #[dT, sT] })
  (v u : Value) (hd : a.eval d = v) (hx : a.eval x = u) {v' : Value} {w' : World} (hr : (Builtin.copy_ #[dT, sT] o.type #[v, u]).run P w = .ok v' w') (hK : K (a.put o.dst v') w') :
  if Region.wanted o (yielded ops a.tmps) = true then Oper.wp P o a w K Q else E := by
 have hw : Region.wanted o (yielded ops a.tmps) = true := by simp [Region.wanted, hg]
 rw [if_pos hw]
 unfold Oper.wp
 simp [execOp, hop, resolve, invoke, builtin, hd, hx, hr, Result.andThen]
 exact hK
theorem run_append_two {P : Program} (w : World) (t t' ty e e' : TypeId) (ht : P.underlying t = some (.slice e)) (ht' : P.underlying t' = some (.slice e')) (b : Option Addr) (n cap : Nat) (a : Option Addr) (m c : Nat) :
  (Builtin.append_ #[t, t'] ty #[.slice b n cap, .slice a m c]).run P w = (Builtin.append_ #[t, t] ty #[.slice b n cap, .slice a m c]).run P w := by
 simp [Builtin.append_, run_underlying ht, run_underlying ht']
theorem wpList_append_row {P : Program} {w : World} {ops : Array Oper} {rest : List Oper} {o : Oper} {a : Act} {Q : Exit → Act → World → Prop} (hgd : o.guard = none) (s x : Operand) (t t' : TypeId)
  (ho : o.op = .call { callee := .builtin .append, args := #[s, x], argTypes := #[t, t'] })
  (base : Nat) (e e' : TypeId) (i : TypeInfo) (z : Value) (size bytes : Nat) (ht : P.underlying t = some (.slice e)) (ht' : P.underlying t' = some (.slice e')) (hi : P.info? e = some i) (hz : i.zero = some z)
  (hsize : i.size = size) (hby : i.bytes = bytes) (hzs : z.cells.size = size) (hsz : 0 < size)
  (v : Value) (n : Nat) (xs : List Value) (hs : a.eval s = v) (hown : w.ownsRow base e size v n xs)
  (ad : Addr) (m c : Nat) (news : List Value) (hx : a.eval x = .slice (some ad) m c) (hl : news.length = m * size) (hnews : ∀ j u, news[j]? = some u → w.cell? (ad.add j) = some u) (h1 : ∀ u ∈ news, u.oneCell' = true)
  (h63 : n + m ≤ maxLen) (hbytes : (n + m) * bytes ≤ 140737488355328) (hbase : base ≤ w.heap.size)
  (h : ∀ v' w', w'.ownsRow base e size v' (n + m) (xs ++ news) → w.grownBy w' v.ownBlock → (v'.ownBlock = v.ownBlock ∨ v'.ownBlock = some w.heap.size) → wpList P ops Q rest (a.put o.dst v') w') :
  wpList P ops Q (o :: rest) a w := by
 refine wpList_plain hgd fun K hK => ?_
 obtain ⟨v', w', hr, h2, h3, _, h5⟩ := run_append_own_at (P := P) w base t o.type e i z size bytes ht hi hz hsize hby hzs hsz v n xs hown ad m c news hl hnews h1 h63 hbytes hbase
 obtain ⟨vb, vc, rfl⟩ := (Reads.of_owns hown).shape
 rw [← run_append_two w t t' o.type e e' ht ht'] at hr
 unfold Oper.wp execOp
 simp only [ho, resolve, invoke, builtin, Sem.run_bind, Sem.run_pure, Result.andThen_ok, List.map_toArray, List.map_cons, List.map_nil, hs, hx, hr]
 exact hK _ _ (h v' w' h2 h3 h5)
theorem heap_over {g : Nat} {e : TypeId} : ∀ (vs : List Value) (o : Nat) (cur : Array Value) (w : World), w.heap[g]? = some (.cells cur e) → o + vs.length ≤ cur.size →
  ∃ cur', (w.setCells g o vs).heap[g]? = some (.cells cur' e) ∧ cur'.size = cur.size ∧ cur'.toList = cur.toList.take o ++ vs ++ cur.toList.drop (o + vs.length)
 | [], o, cur, w, h, _ => ⟨cur, h, rfl, by simp⟩
 | v :: r, o, cur, w, h, hl => by
  have h1 : (w.setCell ⟨g, o, none⟩ v).heap[g]? = some (.cells (cur.setIfInBounds o v) e) := by simp only [World.setCell, Array.getElem?_modify, h]; rfl
  simp only [List.length_cons] at hl
  obtain ⟨cur', h2, h3, h4⟩ := heap_over r (o + 1) (cur.setIfInBounds o v) _ h1 (by simp; omega)
  refine ⟨cur', by rw [World.setCells]; exact h2, by rw [h3]; simp, ?_⟩
  rw [h4, Array.toList_setIfInBounds]
  exact Tm.over_cons v r (by simp; omega)
theorem isSome_over (b : Nat) (vs : List Value) (o : Nat) (w : World) (h : ∀ j, j < vs.length → (w.cell? ⟨b, o + j, none⟩).isSome = true) (k : Nat) (hk : (w.cell? ⟨b, k, none⟩).isSome = true) : ((w.setCells b o vs).cell? ⟨b, k, none⟩).isSome = true := by
 by_cases hin : o ≤ k ∧ k < o + vs.length
 ·have := World.cell?_setCells_in b vs o w h (k - o) (by omega)
  rw [show o + (k - o) = k by omega] at this
  rw [this]; rfl
 ·rw [World.cell?_setCells_out b vs o w ⟨b, k, none⟩ (fun _ _ => by show k < o ∨ o + vs.length ≤ k; omega)]
  exact hk
theorem Reads.from_ {w : World} {size g off n cap : Nat} {xs : List Value} (h : Reads w (.slice (some ⟨g, off, none⟩) n cap) size n xs) {j : Nat} (hj : j ≤ n) : Reads w (.slice (some ⟨g, off + j * size, none⟩) (n - j) (cap - j)) size (n - j) (xs.drop (j * size)) := by
 obtain ⟨h1, h2, a, c, he, ⟨h3, h4⟩, hc⟩ := h
 cases he
 refine ⟨?_, fun g' hg' => h2 g' (by simpa [Value.ownBlock] using hg'), _, _, rfl, ⟨by omega, by omega⟩, fun t u hu => ⟨g, off + j * size, rfl, ?_⟩⟩
 ·rw [List.length_drop, h1, Nat.sub_mul]
 ·rw [List.getElem?_drop] at hu
  obtain ⟨g', off', he', hx⟩ := hc _ u hu
  cases he'
  rw [Nat.add_assoc]; exact hx
theorem Reads.upTo {w : World} {size n cap : Nat} {a : Option Addr} {xs : List Value} (h : Reads w (.slice a n cap) size n xs) {j : Nat} (hj : j ≤ n) : Reads w (.slice a j cap) size j (xs.take (j * size)) := by
 obtain ⟨h1, h2, a', c, he, ⟨h3, h4⟩, hc⟩ := h
 cases he
 refine ⟨?_, fun g' hg' => h2 g' (by cases a with
  | none => simp [Value.ownBlock] at hg'
  | some ad => simpa [Value.ownBlock] using hg'), _, _, rfl, ⟨by omega, by omega⟩, fun t u hu => ?_⟩
 ·rw [List.length_take, h1]
  have := Nat.mul_le_mul_right size hj
  omega
 ·rw [List.getElem?_take] at hu
  split at hu
  ·exact hc t u hu
  ·cases hu
theorem Reads.none_ {w : World} {size g off cap : Nat} (hg : g < w.heap.size) (hc : cap ≤ maxLen) : Reads w (.slice (some ⟨g, off, none⟩) 0 cap) size 0 [] :=
 ⟨by simp, fun g' hg' => by simp [Value.ownBlock] at hg'; omega, _, _, rfl, ⟨Nat.zero_le _, hc⟩, fun j u hu => by simp at hu⟩
end Go.Proofs.YtmnjjjhmnhfapaaGreatDoor
