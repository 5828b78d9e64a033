import Derived.Test.YtmnjjjhmnhfapaaGreatDoorMCodeAny
namespace Go.Proofs.YtmnjjjhmnhfapaaGreatDoor
open Go.RowKit

/-- Nothing that was there has turned, but for blocks of S. -/
structure Foot (S : Nat → Prop) (w w' : World) : Prop where
  os : w'.os = w.os
  tape : w'.tape = w.tape
  output : w'.output = w.output
  size : w.heap.size ≤ w'.heap.size
  block : ∀ k, k < w.heap.size → ¬ S k → w'.heap[k]? = w.heap[k]?
theorem Foot.refl (S : Nat → Prop) (w : World) : Foot S w w := ⟨rfl, rfl, rfl, Nat.le_refl _, fun _ _ _ => rfl⟩
theorem Foot.of {S : Nat → Prop} {w w' : World} (h : Below w.heap.size w w') : Foot S w w' := ⟨h.os, h.tape, h.output, h.size, fun k hk _ => h.block k hk⟩
/-- Blocks that were not there at first may be of the second's. -/
theorem Foot.trans {S T : Nat → Prop} {u v w : World} (h : Foot S u v) (k : Foot T v w) (hT : ∀ i, T i → S i ∨ u.heap.size ≤ i) : Foot S u w :=
  ⟨k.os.trans h.os, k.tape.trans h.tape, k.output.trans h.output, Nat.le_trans h.size k.size, fun i hi hb => (k.block i (Nat.lt_of_lt_of_le hi h.size) (fun ht => by rcases hT i ht with h1 | h1; exact hb h1; omega)).trans (h.block i hi hb)⟩
theorem Foot.then {S : Nat → Prop} {u v w : World} (h : Foot S u v) (k : Below u.heap.size v w) : Foot S u w :=
  ⟨k.os.trans h.os, k.tape.trans h.tape, k.output.trans h.output, Nat.le_trans h.size k.size, fun i hi hb => (k.block i hi).trans (h.block i hi hb)⟩
theorem Foot.mono {S T : Nat → Prop} {u w : World} (h : Foot S u w) (hS : ∀ i, S i → T i) : Foot T u w := ⟨h.os, h.tape, h.output, h.size, fun k hk hn => h.block k hk (fun e => hn (hS k e))⟩
theorem Foot.below {S : Nat → Prop} {X : Nat} {u w : World} (h : Foot S u w) (hS : ∀ i, S i → X ≤ i) (hX : X ≤ u.heap.size) : Below X u w := ⟨h.os, h.tape, h.output, h.size, fun k hk => h.block k (by omega) (fun e => by have := hS k e; omega)⟩
theorem Foot.cell {S : Nat → Prop} {u w : World} (h : Foot S u w) {p : Addr} (hp : p.block < u.heap.size) (hn : ¬ S p.block) : w.cell? p = u.cell? p := World.cell?_of_block (h.block _ hp hn)
theorem Foot.frozen {S : Nat → Prop} {u w : World} (h : Foot S u w) {p : Addr} (hp : p.block < u.heap.size) (hn : ¬ S p.block) : w.frozen? p = u.frozen? p := World.frozen?_of_block (h.block _ hp hn)
theorem Foot.setCell {S : Nat → Prop} {u w : World} (h : Foot S u w) {p : Addr} (hp : S p.block ∨ u.heap.size ≤ p.block) (v : Value) : Foot S u (w.setCell p v) :=
  ⟨h.os, h.tape, h.output, by simpa [World.setCell] using h.size, fun k hk hn => by
    rw [Below.heap_setCell _ _ _ _ (by rintro rfl; rcases hp with e | e; exact hn e; omega)]
    exact h.block k hk hn⟩
theorem Foot.drew {S : Nat → Prop} {u w : World} (h : Foot S u w) : Foot S u w.drew := ⟨h.os, h.tape, h.output, h.size, h.block⟩
theorem Foot.drewN {S : Nat → Prop} {u w : World} (h : Foot S u w) (m : Nat) : Foot S u (w.drewN m) := ⟨h.os, h.tape, h.output, h.size, h.block⟩
theorem Foot.alloc {S : Nat → Prop} {u w : World} (h : Foot S u w) (o : Obj) : Foot S u (w.alloc o) := h.then ((Below.refl _ _).alloc h.size o)
theorem Foot.grown {S : Nat → Prop} {u w w' : World} {row : Option Nat} (h : Foot S u w) (hg : w.grownBy w' row) (hr : ∀ k, row = some k → S k ∨ u.heap.size ≤ k) : Foot S u w' :=
  ⟨hg.os.trans h.os, hg.tape.trans h.tape, hg.output.trans h.output, Nat.le_trans h.size hg.size, fun k hk hn => (hg.block k (Nat.lt_of_lt_of_le hk h.size) (fun e => by rcases hr k e.symm with e | e; exact hn e; omega)).trans (h.block k hk hn)⟩
theorem Foot.reads {S : Nat → Prop} {u w : World} (h : Foot S u w) {v : Value} {size n : Nat} {xs : List Value} (hr : Reads u v size n xs) (hn : ∀ g, v.ownBlock = some g → ¬ S g) : Reads w v size n xs :=
  hr.of_blocks h.size (fun g hg => h.block g (hr.2.1 g hg) (hn g hg))
theorem Foot.owns {S : Nat → Prop} {u w : World} (h : Foot S u w) {base : Nat} {e : TypeId} {size : Nat} {v : Value} {n : Nat} {xs : List Value} (hr : u.ownsRow base e size v n xs) (hn : ∀ g, v.ownBlock = some g → ¬ S g) : w.ownsRow base e size v n xs :=
  ownsRow_same hr (fun g hg => h.block g (hr.lt g hg).2 (hn g hg))
theorem owns_setAt {w : World} {base : Nat} {e : TypeId} {size g n cap : Nat} {xs : List Value} (h : w.ownsRow base e size (.slice (some ⟨g, 0, none⟩) n cap) n xs) (k : Nat) (u : Value) : (w.setCell ⟨g, k, none⟩ u).ownsRow base e size (.slice (some ⟨g, 0, none⟩) n cap) n (xs.set k u) := by
  refine ⟨by rw [List.length_set]; exact h.1, ?_⟩
  rcases h.2 with ⟨he, _⟩ | ⟨g', cap', cur, he, hb, hg, h1, h2, h3, h4⟩
  · cases he
  · cases he
    refine .inr ⟨g, cap, cur.setIfInBounds k u, rfl, hb, ?_, h1, h2, by simpa using h3, ?_⟩
    · simp only [World.setCell, Array.getElem?_modify, hg]; rfl
    · rw [Array.toList_setIfInBounds, ← h4, List.take_set]
end Go.Proofs.YtmnjjjhmnhfapaaGreatDoor
