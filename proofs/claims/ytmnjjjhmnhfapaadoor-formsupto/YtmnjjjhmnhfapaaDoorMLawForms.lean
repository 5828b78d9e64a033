import Derived.Test.YtmnjjjhmnhfapaaDoorMLawNormal
import Derived.Test.YtmnjjjhmnhfapaaDoorMLawWhole
import Derived.Test.YtmnjjjhmnhfapaaDoorMLawPlain
import Derived.Test.YtmnjjjhmnhfapaaDoorMTexts
namespace Go.Proofs.YtmnjjjhmnhfapaaDoor
open Go.RowKit

theorem Turns.refl (bb : Nat) (vb : Value) (w : World) : Turns bb vb vb w w := Turns.of (Below.refl _ _)
theorem Turns.trans {bb : Nat} {v0 v1 v2 : Value} {w0 w1 w2 : World} (h : Turns bb v0 v1 w0 w1) (k : Turns bb v1 v2 w1 w2) : Turns bb v0 v2 w0 w2 := by
  refine ⟨Nat.le_trans h.size k.size, k.os.trans h.os, k.tape.trans h.tape, k.output.trans h.output, fun g h1 h2 h3 => ?_, fun g hg => ?_⟩
  · have hs := h.size
    refine (k.block g (by omega) h2 (fun hv => ?_)).trans (h.block g h1 h2 h3)
    rcases h.at' g hv with h4 | h4
    · exact h3 h4
    · omega
  · have hs := h.size
    rcases k.at' g hg with h4 | h4
    · exact h.at' g h4
    · exact .inr (by omega)
/-- What stays, whatever the book does. -/
def Firm (bb : Nat) (vb : Value) (w : World) (P : World → Prop) : Prop := ∀ w' vb', Turns bb vb vb' w w' → P w'
theorem Firm.here {bb : Nat} {vb : Value} {w : World} {P : World → Prop} (h : Firm bb vb w P) : P w := h w vb (Turns.refl _ _ _)
theorem Firm.next {bb : Nat} {vb vb' : Value} {w w' : World} {P : World → Prop} (h : Firm bb vb w P) (t : Turns bb vb vb' w w') : Firm bb vb' w' P := fun _ _ t' => h _ _ (t.trans t')
theorem Firm.below {bb : Nat} {vb : Value} {w w' : World} {P : World → Prop} (h : Firm bb vb w P) (t : Below w.heap.size w w') : Firm bb vb w' P := h.next (Turns.of t)
theorem Firm.block {bb k : Nat} {vb : Value} {w : World} (h1 : k < w.heap.size) (h2 : k ≠ bb) (h3 : vb.ownBlock ≠ some k) : Firm bb vb w (fun w' => w'.heap[k]? = w.heap[k]?) := fun _ _ t => t.block k h1 h2 h3
/-- What lies at blocks of a time at which the book had none of them. -/
theorem Firm.coll {bb B bc bm : Nat} {vb : Value} {w0 w : World} {st : Int} {sh : Bool} {lns : List Tm.Ln} (h : CollOwn w0 B bc bm st sh lns) (hs : w0.heap.size ≤ w.heap.size) (hk : ∀ g, B ≤ g → g < w0.heap.size → w.heap[g]? = w0.heap[g]?) (hbb : bb < B ∨ w0.heap.size ≤ bb) (hvb : ∀ g, vb.ownBlock = some g → g < B ∨ w0.heap.size ≤ g) : Firm bb vb w (fun w' => Coll w' bc bm st sh lns) := fun w' _ t =>
  h w' (Nat.le_trans hs t.size) (fun g h1 h2 => (t.block g (by omega) (by omega) (fun hv => by have := hvb g hv; omega)).trans (hk g h1 h2))
theorem Firm.table {bb B : Nat} {vb vl : Value} {w0 w : World} {lns : List Tm.Ln} (h : TableOwn w0 B vl lns) (hs : w0.heap.size ≤ w.heap.size) (hk : ∀ g, B ≤ g → g < w0.heap.size → w.heap[g]? = w0.heap[g]?) (hbb : bb < B ∨ w0.heap.size ≤ bb) (hvb : ∀ g, vb.ownBlock = some g → g < B ∨ w0.heap.size ≤ g) : Firm bb vb w (fun w' => TableRd w' vl lns) := fun w' _ t =>
  h w' (Nat.le_trans hs t.size) (fun g h1 h2 => (t.block g (by omega) (by omega) (fun hv => by have := hvb g hv; omega)).trans (hk g h1 h2))
theorem Turns.below {bb B : Nat} {vb vb' : Value} {w w' : World} (t : Turns bb vb vb' w w') (hB : B ≤ w.heap.size) (hbb : B ≤ bb) (hvb : ∀ g, vb.ownBlock = some g → B ≤ g) : Below B w w' :=
  ⟨t.os, t.tape, t.output, t.size, fun k hk => t.block k (by omega) (by omega) (fun hv => by have := hvb k hv; omega)⟩
/-- A new book. -/
theorem BookIs.new {w : World} {B : Nat} (hB : B ≤ w.heap.size) : BookIs (w.alloc (.cells #[.slice none 0 0, .slice none 0 0, .slice none 0 0, .slice none 0 0] 43)) w.heap.size B (.slice none 0 0) [] := by
  refine ⟨by simp, hB, by rw [cell_new rfl]; rfl, frozen_new rfl 0, fun o ho => ?_, World.ownsRow_nil _ _ _ _, (fun g hg => by cases hg), rfl, fun i u hu => by simp at hu⟩
  rcases ho with rfl | rfl | rfl <;> (rw [cell_new rfl]; rfl)
end Go.Proofs.YtmnjjjhmnhfapaaDoor
