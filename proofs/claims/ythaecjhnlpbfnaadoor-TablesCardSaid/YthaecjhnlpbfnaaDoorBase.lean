/-
  What the walks of this family share: small facts on endings, hidden facts, bytes of a string.
-/
import Derived.Test.YthaecjhnlpbfnaaDoorPlain
import Derived.Test.YthaecjhnlpbfnaaDoorRows
import Derived.WalkKit
import Derived.WalkSpells
import Derived.WalkLawsBesides
namespace Go.Proofs.YthaecjhnlpbfnaaDoor
open Go.RowKit

theorem hide {p : Prop} (h : p) : Hid p := h
theorem ret_int {k : IntKind} {a b : Int} (h : a = b) : Ending.returned (.int k a) = .returned (.int k b) := by rw [h]
theorem len_bytes (s : ByteArray) : s.data.toList.length = s.size := by simp
theorem head_of (s : ByteArray) (h : 0 < s.size) : s.data.toList.head? = some s[0] := by
  have := Tm.drop_cons s 0 h
  simp at this
  rw [this]; rfl
theorem extract_bytes (s : ByteArray) (m k : Nat) : (s.extract m k).data.toList = (s.data.toList.drop m).take (k - m) := by
  simp [ByteArray.data_extract, List.extract_eq_take_drop]
theorem bcell {W w1 : World} (hb : Below W.heap.size W w1) : (∀ b o, b < W.heap.size → w1.cell? ⟨b, o, none⟩ = W.cell? ⟨b, o, none⟩) ∧ (∀ b o, b < W.heap.size → w1.frozen? ⟨b, o, none⟩ = W.frozen? ⟨b, o, none⟩) :=
  ⟨fun b o h => hb.cell (p := ⟨b, o, none⟩) h, fun b o h => hb.frozen (p := ⟨b, o, none⟩) h⟩

/-- A slice value of n elements, 'size' cells each, that reads as the cells xs. -/
def Reads (w : World) (v : Value) (size n : Nat) (xs : List Value) : Prop :=
  xs.length = n * size ∧ (∀ g, v.ownBlock = some g → g < w.heap.size) ∧
  ∃ a cap, v = .slice a n cap ∧ (n ≤ cap ∧ cap ≤ maxLen) ∧ ∀ j u, xs[j]? = some u → ∃ g off, a = some ⟨g, off, none⟩ ∧ w.cell? ⟨g, off + j, none⟩ = some u

theorem Reads.of_owns {w : World} {base : Nat} {e : TypeId} {size : Nat} {v : Value} {n : Nat} {xs : List Value} (h : w.ownsRow base e size v n xs) : Reads w v size n xs := by
  refine ⟨h.1, fun g hg => (h.lt g hg).2, ?_⟩
  have hc := @World.ownsRow.cells _ _ _ _ _ _ _ h
  rcases h.2 with ⟨rfl, rfl⟩ | ⟨g, cap, cur, rfl, _, _, hc1, hc2, _⟩
  · have h0 := h.1
    simp at h0
    subst h0
    exact ⟨none, 0, rfl, ⟨Nat.le_refl _, Nat.zero_le _⟩, by simp⟩
  · refine ⟨_, cap, rfl, ⟨hc1, hc2⟩, fun j u hu => ⟨g, 0, rfl, ?_⟩⟩
    have hx := hc (g := g) rfl j u hu
    have hadd : (⟨g, 0, none⟩ : Addr).add j = ⟨g, 0 + j, none⟩ := by unfold Addr.add; split <;> simp_all
    rw [hadd] at hx
    exact hx

theorem Reads.form {w : World} {v : Value} {size n : Nat} {xs : List Value} (h : Reads w v size n xs) (hn : 0 < xs.length) :
    ∃ g off cap, v = .slice (some ⟨g, off, none⟩) n cap ∧ g < w.heap.size ∧ ∀ j u, xs[j]? = some u → w.cell? ⟨g, off + j, none⟩ = some u := by
  obtain ⟨_, hlt, a, cap, rfl, _, hc⟩ := h
  obtain ⟨g, off, rfl, _⟩ := hc 0 xs[0] (by simp [hn])
  refine ⟨g, off, cap, rfl, hlt g rfl, fun j u hu => ?_⟩
  obtain ⟨g', off', he, hcell⟩ := hc j u hu
  cases he
  exact hcell

theorem Reads.shape {w : World} {v : Value} {size n : Nat} {xs : List Value} (h : Reads w v size n xs) : ∃ a cap, v = .slice a n cap := by
  obtain ⟨_, _, a, cap, rfl, _⟩ := h
  exact ⟨a, cap, rfl⟩

theorem Reads.fits {w : World} {a : Option Addr} {m cap : Nat} {size n : Nat} {xs : List Value} (h : Reads w (.slice a m cap) size n xs) : m = n ∧ n ≤ cap ∧ cap ≤ maxLen := by
  obtain ⟨_, _, a, cap, he, hc, _⟩ := h
  cases he
  exact ⟨rfl, hc⟩

/-- All that is read lies in blocks that are as they were. -/
theorem Reads.of_blocks {w w' : World} {v : Value} {size n : Nat} {xs : List Value} (h : Reads w v size n xs) (hs : w.heap.size ≤ w'.heap.size) (hb : ∀ g, v.ownBlock = some g → w'.heap[g]? = w.heap[g]?) : Reads w' v size n xs := by
  obtain ⟨h1, hlt, a, cap, rfl, hcap, hc⟩ := h
  refine ⟨h1, fun g hg => Nat.lt_of_lt_of_le (hlt g hg) hs, a, cap, rfl, hcap, fun j u hu => ?_⟩
  obtain ⟨g, off, rfl, hcell⟩ := hc j u hu
  refine ⟨g, off, rfl, ?_⟩
  rw [World.cell?_of_block (w := w) (hb g rfl)]
  exact hcell

theorem Reads.below {w w' : World} {v : Value} {size n : Nat} {xs : List Value} (h : Reads w v size n xs) {B : Nat} (hb : Below B w w') (hB : ∀ g, v.ownBlock = some g → g < B) : Reads w' v size n xs :=
  h.of_blocks hb.size (fun g hg => hb.block g (hB g hg))

theorem Reads.kept {w w' : World} {v : Value} {size n : Nat} {xs : List Value} (h : Reads w v size n xs) {row : Option Nat} (hg : w.grownBy w' row) (hne : v.ownBlock = none ∨ v.ownBlock ≠ row) : Reads w' v size n xs := by
  refine h.of_blocks hg.size (fun g hg' => hg.block g (h.2.1 g hg') ?_)
  rw [← hg']
  rcases hne with hne | hne
  · rw [hg'] at hne; cases hne
  · exact hne
end Go.Proofs.YthaecjhnlpbfnaaDoor
