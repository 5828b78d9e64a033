import Derived.Test.YthaecjhnlpbfnaaDoorCodeRead
import Derived.Test.YthaecjhnlpbfnaaDoorRefLight
import Derived.Test.YthaecjhnlpbfnaaDoorRep
namespace Go.Proofs.YthaecjhnlpbfnaaDoor
open Go.RowKit

/-- The bytes of words. -/
def lets (bs : List ByteArray) : List (List UInt8) := bs.map fun b => b.data.toList
theorem lets_length (bs : List ByteArray) : (lets bs).length = bs.length := by simp [lets]
theorem lets_get {bs : List ByteArray} {k : Nat} (h : k < bs.length) (h' : k < (lets bs).length) : (lets bs)[k] = bs[k].data.toList := by simp [lets]
theorem all_lets (bs : List ByteArray) : (bs.all fun b => numOk 1114111 b.data.toList) = (lets bs).all Tm.runeOk := by
  unfold lets
  rw [List.all_map]; rfl
theorem nums_lets (bs : List ByteArray) : (bs.map fun b => Tm.num b.data.toList) = (lets bs).map Tm.num := by
  unfold lets
  rw [List.map_map]; rfl

set_option maxRecDepth 100000 in
theorem isMark_any (c : Int) (w : World) : Calls Tryd.prog 78 #[.agg #[.int .i64 c]] w fun e w' => e = .returned (.bool (c != 0)) ∧ Below w.heap.size w w' := by
  go_enter Tryd.func78, Tryd.ntmps78
  go_wp2
  go_ret
  exact ⟨rfl, (Below.refl _ _).alloc (Nat.le_refl _) _⟩
set_option maxRecDepth 100000 in
theorem hasParts_any (v : Value) (n : Nat) (xs : List Value) (w : World) (h : Reads w v 1 n xs) : Calls Tryd.prog 82 #[.agg #[v]] w fun e w' => e = .returned (.bool (decide (0 < n))) ∧ Below w.heap.size w w' := by
  obtain ⟨a, cap, rfl⟩ := h.shape
  clear h
  go_enter Tryd.func82, Tryd.ntmps82
  go_wp2
  go_ret
  refine ⟨?_, (Below.refl _ _).alloc (Nat.le_refl _) _⟩
  simp
set_option maxRecDepth 100000 in
set_option maxHeartbeats 1000000 in
theorem cannotBe_any (x : Tm.El) (w : World) : Calls Tryd.prog 110 #[.agg #[.int .i64 x.p, .int .i64 x.s, .int .i64 x.t, .bool x.v]] w fun e w' => e = .returned (.bool (Tm.lightEl x)) ∧ Below w.heap.size w w' := by
  have HL : Hid (Tm.lightEl x = ((x.p != 0 && x.s == 0) || (x.s != 0 && x.t == 0) || (x.v && x.p == 0) || decide (64256 ≤ x.p))) := rfl
  obtain ⟨p, s, t, v⟩ := x
  simp only at HL ⊢
  cases h1 : (p == 0) <;> cases h2 : (s == 0) <;> cases h3 : (t == 0) <;> cases v <;> cases h4 : decide (64256 ≤ p)
  all_goals
    have g1 : (p != 0) = !(p == 0) := rfl
    have g2 : (s != 0) = !(s == 0) := rfl
    rw [h1] at g1
    rw [h2] at g2
    simp only [Bool.not_true, Bool.not_false] at g1 g2
    go_enter Tryd.func110, Tryd.ntmps110
    go_wp2
    go_ret
    refine ⟨?_, (Below.refl _ _).alloc (Nat.le_refl _) _⟩
    rw [HL.out]
    simp [h1, h2, h3, h4, g1, g2]
end Go.Proofs.YthaecjhnlpbfnaaDoor
