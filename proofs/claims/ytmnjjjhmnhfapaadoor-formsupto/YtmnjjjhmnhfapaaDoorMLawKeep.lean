import Derived.Test.YtmnjjjhmnhfapaaDoorMLibDel
import Derived.Test.YtmnjjjhmnhfapaaDoorMRefNormal
namespace Go.Proofs.YtmnjjjhmnhfapaaDoor
open Go.RowKit

set_option maxRecDepth 100000 in
theorem markInt_any (n : Int) (w : World) (h : 0 ≤ n ∧ n ≤ 1000000000) :
    Calls Tryd.prog 33 #[.int .i64 n] w fun e w' => e = .returned (.int .i64 (-1000 - n)) ∧ w' = w := by
  obtain ⟨h1, h2⟩ := h
  go_enter Tryd.func33, Tryd.ntmps33
  go_wp2
  go_ret
  exact ⟨rfl, rfl⟩

/-- The first k numbers written over. -/
def filled (m : Int) (xs : List Int) (k : Nat) : List Int := List.replicate k m ++ xs.drop k
theorem filled_zero (m : Int) (xs : List Int) : filled m xs 0 = xs := by simp [filled]
theorem filled_all (m : Int) (xs : List Int) : filled m xs xs.length = List.replicate xs.length m := by simp [filled]
theorem filled_length {m : Int} {xs : List Int} {k : Nat} (h : k ≤ xs.length) : (filled m xs k).length = xs.length := by simp [filled]; omega
theorem Ints.fill {w : World} {g : Nat} {m : Int} {xs : List Int} {k : Nat} (h : Ints w g 0 (filled m xs k)) (hk : k < xs.length) : Ints (w.setCell ⟨g, k, none⟩ (.int .i64 m)) g 0 (filled m xs (k + 1)) := by
  intro j u hu
  rw [World.frozen?_setCell]
  by_cases e : j = k
  · subst e
    have hu' : u = m := by
      rw [filled, List.getElem?_append_left (by simp)] at hu
      simpa using hu.symm
    subst hu'
    have hx := h j xs[j] (by rw [filled, List.getElem?_append_right (by simp)]; simp [hk])
    rw [Nat.zero_add] at hx ⊢
    exact ⟨World.cell?_setCell_same _ _ _ hx.1, hx.2⟩
  · rw [World.cell?_setCell_other _ _ _ _ (by simp <;> omega)]
    refine h j u ?_
    rw [← hu, filled, filled]
    by_cases e2 : j < k
    · rw [List.getElem?_append_left (by simp; omega), List.getElem?_append_left (by simp; omega)]
      simp [e2, show j < k + 1 by omega]
    · rw [List.getElem?_append_right (by simp; omega), List.getElem?_append_right (by simp; omega)]
      simp [List.getElem?_drop]
      congr 1; omega
/-- A slice that lies at the head of a longer one reads as its head. -/
theorem Reads.head {w w0 : World} {g n cap m cap1 : Nat} {xs ys : List Value} (h0 : Reads w0 (.slice (some ⟨g, 0, none⟩) n cap) 1 n xs) (h : Reads w (.slice (some ⟨g, 0, none⟩) m cap1) 1 m (xs ++ ys)) : Reads w (.slice (some ⟨g, 0, none⟩) n cap) 1 n xs := by
  obtain ⟨l0, _, a, c, e0, hc0, _⟩ := h0
  obtain ⟨_, lt, a', c', e, _, hc⟩ := h
  cases e0
  cases e
  refine ⟨l0, fun g' hg' => lt g' (by simpa [Value.ownBlock] using hg'), _, _, rfl, hc0, fun j u hu => ?_⟩
  exact hc j u (by rw [List.getElem?_append_left (List.getElem?_eq_some_iff.1 hu).1]; exact hu)
/-- What a slice reads as stays, where a longer one at the same place stays, or nothing turns at its place. -/
theorem Reads.stay {w0 w1 w2 : World} {base base' : Nat} {e : TypeId} {v v1 : Value} {n m : Nat} {xs ys : List Value} (h0 : w0.ownsRow base e 1 v n xs) (h1 : Reads w1 v 1 n xs) (hv1 : w1.ownsRow base' e 1 v1 m (xs ++ ys)) (hg : w1.grownBy w2 v1.ownBlock) (h2 : Reads w2 v1 1 m (xs ++ ys)) : Reads w2 v 1 n xs := by
  rcases h0.2 with ⟨rfl, rfl⟩ | ⟨g, cap, cur, rfl, _⟩
  · exact h1.of_blocks hg.size (fun g hg => by simp [Value.ownBlock] at hg)
  · by_cases he : v1.ownBlock = some g
    · rcases hv1.2 with ⟨rfl, rfl⟩ | ⟨g', cap', cur', rfl, _⟩
      · simp [Value.ownBlock] at he
      · simp [Value.ownBlock] at he
        subst he
        exact Reads.head h1 h2
    · refine h1.of_blocks hg.size (fun g' hg' => hg.block g' (h1.2.1 g' hg') ?_)
      simp [Value.ownBlock] at hg'
      subst hg'
      exact fun h => he h.symm
end Go.Proofs.YtmnjjjhmnhfapaaDoor
