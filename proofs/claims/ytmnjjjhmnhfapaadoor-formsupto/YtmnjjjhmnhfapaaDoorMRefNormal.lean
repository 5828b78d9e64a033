import Derived.Test.YtmnjjjhmnhfapaaDoorMRefRunes
import Derived.Test.YtmnjjjhmnhfapaaDoorMRefClass
import Derived.Test.YtmnjjjhmnhfapaaDoorMTexts
import Derived.Test.YtmnjjjhmnhfapaaDoorMCodeArr
namespace Go.Proofs.YtmnjjjhmnhfapaaDoor
open Go.RowKit

/-- A row of numbers that is sorted in place; none: nothing is held. -/
def Held (w : World) (base : Nat) (a : Option Addr) (xs : List Int) : Prop :=
  (xs = [] ∧ a = none) ∨ ∃ g, a = some ⟨g, 0, none⟩ ∧ base ≤ g ∧ g < w.heap.size ∧ Ints w g 0 xs
theorem Held.of_owns {w : World} {base n cap : Nat} {a : Option Addr} {xs : List Int} (h : w.ownsRow base 3 1 (.slice a n cap) xs.length (ints xs)) : Held w base a xs := by
  have hn := (Reads.of_owns h).fits.1
  obtain ⟨m, hm⟩ : ∃ m, xs.length = m := ⟨_, rfl⟩
  rw [hm] at h hn
  subst hn
  rcases h.2 with ⟨h1, h2⟩ | ⟨g, c, cur, h1, hg, _⟩
  · cases h1
    exact .inl ⟨List.eq_nil_of_length_eq_zero hm, rfl⟩
  · cases h1
    exact .inr ⟨g, rfl, hg, (h.lt g rfl).2, owns_ints h⟩
theorem Held.reads {w : World} {base cap : Nat} {a : Option Addr} {xs : List Int} (h : Held w base a xs) (hc : xs.length ≤ cap) (hm : cap ≤ maxLen) : Reads w (.slice a xs.length cap) 1 xs.length (ints xs) := by
  refine ⟨by simp [ints], ?_, a, cap, rfl, ⟨hc, hm⟩, ?_⟩
  · rcases h with ⟨_, rfl⟩ | ⟨g, rfl, _, hg, _⟩
    · intro g hg; simp [Value.ownBlock] at hg
    · intro g' hg'; simp [Value.ownBlock] at hg'; omega
  · intro j u hu
    rcases h with ⟨rfl, _⟩ | ⟨g, rfl, _, _, hi⟩
    · simp [ints] at hu
    · simp only [ints, List.getElem?_map, Option.map_eq_some_iff] at hu
      obtain ⟨x, hx, rfl⟩ := hu
      exact ⟨g, 0, rfl, (hi j x hx).1⟩
theorem Ints.below {w w' : World} {g off B : Nat} {xs : List Int} (h : Ints w g off xs) (hb : Below B w w') (hg : g < B) : Ints w' g off xs := by
  intro j x hx
  obtain ⟨h1, h2⟩ := h j x hx
  refine ⟨?_, ?_⟩
  · rw [World.cell?_of_block (hb.block g hg)]; exact h1
  · rw [World.frozen?_of_block (hb.block g hg)]; exact h2
theorem Held.below {w w' : World} {base B : Nat} {a : Option Addr} {xs : List Int} (h : Held w base a xs) (hb : Below B w w') (hB : w.heap.size ≤ B) : Held w' base a xs := by
  rcases h with h | ⟨g, rfl, h1, h2, h3⟩
  · exact .inl h
  · exact .inr ⟨g, rfl, h1, Nat.lt_of_lt_of_le h2 hb.size, h3.below hb (by omega)⟩
theorem split_two {ys : List Int} {j : Nat} (h : j + 1 < ys.length) : ys = ys.take j ++ ys[j] :: ([] ++ ys[j + 1] :: ys.drop (j + 2)) := by
  have h1 : ys.drop j = ys[j] :: ys[j + 1] :: ys.drop (j + 2) := by
    rw [List.drop_eq_getElem_cons (by omega), List.drop_eq_getElem_cons (by omega)]
  rw [List.nil_append, ← h1, List.take_append_drop]

def stepsSt (lns : List Tm.Ln) (E l : List Int) (t : Bool) : Prop := if t then ∃ n, n ≤ 4 ∧ l.all (Tm.ends lns n) = true ∧ l.flatMap (Tm.expand lns n) = E else l = E
theorem stepsSt.go {lns : List Tm.Ln} {E l : List Int} (h : stepsSt lns E l true) : stepsSt lns E (Tm.stepAll lns l) (Tm.hasParts lns l) := by
  obtain ⟨n, hn, ha, he⟩ := h
  cases hp : Tm.hasParts lns l
  · show Tm.stepAll lns l = E
    rw [Tm.step_stop hp, ← he, Tm.flat_leaf hp]
  · exact Tm.depth_step ha hn he hp
theorem stepsSt.short {lns : List Tm.Ln} {E l : List Int} {t : Bool} (h : stepsSt lns E l t) : l.length ≤ E.length := by
  cases t
  · have : l = E := h
    rw [this]; exact Nat.le_refl _
  · obtain ⟨n, hn, ha, he⟩ := h
    rw [← he]; exact Tm.flat_long n l
/-- How many steps are left. -/
noncomputable def stepsLeft (lns : List Tm.Ln) (w : World) (v y : Value) : Nat := match y with
  | .bool true => Tm.depth lns (listOf w v) + 1
  | _ => 0
theorem stepsSt.less {lns : List Tm.Ln} {E l : List Int} {w w' : World} {v v' : Value} (h : stepsSt lns E l true) (h1 : listOf w v = l) (h2 : listOf w' v' = Tm.stepAll lns l) : stepsLeft lns w' v' (.bool (Tm.hasParts lns l)) < stepsLeft lns w v (.bool true) := by
  obtain ⟨n, hn, ha, he⟩ := h
  unfold stepsLeft
  rw [h1, h2]
  cases hp : Tm.hasParts lns l
  · exact Nat.succ_pos _
  · have := Tm.depth_less ha hn hp
    simp only; omega
/-- How much the passes have left. -/
noncomputable def passLeft (k : Int → Int) (w : World) (v y : Value) : Nat := 2 * Tm.inv k (listOf w v) + match y with
  | .bool true => 1
  | _ => 0
/-- A pass as far as j. -/
structure Pass (k : Int → Int) (E xs ys : List Int) (t : Bool) (j : Nat) : Prop where
  len : ys.length = xs.length
  same : Tm.ord k ys = Tm.ord k E
  still : t = false → ys = xs ∧ ∀ m, m < j → m + 1 < xs.length → Tm.wrong k (xs.getD m 0) (xs.getD (m + 1) 0) = false
  less : t = true → Tm.inv k ys < Tm.inv k xs
theorem getD_at {l : List Int} {j : Nat} (h : j < l.length) : l.getD j 0 = l[j] := by simp [List.getD, h]
theorem Pass.on {k : Int → Int} {E xs ys : List Int} {t : Bool} {j : Nat} (h : Pass k E xs ys t j) (hj : j + 1 < ys.length) (hw : Tm.wrong k ys[j] ys[j + 1] = false) : Pass k E xs ys t (j + 1) := by
  refine ⟨h.len, h.same, fun ht => ?_, h.less⟩
  obtain ⟨rfl, h2⟩ := h.still ht
  refine ⟨rfl, fun m hm hl => ?_⟩
  by_cases e : m = j
  · subst e
    rw [getD_at (by omega), getD_at hj]; exact hw
  · exact h2 m (by omega) hl
theorem Pass.swap {k : Int → Int} {E xs ys : List Int} {t : Bool} {j : Nat} (h : Pass k E xs ys t j) (hj : j + 1 < ys.length) (hw : Tm.wrong k ys[j] ys[j + 1] = true) : Pass k E xs (ys.take j ++ ys[j + 1] :: ([] ++ ys[j] :: ys.drop (j + 2))) true (j + 1) := by
  have hw' : k ys[j + 1] ≠ 0 ∧ k ys[j + 1] < k ys[j] := by simpa [Tm.wrong] using hw
  have e := split_two hj
  have hi : Tm.inv k ys = Tm.inv k (ys.take j ++ ys[j + 1] :: ys[j] :: ys.drop (j + 2)) + 1 := by
    rw [← Tm.inv_swap hw'.1 hw'.2]
    exact congrArg (Tm.inv k) e
  have ho : Tm.ord k ys = Tm.ord k (ys.take j ++ ys[j + 1] :: ys[j] :: ys.drop (j + 2)) := by
    rw [← Tm.ord_swap hw'.1 hw'.2]
    exact congrArg (Tm.ord k) e
  refine ⟨?_, ?_, fun ht => (by cases ht), fun _ => ?_⟩
  · have := h.len
    simp; omega
  · rw [List.nil_append, ← ho]; exact h.same
  · rw [List.nil_append]
    cases t
    · have := (h.still rfl).1
      subst this; omega
    · have := h.less rfl; omega
theorem Pass.calm {k : Int → Int} {E xs ys : List Int} {j : Nat} (h : Pass k E xs ys false j) (hj : xs.length ≤ j + 1) : Tm.Calm k ys := by
  obtain ⟨rfl, h2⟩ := h.still rfl
  exact Tm.calm_of fun m hm => h2 m (by omega) hm
theorem Pass.left {k : Int → Int} {E xs ys : List Int} {t : Bool} {j : Nat} {w w' : World} {v : Value} (h : Pass k E xs ys t j) (h1 : listOf w v = xs) (h2 : listOf w' v = ys) : passLeft k w' v (.bool t) < passLeft k w v (.bool true) := by
  unfold passLeft
  rw [h1, h2]
  cases t
  · have := (h.still rfl).1
    subst this
    simp
  · have := h.less rfl
    simp only; omega
end Go.Proofs.YtmnjjjhmnhfapaaDoor
