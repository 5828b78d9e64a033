/-
  A table's lines that a call owns: how they lie, and what keeps them.
-/
import Derived.Maps.AppendAt
import Derived.Test.YtmnjjjhmnhfapaaDoorMRefTog
namespace Go.Proofs.YtmnjjjhmnhfapaaDoor
open Go.RowKit

/-- A line's four cells, out of its values. -/
def lineCells (x : ByteArray × Value × Value) (n : Int) : List Value := [.string x.1, x.2.1, x.2.2, .int .i64 n]
def tabCells (xs : List (ByteArray × Value × Value)) (lns : List Tm.Ln) : List Value := (xs.zip lns).flatMap fun p => lineCells p.1 p.2.num

theorem tabCells_get {xs : List (ByteArray × Value × Value)} {lns : List Tm.Ln} (hl : xs.length = lns.length) {k f : Nat} (h : k < lns.length) (h' : k < xs.length) (hf : f < 4) :
    (tabCells xs lns)[k * 4 + f]? = (lineCells xs[k] lns[k].num)[f]? := by
  induction xs generalizing lns k with
  | nil => simp at h'
  | cons a r ih =>
    cases lns with
    | nil => simp at h
    | cons b q =>
      cases k with
      | zero =>
        simp only [tabCells, List.zip_cons_cons, List.flatMap_cons]
        rw [List.getElem?_append_left (by simp [lineCells]; omega)]
        simp
      | succ k =>
        simp only [tabCells, List.zip_cons_cons, List.flatMap_cons]
        rw [List.getElem?_append_right (by simp [lineCells]; omega)]
        have := ih (lns := q) (by simpa using hl) (k := k) (by simpa using h) (by simpa using h')
        simp only [tabCells] at this
        simp only [lineCells, List.length_cons, List.length_nil] at *
        rw [show (k + 1) * 4 + f - (0 + 1 + 1 + 1 + 1) = k * 4 + f from by omega, this]
        rfl
theorem tabCells_snoc {xs : List (ByteArray × Value × Value)} {lns : List Tm.Ln} (hl : xs.length = lns.length) (x : ByteArray × Value × Value) (ln : Tm.Ln) :
    tabCells (xs ++ [x]) (lns ++ [ln]) = tabCells xs lns ++ lineCells x ln.num := by
  unfold tabCells
  rw [List.zip_append hl]
  simp

/-- What one line's values read as. -/
def LineOk (w : World) (base : Nat) (v : Value) (x : ByteArray × Value × Value) (ln : Tm.Ln) : Prop :=
  x.1.data.toList = ln.kind ∧ Reads w x.2.1 1 ln.runes.length (ints ln.runes) ∧ Reads w x.2.2 4 ln.els.length (elsCells ln.els) ∧
  (∀ g, x.2.1.ownBlock = some g → base ≤ g ∧ some g ≠ v.ownBlock) ∧ (∀ g, x.2.2.ownBlock = some g → base ≤ g ∧ some g ≠ v.ownBlock)

/-- The call owns the lines. -/
def OwnTab (w : World) (base : Nat) (v : Value) (lns : List Tm.Ln) : Prop :=
  ∃ xs : List (ByteArray × Value × Value), xs.length = lns.length ∧ w.ownsRow base 72 4 v lns.length (tabCells xs lns) ∧ ∀ k (h : k < lns.length) (h' : k < xs.length), LineOk w base v xs[k] lns[k]

theorem OwnTab.nil (w : World) (base : Nat) : OwnTab w base (.slice none 0 0) [] :=
  ⟨[], rfl, World.ownsRow_nil _ _ _ _, fun k h => by simp at h⟩

theorem OwnTab.rd {w : World} {base : Nat} {v : Value} {lns : List Tm.Ln} (h : OwnTab w base v lns) : TableRd w v lns := by
  obtain ⟨xs, hl, hown, hok⟩ := h
  have hr := Reads.of_owns hown
  refine ⟨hr.2.1, ?_⟩
  obtain ⟨_, _, a, cap, rfl, hcap, hc⟩ := hr
  refine ⟨a, cap, rfl, hcap, fun k hk => ?_⟩
  have hk' : k < xs.length := by omega
  obtain ⟨h1, h2, h3, _, _⟩ := hok k hk hk'
  have e0 : (tabCells xs lns)[k * 4]? = some (.string xs[k].1) := by have := tabCells_get hl hk hk' (f := 0) (by omega); simpa [lineCells] using this
  have e1 : (tabCells xs lns)[k * 4 + 1]? = some xs[k].2.1 := by have := tabCells_get hl hk hk' (f := 1) (by omega); simpa [lineCells] using this
  have e2 : (tabCells xs lns)[k * 4 + 2]? = some xs[k].2.2 := by have := tabCells_get hl hk hk' (f := 2) (by omega); simpa [lineCells] using this
  have e3 : (tabCells xs lns)[k * 4 + 3]? = some (.int .i64 lns[k].num) := by have := tabCells_get hl hk hk' (f := 3) (by omega); simpa [lineCells] using this
  obtain ⟨g, off, rfl, c0⟩ := hc _ _ e0
  obtain ⟨g1, off1, he1, c1⟩ := hc _ _ e1
  cases he1
  obtain ⟨g2, off2, he2, c2⟩ := hc _ _ e2
  cases he2
  obtain ⟨g3, off3, he3, c3⟩ := hc _ _ e3
  cases he3
  exact ⟨g, off, xs[k].1, xs[k].2.1, xs[k].2.2, rfl, c0, c1, c2, c3, h1, h2, h3⟩

/-- Blocks from base on are as they were. -/
theorem OwnTab.of_blocks {w w' : World} {base : Nat} {v : Value} {lns : List Tm.Ln} (h : OwnTab w base v lns) (hs : w.heap.size ≤ w'.heap.size) (hb : ∀ g, base ≤ g → g < w.heap.size → w'.heap[g]? = w.heap[g]?) : OwnTab w' base v lns := by
  obtain ⟨xs, hl, hown, hok⟩ := h
  refine ⟨xs, hl, ?_, fun k h h' => ?_⟩
  · refine ⟨hown.1, ?_⟩
    rcases hown.2 with h2 | ⟨g, cap, cur, hv, hg, hh, r⟩
    · exact .inl h2
    · exact .inr ⟨g, cap, cur, hv, hg, by rw [hb g hg (Array.getElem?_eq_some_iff.1 hh).1]; exact hh, r⟩
  · obtain ⟨h1, h2, h3, h4, h5⟩ := hok k h h'
    exact ⟨h1, h2.of_blocks hs (fun g hg => hb g (h4 g hg).1 (h2.2.1 g hg)), h3.of_blocks hs (fun g hg => hb g (h5 g hg).1 (h3.2.1 g hg)), h4, h5⟩

theorem OwnTab.below {w w' : World} {base : Nat} {v : Value} {lns : List Tm.Ln} (h : OwnTab w base v lns) (hb : Below w.heap.size w w') : OwnTab w' base v lns :=
  h.of_blocks hb.size (fun g _ hg => hb.block g hg)
theorem OwnTab.setCell {w : World} {base : Nat} {v : Value} {lns : List Tm.Ln} (h : OwnTab w base v lns) {p : Addr} (hp : p.block < base) (u : Value) : OwnTab (w.setCell p u) base v lns :=
  h.of_blocks (by simp [World.setCell]) (fun g hg _ => Below.heap_setCell _ _ _ _ (by omega))
theorem OwnTab.shape {w : World} {base : Nat} {v : Value} {lns : List Tm.Ln} (h : OwnTab w base v lns) : ∃ a cap, v = .slice a lns.length cap := h.rd.shape

/-- One line more, by append. -/
theorem OwnTab.snoc {w w1 : World} {base : Nat} {v v' : Value} {lns : List Tm.Ln} {x : ByteArray × Value × Value} {ln : Tm.Ln} {xs : List (ByteArray × Value × Value)}
    (hl : xs.length = lns.length) (hok : ∀ k (h : k < lns.length) (h' : k < xs.length), LineOk w base v xs[k] lns[k]) (hx : LineOk w base v x ln)
    (hown : w1.ownsRow base 72 4 v' (lns.length + 1) (tabCells xs lns ++ lineCells x ln.num)) (hg : w.grownBy w1 v.ownBlock) (hat : v'.ownBlock = v.ownBlock ∨ v'.ownBlock = some w.heap.size) :
    OwnTab w1 base v' (lns ++ [ln]) := by
  have keep : ∀ {y : ByteArray × Value × Value} {l : Tm.Ln}, LineOk w base v y l → LineOk w1 base v' y l := by
    rintro y l ⟨h1, h2, h3, h4, h5⟩
    refine ⟨h1, h2.kept hg ?_, h3.kept hg ?_, fun g hg' => ⟨(h4 g hg').1, ?_⟩, fun g hg' => ⟨(h5 g hg').1, ?_⟩⟩
    · cases hv : y.2.1.ownBlock with
      | none => exact .inl rfl
      | some b => exact .inr (h4 b hv).2
    · cases hv : y.2.2.ownBlock with
      | none => exact .inl rfl
      | some b => exact .inr (h5 b hv).2
    · rcases hat with e | e
      · rw [e]; exact (h4 g hg').2
      · rw [e]; have := h2.2.1 g hg'; simp; omega
    · rcases hat with e | e
      · rw [e]; exact (h5 g hg').2
      · rw [e]; have := h3.2.1 g hg'; simp; omega
  refine ⟨xs ++ [x], by simp [hl], ?_, fun k h h' => ?_⟩
  · rw [tabCells_snoc hl]; simpa using hown
  · by_cases e : k < lns.length
    · have e' : k < xs.length := by omega
      rw [List.getElem_append_left e', List.getElem_append_left e]
      exact keep (hok k e e')
    · simp at h
      have : k = lns.length := by omega
      subst this
      rw [List.getElem_append_right (by omega), List.getElem_append_right (by omega)]
      simpa using keep hx

theorem news_line {w : World} {kb : ByteArray} {vr ve : Value} {n : Int} {t : TypeId} {H : Nat} (hH : w.heap.size = H) : ∀ j u, (lineCells (kb, vr, ve) n)[j]? = some u → (w.alloc (.cells #[.string kb, vr, ve, .int .i64 n] t)).cell? ((⟨H, 0, none⟩ : Addr).add j) = some u := by
  subst hH
  intro j u hj
  match j, hj with
  | 0, hj => simp [lineCells] at hj; subst hj; simp [Addr.add]
  | 1, hj => simp [lineCells] at hj; subst hj; simp [Addr.add]
  | 2, hj => simp [lineCells] at hj; subst hj; simp [Addr.add]
  | 3, hj => simp [lineCells] at hj; subst hj; simp [Addr.add]
end Go.Proofs.YtmnjjjhmnhfapaaDoor
