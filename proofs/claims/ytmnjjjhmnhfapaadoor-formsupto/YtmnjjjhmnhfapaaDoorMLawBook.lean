import Derived.Test.YtmnjjjhmnhfapaaDoorMLawKeepW
namespace Go.Proofs.YtmnjjjhmnhfapaaDoor
open Go.RowKit

/-- The law's book of lists: the rows of numbers, each written full with the mark of its four. -/
structure BookIs (w : World) (bb B : Nat) (vb : Value) (rows : List Value) : Prop where
  lt : bb < w.heap.size
  le : B ≤ bb
  cell : w.cell? ⟨bb, 0, none⟩ = some vb
  free : w.frozen? ⟨bb, 0, none⟩ = false
  nil : ∀ o, o = 1 ∨ o = 2 ∨ o = 3 → w.cell? ⟨bb, o, none⟩ = some (.slice none 0 0)
  row : w.ownsRow B 53 1 vb rows.length rows
  other : ∀ g, vb.ownBlock = some g → g ≠ bb
  four : rows.length % 4 = 0
  marks : ∀ (i : Nat) (u : Value), rows[i]? = some u → ∃ n, n ≤ 100003 ∧ Reads w u 1 n (ints (List.replicate n (-1000 - (i : Int) / 4))) ∧ ∀ g, u.ownBlock = some g → g ≠ bb ∧ vb.ownBlock ≠ some g

/-- Blocks of the book itself. -/
theorem BookIs.stay {w w' : World} {bb B : Nat} {vb : Value} {rows : List Value} (h : BookIs w bb B vb rows) (hb : Below w.heap.size w w') : BookIs w' bb B vb rows := by
  refine ⟨Nat.lt_of_lt_of_le h.lt hb.size, h.le, ?_, ?_, fun o ho => ?_, ownsRow_same h.row (fun g hg => hb.block g (h.row.lt g hg).2), h.other, h.four, fun i u hu => ?_⟩
  · rw [hb.cell (p := ⟨bb, 0, none⟩) h.lt]; exact h.cell
  · rw [World.frozen?_of_block (hb.block bb h.lt)]; exact h.free
  · rw [hb.cell (p := ⟨bb, o, none⟩) h.lt]; exact h.nil o ho
  · obtain ⟨n, h1, h2, h3⟩ := h.marks i u hu
    exact ⟨n, h1, h2.below hb h2.2.1, h3⟩

/-- One list more. -/
theorem BookIs.kept {w0 w w' : World} {bb B : Nat} {vb vb' v v1 v2 v3 : Value} {rows : List Value} {n : Nat} (h : BookIs w0 bb B vb rows) (hb : Below w0.heap.size w0 w) (hk : Kept bb B w0.heap.size vb v rows n (-1000 - ((rows.length : Nat) : Int) / 4) w w' vb' v1 v2 v3) (hn : n ≤ 100000) :
    BookIs w' bb B vb' (rows ++ [v, v1, v2, v3]) := by
  have h1 := h.stay hb
  have hz := hb.size
  have hz' := hk.size
  refine ⟨Nat.lt_of_lt_of_le h1.lt hk.size, h.le, hk.cell, hk.free, fun o ho => ?_, by simpa using hk.row, ?_, by simp; have := h.four; omega, ?_⟩
  · rw [hk.rest o (by omega)]; exact h1.nil o ho
  · intro g hg
    rcases hk.at' g hg with h2 | h2
    · exact h.other g h2
    · have := h.lt; omega
  · intro i u hu
    by_cases hi : i < rows.length
    · rw [List.getElem?_append_left hi] at hu
      obtain ⟨m, m1, m2, m3⟩ := h1.marks i u hu
      obtain ⟨m', _, m2', _⟩ := h.marks i u hu
      refine ⟨m, m1, m2.of_blocks hz' (fun g hg => hk.block g (m2'.2.1 g hg) (m3 g hg).1 (m3 g hg).2), fun g hg => ⟨(m3 g hg).1, fun hv => ?_⟩⟩
      rcases hk.at' g hv with h2 | h2
      · exact (m3 g hg).2 h2
      · have := m2'.2.1 g hg; omega
    · rw [List.getElem?_append_right (by omega)] at hu
      obtain ⟨j, hj⟩ : ∃ j, i - rows.length = j := ⟨_, rfl⟩
      rw [hj] at hu
      have hj4 : j < 4 := by have := (List.getElem?_eq_some_iff.1 hu).1; simpa using this
      have he : (i : Int) / 4 = ((rows.length : Nat) : Int) / 4 := by have := h.four; omega
      rw [he]
      have hfar : ∀ g, u.ownBlock = some g → g ≠ bb ∧ vb'.ownBlock ≠ some g := fun g hg => by
        have h2 := hk.far u (List.mem_of_getElem? hu) g hg
        exact ⟨by have := h.lt; omega, h2.2⟩
      match j, hj4, hu with
      | 0, _, hu => simp at hu; subst hu; exact ⟨n, by omega, hk.r0, hfar⟩
      | 1, _, hu => simp at hu; subst hu; exact ⟨n + 1, by omega, hk.r1, hfar⟩
      | 2, _, hu => simp at hu; subst hu; exact ⟨n + 2, by omega, hk.r2, hfar⟩
      | 3, _, hu => simp at hu; subst hu; exact ⟨n + 3, by omega, hk.r3, hfar⟩
end Go.Proofs.YtmnjjjhmnhfapaaDoor
