/-
  How a table's lines lie in memory.
-/
import Derived.Test.YthaecjhnlpbfnaaDoorPlain
import Derived.Test.YthaecjhnlpbfnaaDoorRefLight
namespace Go.Proofs.YthaecjhnlpbfnaaDoor
open Go.RowKit

/-- Four cells from an address on read as a line. -/
def LineAt (w : World) (g off : Nat) (kb : ByteArray) (vr ve : Value) (ln : Tm.Ln) : Prop :=
  w.cell? ⟨g, off, none⟩ = some (.string kb) ∧ w.cell? ⟨g, off + 1, none⟩ = some vr ∧ w.cell? ⟨g, off + 2, none⟩ = some ve ∧ w.cell? ⟨g, off + 3, none⟩ = some (.int .i64 ln.num) ∧
  kb.data.toList = ln.kind ∧ Reads w vr 1 ln.runes.length (ints ln.runes) ∧ Reads w ve 4 ln.els.length (elsCells ln.els)

/-- A slice value reads as the lines. -/
def TableRd (w : World) (v : Value) (lns : List Tm.Ln) : Prop :=
  (∀ g, v.ownBlock = some g → g < w.heap.size) ∧
  ∃ a cap, v = .slice a lns.length cap ∧ (lns.length ≤ cap ∧ cap ≤ maxLen) ∧ ∀ k (hk : k < lns.length), ∃ g off kb vr ve, a = some ⟨g, off, none⟩ ∧ LineAt w g (off + k * 4) kb vr ve lns[k]

theorem TableRd.shape {w : World} {v : Value} {lns : List Tm.Ln} (h : TableRd w v lns) : ∃ a cap, v = .slice a lns.length cap := by
  obtain ⟨_, a, cap, rfl, _⟩ := h
  exact ⟨a, cap, rfl⟩

theorem LineAt.below {w w' : World} {g off : Nat} {kb : ByteArray} {vr ve : Value} {ln : Tm.Ln} (h : LineAt w g off kb vr ve ln) (hb : Below w.heap.size w w') (hg : g < w.heap.size) : LineAt w' g off kb vr ve ln := by
  obtain ⟨h0, h1, h2, h3, hk, hr, he⟩ := h
  refine ⟨?_, ?_, ?_, ?_, hk, hr.below hb hr.2.1, he.below hb he.2.1⟩
  · rw [hb.cell (p := ⟨g, off, none⟩) hg]; exact h0
  · rw [hb.cell (p := ⟨g, off + 1, none⟩) hg]; exact h1
  · rw [hb.cell (p := ⟨g, off + 2, none⟩) hg]; exact h2
  · rw [hb.cell (p := ⟨g, off + 3, none⟩) hg]; exact h3

theorem TableRd.below {w w' : World} {v : Value} {lns : List Tm.Ln} (h : TableRd w v lns) (hb : Below w.heap.size w w') : TableRd w' v lns := by
  obtain ⟨hlt, a, cap, rfl, hcap, hc⟩ := h
  refine ⟨fun g hg => Nat.lt_of_lt_of_le (hlt g hg) hb.size, a, cap, rfl, hcap, fun k hk => ?_⟩
  obtain ⟨g, off, kb, vr, ve, rfl, hl⟩ := hc k hk
  exact ⟨g, off, kb, vr, ve, rfl, hl.below hb (hlt g rfl)⟩

theorem TableRd.at {w : World} {a : Option Addr} {m cap : Nat} {lns : List Tm.Ln} (h : TableRd w (.slice a m cap) lns) {k : Nat} (hk : k < lns.length) :
    ∃ g off kb vr ve, a = some ⟨g, off, none⟩ ∧ g < w.heap.size ∧ LineAt w g (off + k * 4) kb vr ve lns[k] := by
  obtain ⟨hlt, a, cap, he, _, hc⟩ := h
  cases he
  obtain ⟨g, off, kb, vr, ve, rfl, hl⟩ := hc k hk
  exact ⟨g, off, kb, vr, ve, rfl, hlt g rfl, hl⟩

theorem Reads.at {w : World} {a : Option Addr} {m cap : Nat} {l : List Int} (h : Reads w (.slice a m cap) 1 l.length (ints l)) {k : Nat} (hk : k < l.length) :
    ∃ g off, a = some ⟨g, off, none⟩ ∧ g < w.heap.size ∧ w.cell? ⟨g, off + k, none⟩ = some (.int .i64 l[k]) := by
  obtain ⟨g, off, cap', he, hg, hc⟩ := h.form (by rw [ints_length]; omega)
  cases he
  exact ⟨g, off, rfl, hg, hc k _ (ints_get hk)⟩

theorem Reads.tail {w : World} {g off n cap : Nat} {l : List Int} (h : Reads w (.slice (some ⟨g, off, none⟩) n cap) 1 l.length (ints l)) (hn : 0 < l.length) :
    Reads w (.slice (some ⟨g, off + 1, none⟩) (l.length - 1) (cap - 1)) 1 l.tail.length (ints l.tail) := by
  obtain ⟨h1, hlt, a, cap', he, hcap, hc⟩ := h
  cases he
  refine ⟨by simp [ints], fun g' hg' => hlt g' (by simpa [Value.ownBlock] using hg'), _, _, by rw [List.length_tail], ⟨by rw [List.length_tail]; omega, by omega⟩, fun j u hu => ?_⟩
  have hj : (ints l)[j + 1]? = some u := by
    rw [← hu]
    simp [ints, List.getElem?_map]
  obtain ⟨g', off', he, hcell⟩ := hc (j + 1) u hj
  cases he
  exact ⟨g, off + 1, rfl, by rw [← hcell]; congr 2; omega⟩
end Go.Proofs.YthaecjhnlpbfnaaDoor
