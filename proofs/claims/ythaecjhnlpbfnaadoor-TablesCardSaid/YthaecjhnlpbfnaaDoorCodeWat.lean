import Derived.Test.YthaecjhnlpbfnaaDoorCodeCheck
namespace Go.Proofs.YthaecjhnlpbfnaaDoor
open Go.RowKit

theorem weighed_at {w : World} {col : Nat → Int} {base : Nat} {a : Option Addr} {m cap : Nat} {lns : List Tm.Ln} (h : Wt w col base (.slice a m cap) lns) {k : Nat} (hk : k < (Tm.wLines lns).length) :
    ∃ g off x1 x2, a = some ⟨g, off, none⟩ ∧ g < w.heap.size ∧ w.cell? ⟨g, off + k * 3, none⟩ = some (.int .i64 (Tm.wLines lns)[k].num) ∧ w.cell? ⟨g, off + k * 3 + 1, none⟩ = some x1 ∧ w.cell? ⟨g, off + k * 3 + 2, none⟩ = some x2 ∧
      SeqOk w col (x1, x2) (Tm.wLines lns)[k] := by
  obtain ⟨xs, hl, hr, hok⟩ := h
  have hk' : k < xs.length := by omega
  have hlen : (seqCells true xs (Tm.wLines lns)).length = (Tm.wLines lns).length * 3 := hr.1.1
  obtain ⟨g, off, cap', he, hg, hc⟩ := (Reads.of_owns hr.1).form (by omega)
  cases he
  refine ⟨g, off, xs[k].1, xs[k].2, rfl, hg, ?_, ?_, ?_, hok k hk hk'⟩
  · exact hc (k * 3) _ (by have := seqCells_get3 hl hk hk' (f := 0) (by omega); simpa using this)
  · exact hc (k * 3 + 1) _ (by have := seqCells_get3 hl hk hk' (f := 1) (by omega); simpa using this)
  · exact hc (k * 3 + 2) _ (by have := seqCells_get3 hl hk hk' (f := 2) (by omega); simpa using this)
end Go.Proofs.YthaecjhnlpbfnaaDoor
