import Derived.ChangeSlices
import Derived.Test.YtmnjjjhmnhfapaaDoorMCardKit
import Derived.Test.YtmnjjjhmnhfapaaDoorMRefSame
namespace Go.Proofs.YtmnjjjhmnhfapaaDoor
open Go.ChangeShapes Go.WideShapes Go.ChangeAt Go.RowKit

set_option maxRecDepth 100000 in
/-- A slice of numbers that came in. -/
theorem open_nums {H : Type} {enc : TypeId × Value → H} {W : World} {base : Nat} {v : Value} {d : DataW H} {ps : List MemPlace} (hv : Value.okWide Tryd.prog W .any base 53 v) (h : DataW.Trod enc Tryd.prog W 0 (fun _ => true) true 53 v d ps) :
    ∃ l : List Int, (∃ a cap, v = .slice a l.length cap ∧ (0 < l.length → Reads W v 1 l.length (ints l))) ∧ ∀ x ∈ l, -9223372036854775808 ≤ x ∧ x ≤ 9223372036854775807 := by
  obtain ⟨a, len, cap, rfl⟩ := okWide_slice Tryd.underlying53 hv
  obtain ⟨n, hn⟩ := h
  rcases open_ints Tryd.underlying53 Tryd.underlying3 (by kernel_rfl) hn with ⟨h1, h2⟩ | ⟨a, len, cap, zs, h1, _, hl, hm, hz, h2, hx, hw⟩
  · simp [Value.cells] at h1
    obtain ⟨rfl, rfl, rfl⟩ := h1
    exact ⟨[], ⟨none, 0, rfl, fun h => by simp at h⟩, fun x hx => by cases hx⟩
  · simp [Value.cells] at h1
    obtain ⟨rfl, rfl, rfl⟩ := h1
    simp at hz
    have hlen : (zs.take len).length = len := by rw [List.length_take]; omega
    refine ⟨zs.take len, ⟨some a, cap, by rw [hlen], fun hp => ?_⟩, fun x hx => bounds_i64 (hw x (List.mem_of_mem_take hx))⟩
    rw [hlen] at hp ⊢
    have h0 := hx 0 (by omega)
    rw [show a.add 0 = a from rfl] at h0
    have hs := spot_none h0
    have hlt := cell_lt h0
    rw [hs] at hx ⊢
    refine ⟨by rw [ints_length, hlen, Nat.mul_one], fun g hg => by simp [Value.ownBlock] at hg; subst hg; exact hlt, _, cap, rfl, ⟨hl, hm⟩, fun j u hu => ⟨a.block, a.off, rfl, ?_⟩⟩
    have hj : j < len := by have := (List.getElem?_eq_some_iff.1 hu).1; rw [ints_length, hlen] at this; exact this
    have hu' : u = .int .i64 (zs.getD j 0) := by
      simp only [ints, List.getElem?_map, List.getElem?_take, if_pos hj] at hu
      rw [List.getElem?_eq_getElem (by omega)] at hu
      simp at hu
      rw [← hu, List.getD_eq_getElem?_getD, List.getElem?_eq_getElem (by omega)]
      rfl
    rw [hu', ← add_plain]
    exact hx j (by omega)
end Go.Proofs.YtmnjjjhmnhfapaaDoor
