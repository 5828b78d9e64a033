import Derived.Test.YtmnjjjhmnhfapaaGreatDoorMCardEnts
import Derived.Test.YtmnjjjhmnhfapaaGreatDoorMKpFrozen
namespace Go.Proofs.YtmnjjjhmnhfapaaGreatDoor
open Go.ChangeShapes Go.WideShapes Go.ChangeAt Go.RowKit

set_option maxRecDepth 100000 in
/-- A slice of entries, by its cell alone. -/
theorem open_ents_cell {H : Type} {enc : TypeId × Value → H} {W : World} {v : Value} {n : Nat} {x : DataW H × List MemPlace} (hn : DataW.trod enc Tryz.prog W 0 (fun _ => true) true n 50 [v] = some x) : ∃ l : Tm.Ents, EntsRd W v l := by
  rcases Deep.open_slice_pairs Tryz.underlying50 Tryz.underlying67 (by kernel_rfl) rfl rfl (by kernel_rfl) (by kernel_rfl) hn with ⟨h1, h2⟩ | ⟨a, len, cap, m, k, V0, V1, D0, D1, P0, P1, h1, _, hl, hm, hmm, h2, hx⟩
  · obtain rfl : v = .slice none 0 0 := by simpa using h1
    exact ⟨[], none, 0, rfl, fun h => by simp at h⟩
  · obtain rfl : v = .slice (some a) len cap := by simpa using h1
    simp at hmm
    subst hmm
    have each : ∀ i, i < m → ∃ q : ByteArray × ByteArray, V0 i = .string q.1 ∧ V1 i = .string q.2 := fun i hi => by
      obtain ⟨s0, e0, _⟩ := DataW.trod_string Tryz.underlying9 (hx i hi).2.2.1
      obtain ⟨s1, e1, _⟩ := DataW.trod_string Tryz.underlying9 (hx i hi).2.2.2
      exact ⟨(s0, s1), by simpa using e0, by simpa using e1⟩
    obtain ⟨q, hq⟩ := Deep.choose_lt each
    have hlen : ((List.range len).map q).length = len := by simp
    refine ⟨(List.range len).map q, some a, m, by rw [hlen], fun hp => ?_⟩
    rw [hlen] at hp ⊢
    have h0 := (hx 0 (by omega)).1
    rw [show a.add (0 * 2) = a from rfl] at h0
    have hs := spot_none h0
    have hlt := cell_lt h0
    rw [hs] at hx ⊢
    refine ⟨by rw [entCells_length, hlen], fun g hg => by simp [Value.ownBlock] at hg; subst hg; exact hlt, _, m, rfl, ⟨hl, hm⟩, fun j u hu => ⟨a.block, a.off, rfl, ?_⟩⟩
    have hj : j < len * 2 := by have := (List.getElem?_eq_some_iff.1 hu).1; rw [entCells_length, hlen] at this; exact this
    have hd : j / 2 < len := by omega
    have hr := rows_get (fun e : ByteArray × ByteArray => [Value.string e.1, Value.string e.2]) 2 (fun _ => rfl) ((List.range len).map q) (j / 2) (by rw [hlen]; exact hd) (j % 2) (by omega)
    rw [show j / 2 * 2 + j % 2 = j by omega] at hr
    have hu2 : (entCells ((List.range len).map q))[j]? = some u := hu
    unfold entCells at hu2
    rw [hr] at hu2
    obtain ⟨x0, x1, _, _⟩ := hx (j / 2) (by omega)
    obtain ⟨y0, y1⟩ := hq (j / 2) (by omega)
    rw [add_plain] at x0 x1
    rcases (show j % 2 = 0 ∨ j % 2 = 1 by omega) with e | e
    · rw [e] at hu2
      simp at hu2
      rw [← hu2, ← y0, show a.off + j = a.off + j / 2 * 2 by omega]
      exact x0
    · rw [e] at hu2
      simp at hu2
      rw [← hu2, ← y1, show a.off + j = a.off + (j / 2 * 2 + 1) by omega]
      exact x1

set_option maxRecDepth 100000 in
/-- A slice of slices of entries that came in. -/
theorem open_entss {H : Type} {enc : TypeId × Value → H} {W : World} {base : Nat} {v : Value} {d : DataW H} {ps : List MemPlace} (hv : Value.okWide Tryz.prog W .any base 37 v) (h : DataW.Trod enc Tryz.prog W 0 (fun _ => true) true 37 v d ps) :
    ∃ ls : List Tm.Ents, PartsRd W v ls := by
  obtain ⟨a, len, cap, rfl⟩ := okWide_slice Tryz.underlying37 hv
  obtain ⟨n, hn⟩ := h
  rcases Deep.open_slice1 Tryz.underlying37 (by kernel_rfl) hn with ⟨h1, h2⟩ | ⟨a, len, cap, m, k, V, D, Pl, h1, _, hl, hm, hmm, h2, hx⟩
  · simp [Value.cells] at h1
    obtain ⟨rfl, rfl, rfl⟩ := h1
    exact ⟨[], none, 0, rfl, fun h => by simp at h⟩
  · simp [Value.cells] at h1
    obtain ⟨rfl, rfl, rfl⟩ := h1
    simp at hmm
    subst hmm
    have each : ∀ i, i < m → ∃ l : Tm.Ents, EntsRd W (V i) l := fun i hi => open_ents_cell (hx i hi).2
    obtain ⟨q, hq⟩ := Deep.choose_lt each
    have hlen : ((List.range len).map q).length = len := by simp
    have hlenv : ((List.range len).map V).length = len := by simp
    refine ⟨(List.range len).map q, some a, m, by rw [hlen], fun hp => ⟨(List.range len).map V, by rw [hlen, hlenv], ?_, fun i hi hv => ?_⟩⟩
    · rw [hlen] at hp ⊢
      have h0 := (hx 0 (by omega)).1
      rw [show a.add 0 = a from rfl] at h0
      have hs := spot_none h0
      have hlt := cell_lt h0
      rw [hs] at hx ⊢
      refine ⟨by rw [hlenv, Nat.mul_one], fun g hg => by simp [Value.ownBlock] at hg; subst hg; exact hlt, _, m, rfl, ⟨hl, hm⟩, fun j u hu => ⟨a.block, a.off, rfl, ?_⟩⟩
      have hj : j < len := by have := (List.getElem?_eq_some_iff.1 hu).1; rw [hlenv] at this; exact this
      have hu' : u = V j := by
        rw [List.getElem?_map, List.getElem?_range hj] at hu
        simpa using hu.symm
      rw [hu', ← add_plain]
      exact (hx j (by omega)).1
    · rw [hlen] at hi
      simp only [List.getElem_map, List.getElem_range]
      exact hq i (by omega)
end Go.Proofs.YtmnjjjhmnhfapaaGreatDoor
