import Derived.Test.YthaecjhnlpbfnaaDoorRefSame
import Derived.BigGuardPart
import Derived.Deep.DeepCutAuto
namespace Go.Proofs.YthaecjhnlpbfnaaDoor
open Go.RowKit

/-- An element's four cells. -/
def elCells (x : Tm.El) : List Value := [.int .i64 x.p, .int .i64 x.s, .int .i64 x.t, .bool x.v]
def elsCells (l : List Tm.El) : List Value := l.flatMap elCells

theorem elsCells_length (l : List Tm.El) : (elsCells l).length = l.length * 4 := by
  induction l with
  | nil => rfl
  | cons a r ih => simp only [elsCells, List.flatMap_cons, List.length_append, List.length_cons] at *; rw [ih]; simp [elCells]; omega
theorem elsCells_get {l : List Tm.El} {k f : Nat} (h : k < l.length) (hf : f < 4) : (elsCells l)[k * 4 + f]? = (elCells l[k])[f]? := by
  induction l generalizing k with
  | nil => simp at h
  | cons a r ih =>
    cases k with
    | zero =>
      simp only [elsCells, List.flatMap_cons]
      rw [List.getElem?_append_left (by simp [elCells]; omega)]
      simp
    | succ k =>
      simp only [elsCells, List.flatMap_cons]
      rw [List.getElem?_append_right (by simp [elCells]; omega)]
      have := ih (k := k) (by simpa using h)
      simp only [elsCells] at this
      simp only [elCells, List.length_cons, List.length_nil] at *
      rw [show (k + 1) * 4 + f - (0 + 1 + 1 + 1 + 1) = k * 4 + f from by omega, this]
      rfl

theorem els_at {w : World} {a : Option Addr} {m cap : Nat} {els : List Tm.El} (h : Reads w (.slice a m cap) 4 els.length (elsCells els)) {k : Nat} (hk : k < els.length) :
    ∃ g off, a = some ⟨g, off, none⟩ ∧ g < w.heap.size ∧ w.cell? ⟨g, off + k * 4, none⟩ = some (.int .i64 els[k].p) ∧ w.cell? ⟨g, off + k * 4 + 1, none⟩ = some (.int .i64 els[k].s) ∧ w.cell? ⟨g, off + k * 4 + 2, none⟩ = some (.int .i64 els[k].t) ∧ w.cell? ⟨g, off + k * 4 + 3, none⟩ = some (.bool els[k].v) := by
  obtain ⟨g, off, cap', he, hg, hc⟩ := h.form (by rw [elsCells_length]; omega)
  cases he
  exact ⟨g, off, rfl, hg, hc (k * 4) _ (by have := elsCells_get hk (f := 0) (by omega); simpa [elCells] using this), hc (k * 4 + 1) _ (by have := elsCells_get hk (f := 1) (by omega); simpa [elCells] using this),
    hc (k * 4 + 2) _ (by have := elsCells_get hk (f := 2) (by omega); simpa [elCells] using this), hc (k * 4 + 3) _ (by have := elsCells_get hk (f := 3) (by omega); simpa [elCells] using this)⟩

theorem any_step {els : List Tm.El} {k : Nat} (h : (els.take k).any Tm.lightEl = false) (hk : k < els.length) (hx : Tm.lightEl els[k] = false) : (els.take (k + 1)).any Tm.lightEl = false := by
  rw [List.take_succ_eq_append_getElem hk, List.any_append, h]
  simp [hx]
theorem any_hit {els : List Tm.El} {k : Nat} (hk : k < els.length) (hx : Tm.lightEl els[k] = true) : els.any Tm.lightEl = true :=
  List.any_eq_true.2 ⟨els[k], List.getElem_mem hk, hx⟩

set_option maxRecDepth 100000 in
set_option maxHeartbeats 1000000 in
theorem light_any (kind : Value) (vr ve : Value) (n : Int) (els : List Tm.El) (w : World) (he : Reads w ve 4 els.length (elsCells els)) (hl : els.length ≤ 1000000) :
    Calls Tryd.prog 27 #[.agg #[kind, vr, ve, .int .i64 n]] w fun e w' => e = .returned (.bool (els.any Tm.lightEl)) ∧ Below w.heap.size w w' := by
  obtain ⟨a, cap, rfl⟩ := he.shape
  have HC : Hid (∀ k (hk : k < els.length), _) := fun k hk => els_at he hk
  clear he
  go_enter Tryd.func27, Tryd.ntmps27
  go_wp2
  go_loopw [3] (fun i wr => ∃ k : Nat, k ≤ els.length ∧ i = .int .i64 k ∧ (els.take k).any Tm.lightEl = false ∧ Below (w.heap.size + 1) (w.alloc (.cells #[kind, vr, .slice a els.length cap, .int .i64 n] 72)) wr) (fun i _ => els.length - (intOf i).toNat)
  case atStart => exact ⟨0, Nat.zero_le _, rfl, by simp, Below.refl _ _⟩
  case round =>
    obtain ⟨k, hk, rfl, hno, hb⟩ := hrel
    have b2 : wr.cell? ⟨w.heap.size, 2, none⟩ = some (.slice a els.length cap) := by rw [hb.cell (by simp)]; simp
    have hz := hb.size
    simp at hz
    have HB := hide hb
    by_cases hlt : k < els.length
    · obtain ⟨g, off, rfl, hg, c0, c1, c2, c3⟩ := HC.out k hlt
      have hc : ∀ o, wr.cell? ⟨g, o, none⟩ = w.cell? ⟨g, o, none⟩ := fun o => by rw [hb.cell (by simp; omega)]; simp [World.cell?_alloc_past, hg]
      rw [← hc] at c0 c1 c2 c3
      have HS : Hid (∀ hx : Tm.lightEl els[k] = false, (els.take (k + 1)).any Tm.lightEl = false) := fun hx => any_step hno hlt hx
      have HY : Hid (∀ hx : Tm.lightEl els[k] = true, els.any Tm.lightEl = true) := fun hx => any_hit hlt hx
      generalize els[k] = x at *
      clear hc hb hno HC
      go_upto_region 5 with fail
      go_cut [48] (fun t wx => t = .bool (Tm.lightEl x) ∧ wx = wr.alloc (.cells #[.int .i64 x.p, .int .i64 x.s, .int .i64 x.t, .bool x.v] 64))
      case first =>
        go_wp2
        all_goals go_meet
        all_goals refine ⟨?_, ?_⟩
        all_goals first | (simp [Tm.lightEl, *]; done) | simp [*]
      case rest =>
        obtain ⟨rfl, rfl⟩ := hcut
        cases hx : Tm.lightEl x
        · go_wp2
          go_roundw
          case rel => exact ⟨k + 1, by omega, by go_num, HS.out hx, HB.out.alloc (by omega) _⟩
          case measure => simp [intOf]; omega
        · go_wp2
          go_ret
          exact ⟨ret_bool (HY.out hx).symm, (((Below.refl _ _).alloc (Nat.le_refl _) _).trans (HB.out.mono (by omega))).alloc (by omega) _⟩
    · have HN : Hid (els.any Tm.lightEl = false) := by
        rw [List.take_of_length_le (by omega)] at hno
        exact hno
      clear hno hb HC
      go_wp2
      go_ret
      exact ⟨ret_bool HN.out.symm, ((Below.refl _ _).alloc (Nat.le_refl _) _).trans (HB.out.mono (by omega))⟩
end Go.Proofs.YthaecjhnlpbfnaaDoor
