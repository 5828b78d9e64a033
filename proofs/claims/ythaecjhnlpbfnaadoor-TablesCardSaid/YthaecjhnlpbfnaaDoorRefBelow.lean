import Derived.Test.YthaecjhnlpbfnaaDoorRefSeq
import Derived.BigGuardPart
import Derived.Deep.DeepCutAuto
namespace Go.Proofs.YthaecjhnlpbfnaaDoor
open Go.RowKit

theorem any_false {α : Type} {l : List α} {p : α → Bool} {k : Nat} (h : ∀ j (_ : j < k) (hj : j < l.length), p l[j] = false) (hk : l.length ≤ k) : l.any p = false := by
  rw [List.any_eq_false]
  intro x hx
  obtain ⟨j, hj, rfl⟩ := List.getElem_of_mem hx
  simp [h j (by omega) hj]
theorem any_true {α : Type} {l : List α} {p : α → Bool} {k : Nat} (hk : k < l.length) (hx : p l[k] = true) : l.any p = true :=
  List.any_eq_true.2 ⟨l[k], List.getElem_mem hk, hx⟩

/-- What a table's line holds does not hang on blocks that are made later. -/
theorem TableRd.same {w wr : World} {g off cap m : Nat} {lns : List Tm.Ln} (h : TableRd w (.slice (some ⟨g, off, none⟩) m cap) lns) (hb : Below w.heap.size w wr) {k : Nat} (hk : k < lns.length) :
    ∃ kb vr ve, g < w.heap.size ∧ LineAt w g (off + k * 4) kb vr ve lns[k] ∧ LineAt wr g (off + k * 4) kb vr ve lns[k] := by
  obtain ⟨_, _, kb, vr, ve, he, hg, hl⟩ := h.at hk
  cases he
  exact ⟨kb, vr, ve, hg, hl, hl.below hb hg⟩

set_option maxRecDepth 100000 in
set_option maxHeartbeats 1000000 in
theorem below_any (vl : Value) (st : Int) (sh : Bool) (p : Int) (lns : List Tm.Ln) (w : World) (ht : TableRd w vl lns) (hl : lns.length ≤ 1000000) (hl3 : ∀ o ∈ lns, o.els.length ≤ 1000000) :
    Calls Tryd.prog 53 #[.agg #[vl, .int .i64 st, .bool sh], .int .i64 p] w fun e w' => e = .returned (.bool (Tm.belowP lns p)) ∧ Below w.heap.size w w' := by
  obtain ⟨a, cap, rfl⟩ := ht.shape
  have HT := hide ht
  have HL3 := hide hl3
  clear ht hl3
  go_enter Tryd.func53, Tryd.ntmps53
  go_wp2
  go_loopw [5] (fun i wr => ∃ k : Nat, k ≤ lns.length ∧ i = .int .i64 k ∧ Below (w.heap.size + 1) (w.alloc (.cells #[.slice a lns.length cap, .int .i64 st, .bool sh] 28)) wr ∧ ∀ j (_ : j < k) (hj : j < lns.length), lns[j].els.any (Tm.lowEl p) = false) (fun i _ => lns.length - (intOf i).toNat)
  case atStart => exact ⟨0, Nat.zero_le _, rfl, Below.refl _ _, fun j hj => by omega⟩
  case round =>
    obtain ⟨k, hk, rfl, hb, hno⟩ := hrel
    have hb0 : Below w.heap.size w wr := ((Below.refl _ _).alloc (Nat.le_refl _) _).trans (hb.mono (by omega))
    have HB := hide hb0
    have HBB := hide hb
    have b0 : wr.cell? ⟨w.heap.size, 0, none⟩ = some (.slice a lns.length cap) := by rw [hb.cell (by simp)]; simp
    by_cases hlt : k < lns.length
    · obtain ⟨g, off, kb, vr, ve, rfl, hg, _, _, c2, _, _, _, he⟩ := HT.out.at hlt
      obtain ⟨ae, cape, rfl⟩ := he.shape
      have hle := HL3.out _ (List.getElem_mem hlt)
      have HE := hide he
      have HC2 := hide c2
      have HX : Hid (lns[k].els.any (Tm.lowEl p) = false → ∀ j (_ : j < k + 1) (hj : j < lns.length), lns[j].els.any (Tm.lowEl p) = false) := fun hx => find_step (p := fun o : Tm.Ln => o.els.any (Tm.lowEl p)) hno hlt hx
      have HY : Hid (lns[k].els.any (Tm.lowEl p) = true → Tm.belowP lns p = true) := fun hx => any_true (p := fun o : Tm.Ln => o.els.any (Tm.lowEl p)) hlt hx
      generalize lns[k].els = els at *
      clear hno he hb hb0 c2
      go_wp2_with fail
      go_loopw [6] (fun i wx => ∃ m : Nat, m ≤ els.length ∧ i = .int .i64 m ∧ Below (w.heap.size + 1) (w.alloc (.cells #[.slice (some ⟨g, off, none⟩) lns.length cap, .int .i64 st, .bool sh] 28)) wx ∧ ∀ j (_ : j < m) (hj : j < els.length), Tm.lowEl p els[j] = false) (fun i _ => els.length - (intOf i).toNat)
      case atStart => exact ⟨0, Nat.zero_le _, rfl, HBB.out, fun j hj => by omega⟩
      case round =>
        obtain ⟨m, hm, rfl, hbx, hnx⟩ := hrel
        have hbw : Below w.heap.size w wr := ((Below.refl _ _).alloc (Nat.le_refl _) _).trans (hbx.mono (by omega))
        have d0 : wr.cell? ⟨w.heap.size, 0, none⟩ = some (.slice (some ⟨g, off, none⟩) lns.length cap) := by rw [hbx.cell (by simp)]; simp
        have d2 : wr.cell? ⟨g, off + k * 4 + 2, none⟩ = some (.slice ae els.length cape) := by rw [hbw.cell (by simpa using hg)]; exact HC2.out
        have hzx : w.heap.size + 1 ≤ wr.heap.size := by have := hbx.size; simpa using this
        have HBX := hide hbx
        have HBW := hide hbw
        by_cases hlm : m < els.length
        · obtain ⟨ge, offe, rfl, hge, e0, e1, e2, e3⟩ := els_at (HE.out.below hbw HE.out.2.1) hlm
          have HX' : Hid (Tm.lowEl p els[m] = false → ∀ j (_ : j < m + 1) (hj : j < els.length), Tm.lowEl p els[j] = false) := fun hx => find_step hnx hlm hx
          have HY' : Hid (Tm.lowEl p els[m] = true → els.any (Tm.lowEl p) = true) := fun hx => any_true hlm hx
          generalize els[m] = x at *
          clear hnx hbx hbw
          go_upto_region 8 with fail
          go_cut [48] from 35 to 47 (fun t wx => t = .bool (Tm.lowEl p x) ∧ wx = wr.alloc (.cells #[.int .i64 x.p, .int .i64 x.s, .int .i64 x.t, .bool x.v] 64))
          case first =>
            go_wp2
            all_goals go_meet
            all_goals refine ⟨?_, ?_⟩
            all_goals first | (simp [Tm.lowEl, *]; done) | simp [*]
          case rest =>
            obtain ⟨rfl, rfl⟩ := hcut
            cases hx : Tm.lowEl p x
            · have HX2 := hide (HX'.out hx)
              go_wp2
              go_roundw
              case rel => exact ⟨m + 1, by omega, by go_num, HBX.out.alloc (by omega) _, HX2.out⟩
              case measure => simp [intOf]; omega
            · have HY2 := hide (HY.out (HY'.out hx))
              go_wp2
              go_ret
              exact ⟨ret_bool HY2.out.symm, HBW.out.alloc (by omega) _⟩
        · have HX2 := hide (HX.out (any_false hnx (by omega)))
          clear hnx hbx hbw
          go_wp2
          go_roundw
          case rel => exact ⟨k + 1, by omega, by go_num, HBX.out, HX2.out⟩
          case measure => simp [intOf]; omega
    · have HN := hide (any_false (p := fun o : Tm.Ln => o.els.any (Tm.lowEl p)) hno (by omega))
      clear hno hb hb0
      go_wp2
      go_ret
      exact ⟨ret_bool HN.out.symm, HB.out⟩
end Go.Proofs.YthaecjhnlpbfnaaDoor
