import Derived.Test.YthaecjhnlpbfnaaDoorRefParts
import Derived.WalkSmall
namespace Go.Proofs.YthaecjhnlpbfnaaDoor
open Go.RowKit

theorem seq_none {lns : List Tm.Ln} {l : List Int} (h : lns.find? (Tm.isSeq l) = none) : Tm.seqOf lns l = none := by unfold Tm.seqOf; rw [h]; rfl
theorem seq_some {lns : List Tm.Ln} {l : List Int} {o : Tm.Ln} (h : lns.find? (Tm.isSeq l) = some o) : Tm.seqOf lns l = some o.els := by unfold Tm.seqOf; rw [h]; rfl

/-- What Sequence answers. -/
def seqAns (r : Option (List Tm.El)) (w : World) (e : Ending) : Prop :=
  ∃ v ok, e = .returned (.tuple #[v, .bool ok]) ∧ (if ok then ∃ es, r = some es ∧ Reads w v 4 es.length (elsCells es) else r = none ∧ v = .slice none 0 0)

set_option maxRecDepth 100000 in
set_option maxHeartbeats 1000000 in
theorem Sequence_any (vl : Value) (st : Int) (sh : Bool) (vs : Value) (l : List Int) (lns : List Tm.Ln) (w : World) (ht : TableRd w vl lns) (hs : Reads w vs 1 l.length (ints l)) (hl : lns.length ≤ 1000000) (hl2 : l.length ≤ 1000000) (hl3 : ∀ o ∈ lns, o.runes.length ≤ 1000000) :
    Calls Tryd.prog 52 #[.agg #[vl, .int .i64 st, .bool sh], vs] w fun e w' => seqAns (Tm.seqOf lns l) w e ∧ Below w.heap.size w w' := by
  obtain ⟨a, cap, rfl⟩ := ht.shape
  have HT := hide ht
  have HS := hide hs
  have HL3 := hide hl3
  obtain ⟨as0, caps, rfl⟩ := hs.shape
  clear ht hs hl3
  go_enter Tryd.func52, Tryd.ntmps52
  go_wp2
  go_loopw [6] (fun i wr => ∃ k : Nat, k ≤ lns.length ∧ i = .int .i64 k ∧ Below (w.heap.size + 1) (w.alloc (.cells #[.slice a lns.length cap, .int .i64 st, .bool sh] 28)) wr ∧ ∀ j (_ : j < k) (hj : j < lns.length), Tm.isSeq l lns[j] = false) (fun i _ => lns.length - (intOf i).toNat)
  case atStart => exact ⟨0, Nat.zero_le _, rfl, Below.refl _ _, fun j hj => by omega⟩
  case round =>
    obtain ⟨k, hk, rfl, hb, hno⟩ := hrel
    have hb0 : Below w.heap.size w wr := ((Below.refl _ _).alloc (Nat.le_refl _) _).trans (hb.mono (by omega))
    have HB := hide hb0
    have b0 : wr.cell? ⟨w.heap.size, 0, none⟩ = some (.slice a lns.length cap) := by rw [hb.cell (by simp)]; simp
    by_cases hlt : k < lns.length
    · obtain ⟨g, off, kb, vr, ve, rfl, hg, c0, c1, c2, c3, hkb, hr, he⟩ := (HT.out.below hb0).at hlt
      obtain ⟨ar, capr, rfl⟩ := hr.shape
      obtain ⟨ae, cape, rfl⟩ := he.shape
      have hle := HL3.out _ (List.getElem_mem hlt)
      have hsw := HS.out.below hb0 HS.out.2.1
      have HE : Hid (Reads w (.slice ae lns[k].els.length cape) 4 lns[k].els.length (elsCells lns[k].els)) := by
        obtain ⟨_, _, kb', vr', ve', he', _, _, _, d2, _, _, _, hx⟩ := HT.out.at hlt
        cases he'
        have : wr.cell? ⟨g, off + k * 4 + 2, none⟩ = w.cell? ⟨g, off + k * 4 + 2, none⟩ := hb0.cell (by
          have := World.block_lt_of_cell? w _ d2; exact this)
        rw [c2, d2] at this
        cases this
        exact hx
      have HBB := hide hb
      have hip : Tm.isSeq l lns[k] = ((kb.toList == [119]) && decide (lns[k].runes = l)) := by
        unfold Tm.isSeq
        rw [← hkb, ByteArray.toList_eq]
        congr 1
        rw [Bool.eq_iff_iff]; simp
      have HX : Hid (Tm.isSeq l lns[k] = false → ∀ j (_ : j < k + 1) (hj : j < lns.length), Tm.isSeq l lns[j] = false) := fun hx => find_step hno hlt hx
      have HY : Hid (Tm.isSeq l lns[k] = true → Tm.seqOf lns l = some lns[k].els) := fun hx => seq_some (find_hit hno hlt hx)
      rw [hip] at HX HY
      clear hno hip he hb hb0 hkb
      go_wp2_with fail
      refine (sameInts_any _ _ lns[k].runes l _ hr hsw hle hl2).mono ?_
      rintro e w2 ⟨rfl, nq, rfl⟩
      generalize decide (lns[k].runes = l) = same at *
      clear hr hsw hle
      cases hk1 : (kb.toList == [119])
      · have HX' := hide (HX.out (by rw [hk1]; rfl))
        go_wp2
        go_roundw
        case rel => exact ⟨k + 1, by omega, by go_num, below_drewN HBB.out nq, HX'.out⟩
        case measure => simp [intOf]; omega
      · cases same
        · have HX' := hide (HX.out (by rw [hk1]; rfl))
          go_wp2
          go_roundw
          case rel => exact ⟨k + 1, by omega, by go_num, below_drewN HBB.out nq, HX'.out⟩
          case measure => simp [intOf]; omega
        · have HY' := hide (HY.out (by rw [hk1]; rfl))
          go_wp2
          go_ret2
          exact ⟨⟨_, true, rfl, lns[k].els, HY'.out, HE.out⟩, below_drewN HB.out nq⟩
    · have HN := hide (seq_none (find_none hno (by omega)))
      clear hno hb hb0
      go_wp2
      go_ret2
      exact ⟨⟨_, false, rfl, HN.out, rfl⟩, HB.out⟩
end Go.Proofs.YthaecjhnlpbfnaaDoor
