import Derived.WalkSmall
import Derived.Test.YthaecjhnlpbfnaaDoorMMapFn
import Derived.Test.YthaecjhnlpbfnaaDoorMRefLight
import Derived.Test.YthaecjhnlpbfnaaDoorMRep
import Derived.Test.YthaecjhnlpbfnaaDoorMRefElem
namespace Go.Proofs.YthaecjhnlpbfnaaDoor
open Go.RowKit

/-- The bytes of words. -/
def lets (bs : List ByteArray) : List (List UInt8) := bs.map fun b => b.data.toList
theorem lets_length (bs : List ByteArray) : (lets bs).length = bs.length := by simp [lets]
theorem lets_get {bs : List ByteArray} {k : Nat} (h : k < bs.length) (h' : k < (lets bs).length) : (lets bs)[k] = bs[k].data.toList := by simp [lets]
theorem all_lets (bs : List ByteArray) : (bs.all fun b => numOk 1114111 b.data.toList) = (lets bs).all Tm.runeOk := by
  unfold lets
  rw [List.all_map]; rfl
theorem nums_lets (bs : List ByteArray) : (bs.map fun b => Tm.num b.data.toList) = (lets bs).map Tm.num := by
  unfold lets
  rw [List.map_map]; rfl

set_option maxRecDepth 100000 in
theorem isMark_any (c : Int) (w : World) : Calls Tryd.prog 78 #[.agg #[.int .i64 c]] w fun e w' => e = .returned (.bool (c != 0)) ∧ Below w.heap.size w w' := by
  go_enter Tryd.func78, Tryd.ntmps78
  go_wp2
  go_ret
  exact ⟨rfl, (Below.refl _ _).alloc (Nat.le_refl _) _⟩
set_option maxRecDepth 100000 in
theorem hasParts_any (v : Value) (n : Nat) (xs : List Value) (w : World) (h : Reads w v 1 n xs) : Calls Tryd.prog 82 #[.agg #[v]] w fun e w' => e = .returned (.bool (decide (0 < n))) ∧ Below w.heap.size w w' := by
  obtain ⟨a, cap, rfl⟩ := h.shape
  clear h
  go_enter Tryd.func82, Tryd.ntmps82
  go_wp2
  go_ret
  refine ⟨?_, (Below.refl _ _).alloc (Nat.le_refl _) _⟩
  simp
set_option maxRecDepth 100000 in
set_option maxHeartbeats 1000000 in
theorem cannotBe_any (x : Tm.El) (w : World) : Calls Tryd.prog 110 #[.agg #[.int .i64 x.p, .int .i64 x.s, .int .i64 x.t, .bool x.v]] w fun e w' => e = .returned (.bool (Tm.lightEl x)) ∧ Below w.heap.size w w' := by
  have HL : Hid (Tm.lightEl x = ((x.p != 0 && x.s == 0) || (x.s != 0 && x.t == 0) || (x.v && x.p == 0) || decide (64256 ≤ x.p))) := rfl
  obtain ⟨p, s, t, v⟩ := x
  simp only at HL ⊢
  cases h1 : (p == 0) <;> cases h2 : (s == 0) <;> cases h3 : (t == 0) <;> cases v <;> cases h4 : decide (64256 ≤ p)
  all_goals
    have g1 : (p != 0) = !(p == 0) := rfl
    have g2 : (s != 0) = !(s == 0) := rfl
    rw [h1] at g1
    rw [h2] at g2
    simp only [Bool.not_true, Bool.not_false] at g1 g2
    go_enter Tryd.func110, Tryd.ntmps110
    go_wp2
    go_ret
    refine ⟨?_, (Below.refl _ _).alloc (Nat.le_refl _) _⟩
    rw [HL.out]
    simp [h1, h2, h3, h4, g1, g2]
end Go.Proofs.YthaecjhnlpbfnaaDoor
namespace Go.Proofs.YthaecjhnlpbfnaaDoor
open Go.RowKit

/-- What IndexFunc answers: from 0 on just where one is met. -/
def foundAns (b : Bool) (e : Ending) : Prop := ∃ i : Int, e = .returned (.int .i64 i) ∧ decide (0 ≤ i) = b

set_option maxRecDepth 100000 in
set_option maxHeartbeats 1000000 in
theorem IndexFunc_light (ve : Value) (els : List Tm.El) (w : World) (he : Reads w ve 4 els.length (elsCells els)) (hl : els.length ≤ 1000000) :
    Calls Tryd.prog 122 #[ve, .func (.func 110) #[] #[]] w fun e w' => foundAns (els.any Tm.lightEl) e ∧ Below w.heap.size w w' := by
  obtain ⟨a, cap, rfl⟩ := he.shape
  have HC : Hid (∀ k (hk : k < els.length), _) := fun k hk => els_at he hk
  clear he
  go_enter Tryd.func122, Tryd.ntmps122
  go_wp2
  go_loopw [8] (fun i wr => ∃ k : Nat, k ≤ els.length ∧ i = .int .i64 k ∧ (els.take k).any Tm.lightEl = false ∧ Below w.heap.size w wr) (fun i _ => els.length - (intOf i).toNat)
  case atStart => exact ⟨0, Nat.zero_le _, rfl, by simp, Below.refl _ _⟩
  case round =>
    obtain ⟨k, hk, rfl, hno, hb⟩ := hrel
    have hz := hb.size
    have HB := hide hb
    by_cases hlt : k < els.length
    · obtain ⟨g, off, rfl, hg, c0, c1, c2, c3⟩ := HC.out k hlt
      have hc : ∀ o, wr.cell? ⟨g, o, none⟩ = w.cell? ⟨g, o, none⟩ := fun o => hb.cell (p := ⟨g, o, none⟩) hg
      rw [← hc] at c0 c1 c2 c3
      have HS : Hid (∀ hx : Tm.lightEl els[k] = false, (els.take (k + 1)).any Tm.lightEl = false) := fun hx => any_step hno hlt hx
      have HY : Hid (∀ hx : Tm.lightEl els[k] = true, els.any Tm.lightEl = true) := fun hx => any_hit hlt hx
      generalize els[k] = x at *
      clear hc hb hno HC
      go_wp2_with fail
      refine (cannotBe_any x _).mono ?_
      rintro e w1 ⟨rfl, hb1⟩
      have HB1 : Hid (Below w.heap.size w w1) := HB.out.trans (hb1.mono hz)
      clear hb1
      cases hx : Tm.lightEl x
      · go_wp2
        go_roundw
        case rel => exact ⟨k + 1, by omega, by go_num, HS.out hx, HB1.out⟩
        case measure => simp [intOf]; omega
      · go_wp2
        go_ret
        exact ⟨⟨k, rfl, by rw [HY.out hx]; simp⟩, HB1.out⟩
    · have HN : Hid (els.any Tm.lightEl = false) := by
        rw [List.take_of_length_le (by omega)] at hno
        exact hno
      clear hno hb HC
      go_wp2
      go_ret
      exact ⟨⟨-1, rfl, by rw [HN.out]; rfl⟩, HB.out⟩
set_option maxRecDepth 100000 in
theorem ContainsFunc_light (ve : Value) (els : List Tm.El) (w : World) (he : Reads w ve 4 els.length (elsCells els)) (hl : els.length ≤ 1000000) :
    Calls Tryd.prog 109 #[ve, .func (.func 110) #[] #[]] w fun e w' => e = .returned (.bool (els.any Tm.lightEl)) ∧ Below w.heap.size w w' := by
  go_enter Tryd.func109, Tryd.ntmps109
  go_wp2_with fail
  refine (IndexFunc_light ve els _ he hl).mono ?_
  rintro e w1 ⟨⟨i, rfl, hi⟩, hb⟩
  have HI := hide hi
  clear hi
  go_wp2
  go_ret
  exact ⟨ret_bool HI.out, hb⟩
end Go.Proofs.YthaecjhnlpbfnaaDoor
namespace Go.Proofs.YthaecjhnlpbfnaaDoor
open Go.RowKit

theorem seq_none {lns : List Tm.Ln} {l : List Int} (h : lns.find? (Tm.isSeq l) = none) : Tm.seqOf lns l = none := by unfold Tm.seqOf; rw [h]; rfl
theorem seq_some {lns : List Tm.Ln} {l : List Int} {o : Tm.Ln} (h : lns.find? (Tm.isSeq l) = some o) : Tm.seqOf lns l = some o.els := by unfold Tm.seqOf; rw [h]; rfl

/-- What Sequence answers. -/
def seqAns (r : Option (List Tm.El)) (w : World) (e : Ending) : Prop :=
  ∃ v ok, e = .returned (.tuple #[v, .bool ok]) ∧ (if ok then ∃ es, r = some es ∧ Reads w v 4 es.length (elsCells es) else r = none ∧ v = .slice none 0 0)

set_option maxRecDepth 100000 in
set_option maxHeartbeats 1000000 in
theorem Sequence_any (vl : Value) (st : Int) (sh : Bool) (vs : Value) (l : List Int) (lns : List Tm.Ln) (w : World) (ht : TableRd w vl lns) (hs : Reads w vs 1 l.length (ints l)) (hl : lns.length ≤ 1000000) (hl2 : l.length ≤ 1000000) (hl3 : ∀ o ∈ lns, o.runes.length ≤ 1000000) :
    Calls Tryd.prog 52 #[.agg #[vl, .int .i64 st, .bool sh], vs] w fun e w' => seqAns (Tm.seqOf lns l) w e ∧ Below w.heap.size w w' := by
  obtain ⟨a, cap, rfl⟩ := ht.shape
  have HT := hide ht
  have HS := hide hs
  have HL3 := hide hl3
  obtain ⟨as0, caps, rfl⟩ := hs.shape
  clear ht hs hl3
  go_enter Tryd.func52, Tryd.ntmps52
  go_wp2
  go_loopw [6] (fun i wr => ∃ k : Nat, k ≤ lns.length ∧ i = .int .i64 k ∧ Below (w.heap.size + 1) (w.alloc (.cells #[.slice a lns.length cap, .int .i64 st, .bool sh] 28)) wr ∧ ∀ j (_ : j < k) (hj : j < lns.length), Tm.isSeq l lns[j] = false) (fun i _ => lns.length - (intOf i).toNat)
  case atStart => exact ⟨0, Nat.zero_le _, rfl, Below.refl _ _, fun j hj => by omega⟩
  case round =>
    obtain ⟨k, hk, rfl, hb, hno⟩ := hrel
    have hb0 : Below w.heap.size w wr := ((Below.refl _ _).alloc (Nat.le_refl _) _).trans (hb.mono (by omega))
    have HB := hide hb0
    have b0 : wr.cell? ⟨w.heap.size, 0, none⟩ = some (.slice a lns.length cap) := by rw [hb.cell (by simp)]; simp
    by_cases hlt : k < lns.length
    · obtain ⟨g, off, kb, vr, ve, rfl, hg, c0, c1, c2, c3, hkb, hr, he⟩ := (HT.out.below hb0).at hlt
      obtain ⟨ar, capr, rfl⟩ := hr.shape
      obtain ⟨ae, cape, rfl⟩ := he.shape
      have hle := HL3.out _ (List.getElem_mem hlt)
      have hsw := HS.out.below hb0 HS.out.2.1
      have HE : Hid (Reads w (.slice ae lns[k].els.length cape) 4 lns[k].els.length (elsCells lns[k].els)) := by
        obtain ⟨_, _, kb', vr', ve', he', _, _, _, d2, _, _, _, hx⟩ := HT.out.at hlt
        cases he'
        have : wr.cell? ⟨g, off + k * 4 + 2, none⟩ = w.cell? ⟨g, off + k * 4 + 2, none⟩ := hb0.cell (by
          have := World.block_lt_of_cell? w _ d2; exact this)
        rw [c2, d2] at this
        cases this
        exact hx
      have HBB := hide hb
      have hip : Tm.isSeq l lns[k] = ((kb.toList == [119]) && decide (lns[k].runes = l)) := by
        unfold Tm.isSeq
        rw [← hkb, ByteArray.toList_eq]
        congr 1
        rw [Bool.eq_iff_iff]; simp
      have HX : Hid (Tm.isSeq l lns[k] = false → ∀ j (_ : j < k + 1) (hj : j < lns.length), Tm.isSeq l lns[j] = false) := fun hx => find_step hno hlt hx
      have HY : Hid (Tm.isSeq l lns[k] = true → Tm.seqOf lns l = some lns[k].els) := fun hx => seq_some (find_hit hno hlt hx)
      rw [hip] at HX HY
      clear hno hip he hb hb0 hkb
      go_wp2_with fail
      refine (sameInts_any _ _ lns[k].runes l _ hr hsw hle hl2).mono ?_
      rintro e w2 ⟨rfl, nq, rfl⟩
      generalize decide (lns[k].runes = l) = same at *
      clear hr hsw hle
      cases hk1 : (kb.toList == [119])
      · have HX' := hide (HX.out (by rw [hk1]; rfl))
        go_wp2
        go_roundw
        case rel => exact ⟨k + 1, by omega, by go_num, below_drewN HBB.out nq, HX'.out⟩
        case measure => simp [intOf]; omega
      · cases same
        · have HX' := hide (HX.out (by rw [hk1]; rfl))
          go_wp2
          go_roundw
          case rel => exact ⟨k + 1, by omega, by go_num, below_drewN HBB.out nq, HX'.out⟩
          case measure => simp [intOf]; omega
        · have HY' := hide (HY.out (by rw [hk1]; rfl))
          go_wp2
          go_ret2
          exact ⟨⟨_, true, rfl, lns[k].els, HY'.out, HE.out⟩, below_drewN HB.out nq⟩
    · have HN := hide (seq_none (find_none hno (by omega)))
      clear hno hb hb0
      go_wp2
      go_ret2
      exact ⟨⟨_, false, rfl, HN.out, rfl⟩, HB.out⟩
end Go.Proofs.YthaecjhnlpbfnaaDoor
