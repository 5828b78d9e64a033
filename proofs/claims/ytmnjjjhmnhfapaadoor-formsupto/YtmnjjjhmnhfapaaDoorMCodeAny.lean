import Derived.Test.YtmnjjjhmnhfapaaDoorMMapFn
import Derived.Test.YtmnjjjhmnhfapaaDoorMRefParts
import Derived.Test.YtmnjjjhmnhfapaaDoorMRep
namespace Go.Proofs.YtmnjjjhmnhfapaaDoor
open Go.RowKit

/-- The bytes of words. -/
def lets (bs : List ByteArray) : List (List UInt8) := bs.map fun b => b.data.toList
theorem lets_length (bs : List ByteArray) : (lets bs).length = bs.length := by simp [lets]
theorem lets_get {bs : List ByteArray} {k : Nat} (h : k < bs.length) (h' : k < (lets bs).length) : (lets bs)[k] = bs[k].data.toList := by simp [lets]
theorem all_lets (bs : List ByteArray) : (bs.all fun b => numOk 1114111 b.data.toList) = (lets bs).all Tm.runeOk := by
  unfold lets
  rw [List.all_map]; rfl
theorem nums_lets (bs : List ByteArray) : (bs.map fun b => Tm.num b.data.toList) = (lets bs).map Tm.num := by
  unfold lets
  rw [List.map_map]; rfl

set_option maxRecDepth 100000 in
theorem isMark_any (c : Int) (w : World) : Calls Tryd.prog 78 #[.agg #[.int .i64 c]] w fun e w' => e = .returned (.bool (c != 0)) ∧ Below w.heap.size w w' := by
  go_enter Tryd.func78, Tryd.ntmps78
  go_wp2
  go_ret
  exact ⟨rfl, (Below.refl _ _).alloc (Nat.le_refl _) _⟩
set_option maxRecDepth 100000 in
theorem hasParts_any (v : Value) (n : Nat) (xs : List Value) (w : World) (h : Reads w v 1 n xs) : Calls Tryd.prog 82 #[.agg #[v]] w fun e w' => e = .returned (.bool (decide (0 < n))) ∧ Below w.heap.size w w' := by
  obtain ⟨a, cap, rfl⟩ := h.shape
  clear h
  go_enter Tryd.func82, Tryd.ntmps82
  go_wp2
  go_ret
  refine ⟨?_, (Below.refl _ _).alloc (Nat.le_refl _) _⟩
  simp
set_option maxRecDepth 100000 in
set_option maxHeartbeats 1000000 in
theorem cannotBe_any (x : Tm.El) (w : World) : Calls Tryd.prog 110 #[.agg #[.int .i64 x.p, .int .i64 x.s, .int .i64 x.t, .bool x.v]] w fun e w' => e = .returned (.bool (Tm.lightEl x)) ∧ Below w.heap.size w w' := by
  have HL : Hid (Tm.lightEl x = ((x.p != 0 && x.s == 0) || (x.s != 0 && x.t == 0) || (x.v && x.p == 0) || decide (64256 ≤ x.p))) := rfl
  obtain ⟨p, s, t, v⟩ := x
  simp only at HL ⊢
  cases h1 : (p == 0) <;> cases h2 : (s == 0) <;> cases h3 : (t == 0) <;> cases v <;> cases h4 : decide (64256 ≤ p)
  all_goals
    have g1 : (p != 0) = !(p == 0) := rfl
    have g2 : (s != 0) = !(s == 0) := rfl
    rw [h1] at g1
    rw [h2] at g2
    simp only [Bool.not_true, Bool.not_false] at g1 g2
    go_enter Tryd.func110, Tryd.ntmps110
    go_wp2
    go_ret
    refine ⟨?_, (Below.refl _ _).alloc (Nat.le_refl _) _⟩
    rw [HL.out]
    simp [h1, h2, h3, h4, g1, g2]
end Go.Proofs.YtmnjjjhmnhfapaaDoor
namespace Go.Proofs.YtmnjjjhmnhfapaaDoor
open Go.RowKit

/-- What IndexFunc answers: from 0 on just where one is met. -/
def foundAns (b : Bool) (e : Ending) : Prop := ∃ i : Int, e = .returned (.int .i64 i) ∧ decide (0 ≤ i) = b

set_option maxRecDepth 100000 in
set_option maxHeartbeats 1000000 in
theorem IndexFunc_light (ve : Value) (els : List Tm.El) (w : World) (he : Reads w ve 4 els.length (elsCells els)) (hl : els.length ≤ 1000000) :
    Calls Tryd.prog 122 #[ve, .func (.func 110) #[] #[]] w fun e w' => foundAns (els.any Tm.lightEl) e ∧ Below w.heap.size w w' := by
  obtain ⟨a, cap, rfl⟩ := he.shape
  have HC : Hid (∀ k (hk : k < els.length), _) := fun k hk => els_at he hk
  clear he
  go_enter Tryd.func122, Tryd.ntmps122
  go_wp2
  go_loopw [8] (fun i wr => ∃ k : Nat, k ≤ els.length ∧ i = .int .i64 k ∧ (els.take k).any Tm.lightEl = false ∧ Below w.heap.size w wr) (fun i _ => els.length - (intOf i).toNat)
  case atStart => exact ⟨0, Nat.zero_le _, rfl, by simp, Below.refl _ _⟩
  case round =>
    obtain ⟨k, hk, rfl, hno, hb⟩ := hrel
    have hz := hb.size
    have HB := hide hb
    by_cases hlt : k < els.length
    · obtain ⟨g, off, rfl, hg, c0, c1, c2, c3⟩ := HC.out k hlt
      have hc : ∀ o, wr.cell? ⟨g, o, none⟩ = w.cell? ⟨g, o, none⟩ := fun o => hb.cell (p := ⟨g, o, none⟩) hg
      rw [← hc] at c0 c1 c2 c3
      have HS : Hid (∀ hx : Tm.lightEl els[k] = false, (els.take (k + 1)).any Tm.lightEl = false) := fun hx => any_step hno hlt hx
      have HY : Hid (∀ hx : Tm.lightEl els[k] = true, els.any Tm.lightEl = true) := fun hx => any_hit hlt hx
      generalize els[k] = x at *
      clear hc hb hno HC
      go_wp2_with fail
      refine (cannotBe_any x _).mono ?_
      rintro e w1 ⟨rfl, hb1⟩
      have HB1 : Hid (Below w.heap.size w w1) := HB.out.trans (hb1.mono hz)
      clear hb1
      cases hx : Tm.lightEl x
      · go_wp2
        go_roundw
        case rel => exact ⟨k + 1, by omega, by go_num, HS.out hx, HB1.out⟩
        case measure => simp [intOf]; omega
      · go_wp2
        go_ret
        exact ⟨⟨k, rfl, by rw [HY.out hx]; simp⟩, HB1.out⟩
    · have HN : Hid (els.any Tm.lightEl = false) := by
        rw [List.take_of_length_le (by omega)] at hno
        exact hno
      clear hno hb HC
      go_wp2
      go_ret
      exact ⟨⟨-1, rfl, by rw [HN.out]; rfl⟩, HB.out⟩
set_option maxRecDepth 100000 in
theorem ContainsFunc_light (ve : Value) (els : List Tm.El) (w : World) (he : Reads w ve 4 els.length (elsCells els)) (hl : els.length ≤ 1000000) :
    Calls Tryd.prog 109 #[ve, .func (.func 110) #[] #[]] w fun e w' => e = .returned (.bool (els.any Tm.lightEl)) ∧ Below w.heap.size w w' := by
  go_enter Tryd.func109, Tryd.ntmps109
  go_wp2_with fail
  refine (IndexFunc_light ve els _ he hl).mono ?_
  rintro e w1 ⟨⟨i, rfl, hi⟩, hb⟩
  have HI := hide hi
  clear hi
  go_wp2
  go_ret
  exact ⟨ret_bool HI.out, hb⟩
end Go.Proofs.YtmnjjjhmnhfapaaDoor
