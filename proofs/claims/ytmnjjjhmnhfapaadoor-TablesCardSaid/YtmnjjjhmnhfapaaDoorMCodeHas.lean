import Derived.Test.YtmnjjjhmnhfapaaDoorMRep
import Derived.Test.YtmnjjjhmnhfapaaDoorMRefTwice
import Derived.Test.YtmnjjjhmnhfapaaDoorMCodeCatch
namespace Go.Proofs.YtmnjjjhmnhfapaaDoor
open Go.RowKit

/-- The bytes of words. -/
def lets (bs : List ByteArray) : List (List UInt8) := bs.map fun b => b.data.toList
theorem lets_length (bs : List ByteArray) : (lets bs).length = bs.length := by simp [lets]
theorem lets_get {bs : List ByteArray} {k : Nat} (h : k < bs.length) (h' : k < (lets bs).length) : (lets bs)[k] = bs[k].data.toList := by simp [lets]
theorem all_lets (bs : List ByteArray) : (bs.all fun b => numOk 1114111 b.data.toList) = (lets bs).all Tm.runeOk := by
  unfold lets
  rw [List.all_map]; rfl
theorem nums_lets (bs : List ByteArray) : (bs.map fun b => Tm.num b.data.toList) = (lets bs).map Tm.num := by
  unfold lets
  rw [List.map_map]; rfl

set_option maxRecDepth 100000 in
theorem isMark_any (c : Int) (w : World) : Calls Tryd.prog 78 #[.agg #[.int .i64 c]] w fun e w' => e = .returned (.bool (c != 0)) ∧ Below w.heap.size w w' := by
  go_enter Tryd.func78, Tryd.ntmps78
  go_wp2
  go_ret
  exact ⟨rfl, (Below.refl _ _).alloc (Nat.le_refl _) _⟩
set_option maxRecDepth 100000 in
theorem hasParts_any (v : Value) (n : Nat) (xs : List Value) (w : World) (h : Reads w v 1 n xs) : Calls Tryd.prog 82 #[.agg #[v]] w fun e w' => e = .returned (.bool (decide (0 < n))) ∧ Below w.heap.size w w' := by
  obtain ⟨a, cap, rfl⟩ := h.shape
  clear h
  go_enter Tryd.func82, Tryd.ntmps82
  go_wp2
  go_ret
  refine ⟨?_, (Below.refl _ _).alloc (Nat.le_refl _) _⟩
  simp
set_option maxRecDepth 100000 in
set_option maxHeartbeats 1000000 in
theorem cannotBe_any (x : Tm.El) (w : World) : Calls Tryd.prog 110 #[.agg #[.int .i64 x.p, .int .i64 x.s, .int .i64 x.t, .bool x.v]] w fun e w' => e = .returned (.bool (Tm.lightEl x)) ∧ Below w.heap.size w w' := by
  have HL : Hid (Tm.lightEl x = ((x.p != 0 && x.s == 0) || (x.s != 0 && x.t == 0) || (x.v && x.p == 0) || decide (64256 ≤ x.p))) := rfl
  obtain ⟨p, s, t, v⟩ := x
  simp only at HL ⊢
  cases h1 : (p == 0) <;> cases h2 : (s == 0) <;> cases h3 : (t == 0) <;> cases v <;> cases h4 : decide (64256 ≤ p)
  all_goals
    have g1 : (p != 0) = !(p == 0) := rfl
    have g2 : (s != 0) = !(s == 0) := rfl
    rw [h1] at g1
    rw [h2] at g2
    simp only [Bool.not_true, Bool.not_false] at g1 g2
    go_enter Tryd.func110, Tryd.ntmps110
    go_wp2
    go_ret
    refine ⟨?_, (Below.refl _ _).alloc (Nat.le_refl _) _⟩
    rw [HL.out]
    simp [h1, h2, h3, h4, g1, g2]
end Go.Proofs.YtmnjjjhmnhfapaaDoor
namespace Go.Proofs.YtmnjjjhmnhfapaaDoor
open Go.RowKit

/-- What IndexFunc answers: from 0 on just where one is met. -/
def foundAns (b : Bool) (e : Ending) : Prop := ∃ i : Int, e = .returned (.int .i64 i) ∧ decide (0 ≤ i) = b

set_option maxRecDepth 100000 in
set_option maxHeartbeats 1000000 in
theorem IndexFunc_light (ve : Value) (els : List Tm.El) (w : World) (he : Reads w ve 4 els.length (elsCells els)) (hl : els.length ≤ 1000000) :
    Calls Tryd.prog 122 #[ve, .func (.func 110) #[] #[]] w fun e w' => foundAns (els.any Tm.lightEl) e ∧ Below w.heap.size w w' := by
  obtain ⟨a, cap, rfl⟩ := he.shape
  have HC : Hid (∀ k (hk : k < els.length), _) := fun k hk => els_at he hk
  clear he
  go_enter Tryd.func122, Tryd.ntmps122
  go_wp2
  go_loopw [8] (fun i wr => ∃ k : Nat, k ≤ els.length ∧ i = .int .i64 k ∧ (els.take k).any Tm.lightEl = false ∧ Below w.heap.size w wr) (fun i _ => els.length - (intOf i).toNat)
  case atStart => exact ⟨0, Nat.zero_le _, rfl, by simp, Below.refl _ _⟩
  case round =>
    obtain ⟨k, hk, rfl, hno, hb⟩ := hrel
    have hz := hb.size
    have HB := hide hb
    by_cases hlt : k < els.length
    · obtain ⟨g, off, rfl, hg, c0, c1, c2, c3⟩ := HC.out k hlt
      have hc : ∀ o, wr.cell? ⟨g, o, none⟩ = w.cell? ⟨g, o, none⟩ := fun o => hb.cell (p := ⟨g, o, none⟩) hg
      rw [← hc] at c0 c1 c2 c3
      have HS : Hid (∀ hx : Tm.lightEl els[k] = false, (els.take (k + 1)).any Tm.lightEl = false) := fun hx => any_step hno hlt hx
      have HY : Hid (∀ hx : Tm.lightEl els[k] = true, els.any Tm.lightEl = true) := fun hx => any_hit hlt hx
      generalize els[k] = x at *
      clear hc hb hno HC
      go_wp2_with fail
      refine (cannotBe_any x _).mono ?_
      rintro e w1 ⟨rfl, hb1⟩
      have HB1 : Hid (Below w.heap.size w w1) := HB.out.trans (hb1.mono hz)
      clear hb1
      cases hx : Tm.lightEl x
      · go_wp2
        go_roundw
        case rel => exact ⟨k + 1, by omega, by go_num, HS.out hx, HB1.out⟩
        case measure => simp [intOf]; omega
      · go_wp2
        go_ret
        exact ⟨⟨k, rfl, by rw [HY.out hx]; simp⟩, HB1.out⟩
    · have HN : Hid (els.any Tm.lightEl = false) := by
        rw [List.take_of_length_le (by omega)] at hno
        exact hno
      clear hno hb HC
      go_wp2
      go_ret
      exact ⟨⟨-1, rfl, by rw [HN.out]; rfl⟩, HB.out⟩
set_option maxRecDepth 100000 in
theorem ContainsFunc_light (ve : Value) (els : List Tm.El) (w : World) (he : Reads w ve 4 els.length (elsCells els)) (hl : els.length ≤ 1000000) :
    Calls Tryd.prog 109 #[ve, .func (.func 110) #[] #[]] w fun e w' => e = .returned (.bool (els.any Tm.lightEl)) ∧ Below w.heap.size w w' := by
  go_enter Tryd.func109, Tryd.ntmps109
  go_wp2_with fail
  refine (IndexFunc_light ve els _ he hl).mono ?_
  rintro e w1 ⟨⟨i, rfl, hi⟩, hb⟩
  have HI := hide hi
  clear hi
  go_wp2
  go_ret
  exact ⟨ret_bool HI.out, hb⟩
end Go.Proofs.YtmnjjjhmnhfapaaDoor
namespace Go.Proofs.YtmnjjjhmnhfapaaDoor
open Go.RowKit

/-- A slice value reads as the sequences of these lines. -/
def SeqsRd (w : World) (v : Value) (ls : List Tm.Ln) : Prop :=
  (∀ g, v.ownBlock = some g → g < w.heap.size) ∧
  ∃ a cap, v = .slice a ls.length cap ∧ (ls.length ≤ cap ∧ cap ≤ maxLen) ∧ ∀ k (hk : k < ls.length), ∃ g off x1 x2, a = some ⟨g, off, none⟩ ∧ w.cell? ⟨g, off + k * 2, none⟩ = some x1 ∧ w.cell? ⟨g, off + k * 2 + 1, none⟩ = some x2 ∧
    Reads w x1 1 ls[k].runes.length (ints ls[k].runes) ∧ Reads w x2 4 ls[k].els.length (elsCells ls[k].els)
theorem SeqRow.rd {w : World} {col : Nat → Int} {base : Nat} {cl : Int} {v : Value} {ls : List Tm.Ln} (h : SeqRow w col base 153 false cl v ls) : SeqsRd w v ls := by
  obtain ⟨xs, hl, hr, hok⟩ := h
  have hrd := Reads.of_owns hr.1
  refine ⟨hrd.2.1, ?_⟩
  obtain ⟨_, _, a, cap, rfl, hcap, hc⟩ := hrd
  refine ⟨a, cap, rfl, hcap, fun k hk => ?_⟩
  have hk' : k < xs.length := by omega
  obtain ⟨h1, h2⟩ := hok k hk hk'
  obtain ⟨g, off, rfl, c0⟩ := hc (k * 2) _ (by have := seqCells_get2 hl hk hk' (f := 0) (by omega); simpa using this)
  obtain ⟨g1, off1, he, c1⟩ := hc (k * 2 + 1) _ (by have := seqCells_get2 hl hk hk' (f := 1) (by omega); simpa using this)
  cases he
  exact ⟨g, off, xs[k].1, xs[k].2, rfl, c0, c1, h1.1, h2.1⟩
theorem SeqsRd.shape {w : World} {v : Value} {ls : List Tm.Ln} (h : SeqsRd w v ls) : ∃ a cap, v = .slice a ls.length cap := by
  obtain ⟨_, a, cap, rfl, _⟩ := h
  exact ⟨a, cap, rfl⟩
theorem SeqsRd.below {w w' : World} {v : Value} {ls : List Tm.Ln} (h : SeqsRd w v ls) (hb : Below w.heap.size w w') : SeqsRd w' v ls := by
  obtain ⟨hlt, a, cap, rfl, hcap, hc⟩ := h
  refine ⟨fun g hg => Nat.lt_of_lt_of_le (hlt g hg) hb.size, a, cap, rfl, hcap, fun k hk => ?_⟩
  obtain ⟨g, off, x1, x2, rfl, c0, c1, h1, h2⟩ := hc k hk
  have hg := hlt g rfl
  exact ⟨g, off, x1, x2, rfl, by rw [hb.cell (p := ⟨g, off + k * 2, none⟩) hg]; exact c0, by rw [hb.cell (p := ⟨g, off + k * 2 + 1, none⟩) hg]; exact c1, h1.below hb h1.2.1, h2.below hb h2.2.1⟩
theorem SeqsRd.at {w : World} {a : Option Addr} {m cap : Nat} {ls : List Tm.Ln} (h : SeqsRd w (.slice a m cap) ls) {k : Nat} (hk : k < ls.length) :
    ∃ g off x1 x2, a = some ⟨g, off, none⟩ ∧ g < w.heap.size ∧ w.cell? ⟨g, off + k * 2, none⟩ = some x1 ∧ w.cell? ⟨g, off + k * 2 + 1, none⟩ = some x2 ∧ Reads w x1 1 ls[k].runes.length (ints ls[k].runes) ∧ Reads w x2 4 ls[k].els.length (elsCells ls[k].els) := by
  obtain ⟨hlt, a, cap, he, _, hc⟩ := h
  cases he
  obtain ⟨g, off, x1, x2, rfl, h⟩ := hc k hk
  exact ⟨g, off, x1, x2, rfl, hlt g rfl, h⟩

theorem seqs_els {lns : List Tm.Ln} (hf : ∀ o ∈ lns, Tm.Fit o) {r : Int} : ∀ o ∈ Tm.seqsAt lns r, o.els ≠ [] := by
  intro o ho
  have h1 := List.mem_filter.1 ho
  have h2 := (hf o h1.1).kinds
  rcases h2 with h2 | h2 | h2
  · have := h1.2; simp [Tm.isHead, h2.1] at this
  · have := h1.2; simp [Tm.isHead, h2.1] at this
  · exact h2.2
/-- The elements of the first line that has these runes; none: nothing. -/
def elsFor (ls : List Tm.Ln) (q : List Int) : List Tm.El := match ls.find? fun o => decide (o.runes = q) with
  | some o => o.els
  | none => []
theorem seq_next {ls : List Tm.Ln} {q : List Int} {k : Nat} (h : ((ls.take k).find? fun o => decide (o.runes = q)) = none) (hk : k < ls.length) (hx : decide (ls[k].runes = q) = false) : ((ls.take (k + 1)).find? fun o => decide (o.runes = q)) = none := by
  rw [List.take_succ_eq_append_getElem hk, List.find?_append, h]
  simpa using hx
theorem seq_hit {ls : List Tm.Ln} {q : List Int} {k : Nat} (h : ((ls.take k).find? fun o => decide (o.runes = q)) = none) (hk : k < ls.length) (hx : decide (ls[k].runes = q) = true) : elsFor ls q = ls[k].els := by
  have e : (ls.find? fun o => decide (o.runes = q)) = some ls[k] := by
    conv => lhs; rw [← List.take_append_drop (k + 1) ls]
    rw [List.take_succ_eq_append_getElem hk, List.find?_append, List.find?_append, h]
    simp [hx]
  rw [elsFor, e]
theorem elsFor_any {ls : List Tm.Ln} {q : List Int} (h : ∀ o ∈ ls, o.els ≠ []) : decide (0 < (elsFor ls q).length) = ls.any fun o => decide (o.runes = q) := by
  unfold elsFor
  cases hf : ls.find? fun o => decide (o.runes = q) with
  | none =>
    rw [List.find?_eq_none] at hf
    symm
    simp only [List.length_nil, Nat.lt_irrefl, decide_false]
    rw [List.any_eq_false]
    exact hf
  | some o =>
    have h1 := h o (List.mem_of_find?_eq_some hf)
    have h2 := List.find?_some hf
    have h3 : (ls.any fun o => decide (o.runes = q)) = true := List.any_eq_true.2 ⟨o, List.mem_of_find?_eq_some hf, h2⟩
    rw [h3]
    simp only [decide_eq_true_eq]
    exact List.length_pos_iff.2 h1

set_option maxRecDepth 100000 in
set_option maxHeartbeats 1000000 in
theorem of_any (vs vr : Value) (ls : List Tm.Ln) (qs : List Int) (w : World) (he : SeqsRd w vs ls) (h2 : Reads w vr 1 qs.length (ints qs)) (hl : ls.length ≤ 1000000) (hr : ∀ o ∈ ls, o.runes.length ≤ 1000000) (hl' : qs.length ≤ 1000000) :
    Calls Tryd.prog 80 #[.agg #[vs], vr] w fun e w' => ∃ v, e = .returned v ∧ Reads w v 4 (elsFor ls qs).length (elsCells (elsFor ls qs)) ∧ Below w.heap.size w w' := by
  obtain ⟨a, cap, rfl⟩ := he.shape
  obtain ⟨a', cap', rfl⟩ := h2.shape
  have HE := hide he
  have H2 := hide h2
  have HR := hide hr
  clear he h2 hr
  go_enter Tryd.func80, Tryd.ntmps80
  go_wp2
  go_loopw [10] (fun i wr => ∃ k : Nat, k ≤ ls.length ∧ i = .int .i64 k ∧ ((ls.take k).find? fun o => decide (o.runes = qs)) = none ∧ Below w.heap.size w wr) (fun i _ => ls.length - (intOf i).toNat)
  case atStart => exact ⟨0, Nat.zero_le _, rfl, by simp, (Below.refl _ _).alloc (Nat.le_refl _) _⟩
  case round =>
    obtain ⟨k, hk, rfl, hno, hb⟩ := hrel
    have hz := hb.size
    have HB := hide hb
    by_cases hlt : k < ls.length
    · obtain ⟨g, off, x1, x2, rfl, hg, c0, c1, r1, r2⟩ := HE.out.at hlt
      obtain ⟨a1, cap1, rfl⟩ := r1.shape
      obtain ⟨a2, cap2, rfl⟩ := r2.shape
      have hcc : ∀ o, wr.cell? ⟨g, o, none⟩ = w.cell? ⟨g, o, none⟩ := fun o => hb.cell (p := ⟨g, o, none⟩) hg
      rw [← hcc] at c0 c1
      have HS : Hid (∀ hx : decide (ls[k].runes = qs) = false, ((ls.take (k + 1)).find? fun o => decide (o.runes = qs)) = none) := fun hx => seq_next hno hlt hx
      have HY : Hid (∀ hx : decide (ls[k].runes = qs) = true, elsFor ls qs = ls[k].els) := fun hx => seq_hit hno hlt hx
      have hrl := HR.out _ (List.getElem_mem hlt)
      have R1 := hide r1
      have R2 := hide r2
      obtain ⟨rs, hrs⟩ : ∃ rs, ls[k].runes = rs := ⟨_, rfl⟩
      obtain ⟨es, hes⟩ : ∃ es, ls[k].els = es := ⟨_, rfl⟩
      rw [hrs] at hrl c0 R1 HS HY
      rw [hes] at c1 R2 HY
      have hb2 : Below w.heap.size w (wr.alloc (.cells #[.slice a1 rs.length cap1, .slice a2 es.length cap2] 153)) := HB.out.alloc hz _
      have HB2 := hide hb2
      clear hcc hb hno r1 r2 hrs hes hb2
      go_wp2_with fail
      refine (Equal_ints _ _ rs qs _ (R1.out.below HB2.out R1.out.2.1) (H2.out.below HB2.out H2.out.2.1) hrl hl').mono ?_
      rintro e w1 ⟨rfl, n, rfl⟩
      have HB3 : Hid (Below w.heap.size w ((wr.alloc (.cells #[.slice a1 rs.length cap1, .slice a2 es.length cap2] 153)).drewN n)) := HB2.out.trans ⟨rfl, rfl, rfl, Nat.le_refl _, fun _ _ => rfl⟩
      cases hx : decide (rs = qs)
      · go_wp2
        go_roundw
        case rel => exact ⟨k + 1, by omega, by go_num, HS.out hx, HB3.out⟩
        case measure => simp [intOf]; omega
      · go_wp2
        go_ret
        exact ⟨_, rfl, by rw [HY.out hx]; exact R2.out, HB3.out⟩
    · have HN : Hid (elsFor ls qs = []) := by
        rw [List.take_of_length_le (by omega)] at hno
        unfold Hid elsFor
        rw [hno]
      clear hno hb
      go_wp2
      go_ret
      exact ⟨_, rfl, by rw [HN.out]; exact ⟨rfl, (fun g hg => by cases hg), none, 0, rfl, ⟨Nat.le_refl _, Nat.zero_le _⟩, by simp [elsCells]⟩, HB.out⟩
set_option maxRecDepth 100000 in
theorem has_any (vs vr : Value) (ls : List Tm.Ln) (qs : List Int) (w : World) (he : SeqsRd w vs ls) (h2 : Reads w vr 1 qs.length (ints qs)) (hl : ls.length ≤ 1000000) (hr : ∀ o ∈ ls, o.runes.length ≤ 1000000) (hl' : qs.length ≤ 1000000) (hel : ∀ o ∈ ls, o.els ≠ []) :
    Calls Tryd.prog 92 #[.agg #[vs], vr] w fun e w' => e = .returned (.bool (ls.any fun o => decide (o.runes = qs))) ∧ Below w.heap.size w w' := by
  obtain ⟨a', cap', rfl⟩ := he.shape
  have hb0 : Below w.heap.size w (w.alloc (.cells #[.slice a' ls.length cap'] 139)) := (Below.refl _ _).alloc (Nat.le_refl _) _
  have HB0 := hide hb0
  have HE := hide (he.below hb0)
  have H2 := hide (h2.below hb0 h2.2.1)
  clear hb0 he h2
  go_enter Tryd.func92, Tryd.ntmps92
  go_wp2_with fail
  refine (of_any _ vr ls qs _ HE.out H2.out hl hr hl').mono ?_
  rintro e w1 ⟨v, rfl, hrd, hb⟩
  obtain ⟨a, cap, rfl⟩ := hrd.shape
  have HX := hide (elsFor_any (q := qs) hel)
  have HB : Hid (Below w.heap.size w w1) := HB0.out.trans (hb.mono (by simp))
  clear hrd hb
  generalize (elsFor ls qs).length = n at *
  go_wp2
  go_ret
  exact ⟨ret_bool (by rw [← HX.out]), HB.out⟩
end Go.Proofs.YtmnjjjhmnhfapaaDoor
