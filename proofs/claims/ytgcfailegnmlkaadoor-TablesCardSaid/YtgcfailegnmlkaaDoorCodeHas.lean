import Derived.Test.YtgcfailegnmlkaaDoorCodeAny
import Derived.Test.YtgcfailegnmlkaaDoorRefNew
namespace Go.Proofs.YtgcfailegnmlkaaDoor
open Go.RowKit

/-- A slice value reads as the sequences of these lines. -/
def SeqsRd (w : World) (v : Value) (ls : List Tm.Ln) : Prop :=
  (∀ g, v.ownBlock = some g → g < w.heap.size) ∧
  ∃ a cap, v = .slice a ls.length cap ∧ (ls.length ≤ cap ∧ cap ≤ maxLen) ∧ ∀ k (hk : k < ls.length), ∃ g off x1 x2, a = some ⟨g, off, none⟩ ∧ w.cell? ⟨g, off + k * 2, none⟩ = some x1 ∧ w.cell? ⟨g, off + k * 2 + 1, none⟩ = some x2 ∧
    Reads w x1 1 ls[k].runes.length (ints ls[k].runes) ∧ Reads w x2 4 ls[k].els.length (elsCells ls[k].els)
theorem SeqRow.rd {w : World} {col : Nat → Int} {base : Nat} {cl : Int} {v : Value} {ls : List Tm.Ln} (h : SeqRow w col base 78 false cl v ls) : SeqsRd w v ls := by
  obtain ⟨xs, hl, hr, hok⟩ := h
  have hrd := Reads.of_owns hr.1
  refine ⟨hrd.2.1, ?_⟩
  obtain ⟨_, _, a, cap, rfl, hcap, hc⟩ := hrd
  refine ⟨a, cap, rfl, hcap, fun k hk => ?_⟩
  have hk' : k < xs.length := by omega
  obtain ⟨h1, h2⟩ := hok k hk hk'
  obtain ⟨g, off, rfl, c0⟩ := hc (k * 2) _ (by have := seqCells_get2 hl hk hk' (f := 0) (by omega); simpa using this)
  obtain ⟨g1, off1, he, c1⟩ := hc (k * 2 + 1) _ (by have := seqCells_get2 hl hk hk' (f := 1) (by omega); simpa using this)
  cases he
  exact ⟨g, off, xs[k].1, xs[k].2, rfl, c0, c1, h1.1, h2.1⟩
theorem SeqsRd.shape {w : World} {v : Value} {ls : List Tm.Ln} (h : SeqsRd w v ls) : ∃ a cap, v = .slice a ls.length cap := by
  obtain ⟨_, a, cap, rfl, _⟩ := h
  exact ⟨a, cap, rfl⟩
theorem SeqsRd.below {w w' : World} {v : Value} {ls : List Tm.Ln} (h : SeqsRd w v ls) (hb : Below w.heap.size w w') : SeqsRd w' v ls := by
  obtain ⟨hlt, a, cap, rfl, hcap, hc⟩ := h
  refine ⟨fun g hg => Nat.lt_of_lt_of_le (hlt g hg) hb.size, a, cap, rfl, hcap, fun k hk => ?_⟩
  obtain ⟨g, off, x1, x2, rfl, c0, c1, h1, h2⟩ := hc k hk
  have hg := hlt g rfl
  exact ⟨g, off, x1, x2, rfl, by rw [hb.cell (p := ⟨g, off + k * 2, none⟩) hg]; exact c0, by rw [hb.cell (p := ⟨g, off + k * 2 + 1, none⟩) hg]; exact c1, h1.below hb h1.2.1, h2.below hb h2.2.1⟩
theorem SeqsRd.at {w : World} {a : Option Addr} {m cap : Nat} {ls : List Tm.Ln} (h : SeqsRd w (.slice a m cap) ls) {k : Nat} (hk : k < ls.length) :
    ∃ g off x1 x2, a = some ⟨g, off, none⟩ ∧ g < w.heap.size ∧ w.cell? ⟨g, off + k * 2, none⟩ = some x1 ∧ w.cell? ⟨g, off + k * 2 + 1, none⟩ = some x2 ∧ Reads w x1 1 ls[k].runes.length (ints ls[k].runes) ∧ Reads w x2 4 ls[k].els.length (elsCells ls[k].els) := by
  obtain ⟨hlt, a, cap, he, _, hc⟩ := h
  cases he
  obtain ⟨g, off, x1, x2, rfl, h⟩ := hc k hk
  exact ⟨g, off, x1, x2, rfl, hlt g rfl, h⟩

set_option maxRecDepth 100000 in
set_option maxHeartbeats 1000000 in
theorem has1_any (x1 x2 vr : Value) (b : Nat) (rs qs : List Int) (w : World) (hc : w.cell? ⟨b, 0, none⟩ = some vr) (hb : b < w.heap.size) (h1 : Reads w x1 1 rs.length (ints rs)) (h2 : Reads w vr 1 qs.length (ints qs)) (hl : rs.length ≤ 1000000) (hl' : qs.length ≤ 1000000) :
    Calls Tryd.prog 53 #[.agg #[x1, x2], .pointer (some ⟨b, 0, none⟩)] w fun e w' => e = .returned (.bool (decide (rs = qs))) ∧ Below w.heap.size w w' := by
  have e1 : ∀ o, (w.alloc o).cell? ⟨b, 0, none⟩ = some vr := fun o => by rw [cell_old hb]; exact hc
  go_enter Tryd.func53, Tryd.ntmps53
  go_wp2_with fail
  have hb1 := (Below.refl w.heap.size w).alloc (Nat.le_refl _) (.cells #[x1, x2] 78)
  refine (Equal_ints x1 vr rs qs _ (h1.below hb1 h1.2.1) (h2.below hb1 h2.2.1) hl hl').mono ?_
  rintro e w1 ⟨rfl, n, rfl⟩
  have HB : Hid (Below w.heap.size w ((w.alloc (.cells #[x1, x2] 78)).drewN n)) := hb1.trans ⟨rfl, rfl, rfl, Nat.le_refl _, fun _ _ => rfl⟩
  clear hb1 h1 h2
  go_wp2
  go_ret
  exact ⟨rfl, HB.out⟩

theorem anyRunes_step {ls : List Tm.Ln} {q : List Int} {k : Nat} (h : ((ls.take k).any fun o => decide (o.runes = q)) = false) (hk : k < ls.length) (hx : decide (ls[k].runes = q) = false) : ((ls.take (k + 1)).any fun o => decide (o.runes = q)) = false := by
  rw [List.take_succ_eq_append_getElem hk, List.any_append, h]
  simpa using hx
theorem anyRunes_hit {ls : List Tm.Ln} {q : List Int} {k : Nat} (hk : k < ls.length) (hx : decide (ls[k].runes = q) = true) : (ls.any fun o => decide (o.runes = q)) = true :=
  List.any_eq_true.2 ⟨ls[k], List.getElem_mem hk, hx⟩

set_option maxRecDepth 100000 in
set_option maxHeartbeats 1000000 in
theorem IndexFunc_has (ve vr : Value) (b : Nat) (ls : List Tm.Ln) (qs : List Int) (w : World) (he : SeqsRd w ve ls) (hc : w.cell? ⟨b, 0, none⟩ = some vr) (hbl : b < w.heap.size) (h2 : Reads w vr 1 qs.length (ints qs)) (hl : ls.length ≤ 1000000) (hr : ∀ o ∈ ls, o.runes.length ≤ 1000000) (hl' : qs.length ≤ 1000000) :
    Calls Tryd.prog 66 #[ve, .func (.func 53) #[] #[.pointer (some ⟨b, 0, none⟩)]] w fun e w' => foundAns (ls.any fun o => decide (o.runes = qs)) e ∧ Below w.heap.size w w' := by
  obtain ⟨a, cap, rfl⟩ := he.shape
  have HE := hide he
  have H2 := hide h2
  have HR := hide hr
  clear he h2 hr
  go_enter Tryd.func66, Tryd.ntmps66
  go_wp2
  go_loopw [8] (fun i wr => ∃ k : Nat, k ≤ ls.length ∧ i = .int .i64 k ∧ ((ls.take k).any fun o => decide (o.runes = qs)) = false ∧ Below w.heap.size w wr) (fun i _ => ls.length - (intOf i).toNat)
  case atStart => exact ⟨0, Nat.zero_le _, rfl, by simp, Below.refl _ _⟩
  case round =>
    obtain ⟨k, hk, rfl, hno, hb⟩ := hrel
    have hz := hb.size
    have HB := hide hb
    by_cases hlt : k < ls.length
    · obtain ⟨g, off, x1, x2, rfl, hg, c0, c1, r1, _⟩ := HE.out.at hlt
      have hcc : ∀ o, wr.cell? ⟨g, o, none⟩ = w.cell? ⟨g, o, none⟩ := fun o => hb.cell (p := ⟨g, o, none⟩) hg
      rw [← hcc] at c0 c1
      have HS : Hid (∀ hx : decide (ls[k].runes = qs) = false, ((ls.take (k + 1)).any fun o => decide (o.runes = qs)) = false) := fun hx => anyRunes_step hno hlt hx
      have HY : Hid (∀ hx : decide (ls[k].runes = qs) = true, (ls.any fun o => decide (o.runes = qs)) = true) := fun hx => anyRunes_hit hlt hx
      have hrl := HR.out _ (List.getElem_mem hlt)
      have hcw : wr.cell? ⟨b, 0, none⟩ = some vr := by rw [hb.cell (p := ⟨b, 0, none⟩) hbl]; exact hc
      have R1 := hide r1
      generalize ls[k].runes = rs at *
      clear hcc hb hno r1
      go_wp2_with fail
      refine (has1_any x1 x2 vr b rs qs _ hcw (by omega) (R1.out.below HB.out R1.out.2.1) (H2.out.below HB.out H2.out.2.1) hrl hl').mono ?_
      rintro e w1 ⟨rfl, hb1⟩
      have HB1 : Hid (Below w.heap.size w w1) := HB.out.trans (hb1.mono hz)
      clear hb1
      cases hx : decide (rs = qs)
      · go_wp2
        go_roundw
        case rel => exact ⟨k + 1, by omega, by go_num, HS.out hx, HB1.out⟩
        case measure => simp [intOf]; omega
      · go_wp2
        go_ret
        exact ⟨⟨k, rfl, by rw [HY.out hx]; simp⟩, HB1.out⟩
    · have HN : Hid ((ls.any fun o => decide (o.runes = qs)) = false) := by
        rw [List.take_of_length_le (by omega)] at hno
        exact hno
      clear hno hb
      go_wp2
      go_ret
      exact ⟨⟨-1, rfl, by rw [HN.out]; rfl⟩, HB.out⟩
set_option maxRecDepth 100000 in
theorem ContainsFunc_has (ve vr : Value) (b : Nat) (ls : List Tm.Ln) (qs : List Int) (w : World) (he : SeqsRd w ve ls) (hc : w.cell? ⟨b, 0, none⟩ = some vr) (hbl : b < w.heap.size) (h2 : Reads w vr 1 qs.length (ints qs)) (hl : ls.length ≤ 1000000) (hr : ∀ o ∈ ls, o.runes.length ≤ 1000000) (hl' : qs.length ≤ 1000000) :
    Calls Tryd.prog 52 #[ve, .func (.func 53) #[] #[.pointer (some ⟨b, 0, none⟩)]] w fun e w' => e = .returned (.bool (ls.any fun o => decide (o.runes = qs))) ∧ Below w.heap.size w w' := by
  go_enter Tryd.func52, Tryd.ntmps52
  go_wp2_with fail
  refine (IndexFunc_has ve vr b ls qs _ he hc hbl h2 hl hr hl').mono ?_
  rintro e w1 ⟨⟨i, rfl, hi⟩, hb⟩
  have HI := hide hi
  clear hi
  go_wp2
  go_ret
  exact ⟨ret_bool HI.out, hb⟩
set_option maxRecDepth 100000 in
theorem has_any (vs vr : Value) (ls : List Tm.Ln) (qs : List Int) (w : World) (he : SeqsRd w vs ls) (h2 : Reads w vr 1 qs.length (ints qs)) (hl : ls.length ≤ 1000000) (hr : ∀ o ∈ ls, o.runes.length ≤ 1000000) (hl' : qs.length ≤ 1000000) :
    Calls Tryd.prog 42 #[.agg #[vs], vr] w fun e w' => e = .returned (.bool (ls.any fun o => decide (o.runes = qs))) ∧ Below w.heap.size w w' := by
  have hb1 : Below w.heap.size w ((w.alloc (.cells #[vs] 93)).alloc (.cells #[vr] 40)) := ((Below.refl w.heap.size w).alloc (Nat.le_refl _) _).alloc (by simp) _
  have HE := hide (he.below hb1)
  have H2 := hide (h2.below hb1 h2.2.1)
  have HB := hide hb1
  obtain ⟨a, cap, rfl⟩ := he.shape
  obtain ⟨a', cap', rfl⟩ := h2.shape
  clear he h2 hb1
  go_enter Tryd.func42, Tryd.ntmps42
  go_wp2_with fail
  refine (ContainsFunc_has _ _ _ ls qs _ HE.out (by rw [cell_new (by simp)]; rfl) (by simp) H2.out hl hr hl').mono ?_
  rintro e w1 ⟨rfl, hb⟩
  have HB1 : Hid (Below w.heap.size w w1) := HB.out.trans (hb.mono (by simp; omega))
  clear hb
  go_wp2
  go_ret
  exact ⟨rfl, HB1.out⟩
end Go.Proofs.YtgcfailegnmlkaaDoor
