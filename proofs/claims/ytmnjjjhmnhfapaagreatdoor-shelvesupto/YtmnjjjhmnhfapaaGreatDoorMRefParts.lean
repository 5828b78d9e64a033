import Derived.BigGuardPart
import Derived.Deep.DeepCutAuto
import Derived.Test.YtmnjjjhmnhfapaaGreatDoorMRefSame
namespace Go.Proofs.YtmnjjjhmnhfapaaGreatDoor
open Go.RowKit
def elCells (x : Tm.El) : List Value := [.int .i64 x.p, .int .i64 x.s, .int .i64 x.t, .bool x.v]
def elsCells (l : List Tm.El) : List Value := l.flatMap elCells
theorem elsCells_length (l : List Tm.El) : (elsCells l).length = l.length * 4 := by
 induction l with
 | nil => rfl
 | cons a r ih => simp only [elsCells, List.flatMap_cons, List.length_append, List.length_cons] at *; rw [ih]; simp [elCells]; omega
theorem elsCells_get {l : List Tm.El} {k f : Nat} (h : k < l.length) (hf : f < 4) : (elsCells l)[k * 4 + f]? = (elCells l[k])[f]? := by
 induction l generalizing k with
 | nil => simp at h
 | cons a r ih =>
  cases k with
  | zero =>
   simp only [elsCells, List.flatMap_cons]
   rw [List.getElem?_append_left (by simp [elCells]; omega)]
   simp
  | succ k =>
   simp only [elsCells, List.flatMap_cons]
   rw [List.getElem?_append_right (by simp [elCells]; omega)]
   have := ih (k := k) (by simpa using h)
   simp only [elsCells] at this
   simp only [elCells, List.length_cons, List.length_nil] at *
   rw [show (k + 1) * 4 + f - (0 + 1 + 1 + 1 + 1) = k * 4 + f from by omega, this]
   rfl
theorem els_at {w : World} {a : Option Addr} {m cap : Nat} {els : List Tm.El} (h : Reads w (.slice a m cap) 4 els.length (elsCells els)) {k : Nat} (hk : k < els.length) :
  ∃ g off, a = some ⟨g, off, none⟩ ∧ g < w.heap.size ∧ w.cell? ⟨g, off + k * 4, none⟩ = some (.int .i64 els[k].p) ∧ w.cell? ⟨g, off + k * 4 + 1, none⟩ = some (.int .i64 els[k].s) ∧ w.cell? ⟨g, off + k * 4 + 2, none⟩ = some (.int .i64 els[k].t) ∧ w.cell? ⟨g, off + k * 4 + 3, none⟩ = some (.bool els[k].v) := by
 obtain ⟨g, off, cap', he, hg, hc⟩ := h.form (by rw [elsCells_length]; omega)
 cases he
 exact ⟨g, off, rfl, hg, hc (k * 4) _ (by have := elsCells_get hk (f := 0) (by omega); simpa [elCells] using this), hc (k * 4 + 1) _ (by have := elsCells_get hk (f := 1) (by omega); simpa [elCells] using this),
  hc (k * 4 + 2) _ (by have := elsCells_get hk (f := 2) (by omega); simpa [elCells] using this), hc (k * 4 + 3) _ (by have := elsCells_get hk (f := 3) (by omega); simpa [elCells] using this)⟩
theorem any_step {els : List Tm.El} {k : Nat} (h : (els.take k).any Tm.lightEl = false) (hk : k < els.length) (hx : Tm.lightEl els[k] = false) : (els.take (k + 1)).any Tm.lightEl = false := by
 rw [List.take_succ_eq_append_getElem hk, List.any_append, h]
 simp [hx]
theorem any_hit {els : List Tm.El} {k : Nat} (hk : k < els.length) (hx : Tm.lightEl els[k] = true) : els.any Tm.lightEl = true :=
 List.any_eq_true.2 ⟨els[k], List.getElem_mem hk, hx⟩
set_option maxRecDepth 100000 in
set_option maxHeartbeats 1000000 in
theorem light_any (kind : Value) (vr ve : Value) (n : Int) (els : List Tm.El) (w : World) (he : Reads w ve 4 els.length (elsCells els)) (hl : els.length ≤ 1000000) :
  Calls Tryz.prog 38 #[.agg #[kind, vr, ve, .int .i64 n]] w fun e w' => e = .returned (.bool (els.any Tm.lightEl)) ∧ Below w.heap.size w w' := by
 obtain ⟨a, cap, rfl⟩ := he.shape
 have HC : Hid (∀ k (hk : k < els.length), _) := fun k hk => els_at he hk
 clear he
 go_enter Tryz.func38, Tryz.ntmps38
 go_wp2
 go_loopw [3] (fun i wr => ∃ k : Nat, k ≤ els.length ∧ i = .int .i64 k ∧ (els.take k).any Tm.lightEl = false ∧ Below (w.heap.size + 1) (w.alloc (.cells #[kind, vr, .slice a els.length cap, .int .i64 n] 86)) wr) (fun i _ => els.length - (intOf i).toNat)
 case atStart => exact ⟨0, Nat.zero_le _, rfl, by simp, Below.refl _ _⟩
 case round =>
  obtain ⟨k, hk, rfl, hno, hb⟩ := hrel
  have b2 : wr.cell? ⟨w.heap.size, 2, none⟩ = some (.slice a els.length cap) := by rw [hb.cell (by simp)]; simp
  have hz := hb.size
  simp at hz
  have HB := hide hb
  by_cases hlt : k < els.length
  ·obtain ⟨g, off, rfl, hg, c0, c1, c2, c3⟩ := HC.out k hlt
   have hc : ∀ o, wr.cell? ⟨g, o, none⟩ = w.cell? ⟨g, o, none⟩ := fun o => by rw [hb.cell (by simp; omega)]; simp [World.cell?_alloc_past, hg]
   rw [← hc] at c0 c1 c2 c3
   have HS : Hid (∀ hx : Tm.lightEl els[k] = false, (els.take (k + 1)).any Tm.lightEl = false) := fun hx => any_step hno hlt hx
   have HY : Hid (∀ hx : Tm.lightEl els[k] = true, els.any Tm.lightEl = true) := fun hx => any_hit hlt hx
   generalize els[k] = x at *
   clear hc hb hno HC
   go_upto_region 5 with fail
   go_cut [48] (fun t wx => t = .bool (Tm.lightEl x) ∧ wx = wr.alloc (.cells #[.int .i64 x.p, .int .i64 x.s, .int .i64 x.t, .bool x.v] 102))
   case first =>
    go_wp2
    all_goals go_meet
    all_goals refine ⟨?_, ?_⟩
    all_goals first | (simp [Tm.lightEl, *]; done) | simp [*]
   case rest =>
    obtain ⟨rfl, rfl⟩ := hcut
    cases hx : Tm.lightEl x
    ·go_wp2
     go_roundw
     case rel => exact ⟨k + 1, by omega, by go_num, HS.out hx, HB.out.alloc (by omega) _⟩
     case measure => simp [intOf]; omega
    ·go_wp2
     go_ret
     exact ⟨ret_bool (HY.out hx).symm, (((Below.refl _ _).alloc (Nat.le_refl _) _).trans (HB.out.mono (by omega))).alloc (by omega) _⟩
  ·have HN : Hid (els.any Tm.lightEl = false) := by
    rw [List.take_of_length_le (by omega)] at hno
    exact hno
   clear hno hb HC
   go_wp2
   go_ret
   exact ⟨ret_bool HN.out.symm, ((Below.refl _ _).alloc (Nat.le_refl _) _).trans (HB.out.mono (by omega))⟩
def LineAt (w : World) (g off : Nat) (kb : ByteArray) (vr ve : Value) (ln : Tm.Ln) : Prop :=
 w.cell? ⟨g, off, none⟩ = some (.string kb) ∧ w.cell? ⟨g, off + 1, none⟩ = some vr ∧ w.cell? ⟨g, off + 2, none⟩ = some ve ∧ w.cell? ⟨g, off + 3, none⟩ = some (.int .i64 ln.num) ∧
 kb.data.toList = ln.kind ∧ Reads w vr 1 ln.runes.length (ints ln.runes) ∧ Reads w ve 4 ln.els.length (elsCells ln.els)
def TableRd (w : World) (v : Value) (lns : List Tm.Ln) : Prop :=
 (∀ g, v.ownBlock = some g → g < w.heap.size) ∧
 ∃ a cap, v = .slice a lns.length cap ∧ (lns.length ≤ cap ∧ cap ≤ maxLen) ∧ ∀ k (hk : k < lns.length), ∃ g off kb vr ve, a = some ⟨g, off, none⟩ ∧ LineAt w g (off + k * 4) kb vr ve lns[k]
theorem TableRd.shape {w : World} {v : Value} {lns : List Tm.Ln} (h : TableRd w v lns) : ∃ a cap, v = .slice a lns.length cap := by
 obtain ⟨_, a, cap, rfl, _⟩ := h
 exact ⟨a, cap, rfl⟩
theorem LineAt.below {w w' : World} {g off : Nat} {kb : ByteArray} {vr ve : Value} {ln : Tm.Ln} (h : LineAt w g off kb vr ve ln) (hb : Below w.heap.size w w') (hg : g < w.heap.size) : LineAt w' g off kb vr ve ln := by
 obtain ⟨h0, h1, h2, h3, hk, hr, he⟩ := h
 refine ⟨?_, ?_, ?_, ?_, hk, hr.below hb hr.2.1, he.below hb he.2.1⟩
 ·rw [hb.cell (p := ⟨g, off, none⟩) hg]; exact h0
 ·rw [hb.cell (p := ⟨g, off + 1, none⟩) hg]; exact h1
 ·rw [hb.cell (p := ⟨g, off + 2, none⟩) hg]; exact h2
 ·rw [hb.cell (p := ⟨g, off + 3, none⟩) hg]; exact h3
theorem TableRd.below {w w' : World} {v : Value} {lns : List Tm.Ln} (h : TableRd w v lns) (hb : Below w.heap.size w w') : TableRd w' v lns := by
 obtain ⟨hlt, a, cap, rfl, hcap, hc⟩ := h
 refine ⟨fun g hg => Nat.lt_of_lt_of_le (hlt g hg) hb.size, a, cap, rfl, hcap, fun k hk => ?_⟩
 obtain ⟨g, off, kb, vr, ve, rfl, hl⟩ := hc k hk
 exact ⟨g, off, kb, vr, ve, rfl, hl.below hb (hlt g rfl)⟩
theorem TableRd.at {w : World} {a : Option Addr} {m cap : Nat} {lns : List Tm.Ln} (h : TableRd w (.slice a m cap) lns) {k : Nat} (hk : k < lns.length) :
  ∃ g off kb vr ve, a = some ⟨g, off, none⟩ ∧ g < w.heap.size ∧ LineAt w g (off + k * 4) kb vr ve lns[k] := by
 obtain ⟨hlt, a, cap, he, _, hc⟩ := h
 cases he
 obtain ⟨g, off, kb, vr, ve, rfl, hl⟩ := hc k hk
 exact ⟨g, off, kb, vr, ve, rfl, hlt g rfl, hl⟩
theorem Reads.at {w : World} {a : Option Addr} {m cap : Nat} {l : List Int} (h : Reads w (.slice a m cap) 1 l.length (ints l)) {k : Nat} (hk : k < l.length) :
  ∃ g off, a = some ⟨g, off, none⟩ ∧ g < w.heap.size ∧ w.cell? ⟨g, off + k, none⟩ = some (.int .i64 l[k]) := by
 obtain ⟨g, off, cap', he, hg, hc⟩ := h.form (by rw [ints_length]; omega)
 cases he
 exact ⟨g, off, rfl, hg, hc k _ (ints_get hk)⟩
theorem Reads.tail {w : World} {g off n cap : Nat} {l : List Int} (h : Reads w (.slice (some ⟨g, off, none⟩) n cap) 1 l.length (ints l)) (hn : 0 < l.length) :
  Reads w (.slice (some ⟨g, off + 1, none⟩) (l.length - 1) (cap - 1)) 1 l.tail.length (ints l.tail) := by
 obtain ⟨h1, hlt, a, cap', he, hcap, hc⟩ := h
 cases he
 refine ⟨by simp [ints], fun g' hg' => hlt g' (by simpa [Value.ownBlock] using hg'), _, _, by rw [List.length_tail], ⟨by rw [List.length_tail]; omega, by omega⟩, fun j u hu => ?_⟩
 have hj : (ints l)[j + 1]? = some u := by
  rw [← hu]
  simp [ints, List.getElem?_map]
 obtain ⟨g', off', he, hcell⟩ := hc (j + 1) u hj
 cases he
 exact ⟨g, off + 1, rfl, by rw [← hcell]; congr 2; omega⟩
theorem parts_none {lns : List Tm.Ln} {r : Int} (h : lns.find? (Tm.isParts r) = none) : Tm.parts lns r = [] := by unfold Tm.parts; rw [h]
theorem parts_some {lns : List Tm.Ln} {r : Int} {o : Tm.Ln} (h : lns.find? (Tm.isParts r) = some o) : Tm.parts lns r = o.runes.tail := by unfold Tm.parts; rw [h]
theorem find_step {α : Type} {l : List α} {p : α → Bool} {k : Nat} (h : ∀ j (_ : j < k) (hj : j < l.length), p l[j] = false) (hk : k < l.length) (hx : p l[k] = false) : ∀ j (_ : j < k + 1) (hj : j < l.length), p l[j] = false := by
 intro j hj hl
 by_cases e : j = k
 ·subst e; exact hx
 ·exact h j (by omega) hl
theorem find_none {α : Type} {l : List α} {p : α → Bool} {k : Nat} (h : ∀ j (_ : j < k) (hj : j < l.length), p l[j] = false) (hk : l.length ≤ k) : l.find? p = none := by
 rw [List.find?_eq_none]
 intro x hx
 obtain ⟨j, hj, rfl⟩ := List.getElem_of_mem hx
 simp [h j (by omega) hj]
theorem find_hit {α : Type} {l : List α} {p : α → Bool} {k : Nat} (h : ∀ j (_ : j < k) (hj : j < l.length), p l[j] = false) (hk : k < l.length) (hx : p l[k] = true) : l.find? p = some l[k] := by
 rw [List.find?_eq_some_iff_getElem]
 exact ⟨hx, k, hk, rfl, fun j hj => by simp [h j hj (by omega)]⟩
set_option maxRecDepth 100000 in
set_option maxHeartbeats 1000000 in
theorem Parts_any (vl : Value) (st : Int) (sh : Bool) (r : Int) (lns : List Tm.Ln) (w : World) (ht : TableRd w vl lns) (hne : ∀ o ∈ lns, o.runes ≠ []) (hl : lns.length ≤ 1000000) :
  Calls Tryz.prog 124 #[.agg #[vl, .int .i64 st, .bool sh], .int .i64 r] w fun e w' => ∃ v, e = .returned v ∧ Reads w v 1 (Tm.parts lns r).length (ints (Tm.parts lns r)) ∧ Below w.heap.size w w' := by
 obtain ⟨a, cap, rfl⟩ := ht.shape
 have HT := hide ht
 have HNE := hide hne
 clear ht hne
 go_enter Tryz.func124, Tryz.ntmps124
 go_wp2
 go_loop [5] (fun i => ∃ k : Nat, k ≤ lns.length ∧ i = .int .i64 k ∧ ∀ j (_ : j < k) (hj : j < lns.length), Tm.isParts r lns[j] = false) (fun i => lns.length - (intOf i).toNat)
 case atStart => exact ⟨0, Nat.zero_le _, rfl, fun j hj => by omega⟩
 case round =>
  obtain ⟨k, hk, rfl, hno⟩ := hrel
  by_cases hlt : k < lns.length
  ·obtain ⟨g, off, kb, vr, ve, rfl, hg, c0, c1, c2, c3, hkb, hr, he⟩ := HT.out.at hlt
   have hpos : 0 < lns[k].runes.length := List.length_pos_iff.2 (HNE.out _ (List.getElem_mem hlt))
   obtain ⟨ar, capr, rfl⟩ := hr.shape
   have hfit := hr.fits
   obtain ⟨gr, offr, rfl, hgr, cr⟩ := hr.at hpos
   have HR := hide (hr.tail hpos)
   have hip : Tm.isParts r lns[k] = ((kb.toList == [100]) && (lns[k].runes[0] == r)) := by
    unfold Tm.isParts
    rw [← hkb, ByteArray.toList_eq]
    congr 1
    ·rw [Bool.eq_iff_iff]; simp
    ·simp [hpos]
   have HS : Hid (Tm.isParts r lns[k] = false → ∀ j (_ : j < k + 1) (hj : j < lns.length), Tm.isParts r lns[j] = false) := fun hx => find_step hno hlt hx
   have HY : Hid (Tm.isParts r lns[k] = true → Tm.parts lns r = lns[k].runes.tail) := fun hx => parts_some (find_hit hno hlt hx)
   rw [hip] at HS HY
   have g1 : ¬ g = w.heap.size := by omega
   have g2 : ¬ gr = w.heap.size := by omega
   have hc1 : 1 ≤ capr := by omega
   have hc2 : capr ≤ 9223372036854775807 := by have := hfit.2.2; unfold maxLen at this; omega
   have hc3 := hfit.2.1
   generalize lns[k].runes[0] = x0 at *
   generalize hln : lns[k].runes.length = ln at *
   have HLN := hide hln
   clear hno hr he hkb hip hln hfit
   simp only [Nat.add_zero] at cr
   cases hk1 : (kb.toList == [100])
   ·have HS' := hide (HS.out (by rw [hk1]; rfl))
    go_wp2
    go_round
    case rel => exact ⟨k + 1, by omega, by go_num, HS'.out⟩
    case measure => simp [intOf]; omega
   ·cases hk2 : (x0 == r)
    ·have HS' := hide (HS.out (by rw [hk1, hk2]; rfl))
     go_wp2
     go_round
     case rel => exact ⟨k + 1, by omega, by go_num, HS'.out⟩
     case measure => simp [intOf]; omega
    ·have HY' := hide (HY.out (by rw [hk1, hk2]; rfl))
     by_cases hcap1 : capr = 1
     ·subst hcap1
      have hl1 : ln = 1 := by omega
      subst hl1
      go_wp2
      go_ret
      refine ⟨.slice (some ⟨gr, offr, none⟩) 0 0, rfl, ?_, (Below.refl _ _).alloc (Nat.le_refl _) _⟩
      have h0 : lns[k].runes.tail = [] := List.eq_nil_of_length_eq_zero (by rw [List.length_tail, HLN.out])
      rw [HY'.out, h0]
      exact ⟨rfl, fun g' hg' => by simp [Value.ownBlock] at hg'; omega, _, 0, rfl, ⟨Nat.le_refl _, Nat.zero_le _⟩, by simp [ints]⟩
     ·go_wp2
      go_ret
      refine ⟨.slice (some ⟨gr, offr + 1, none⟩) (ln - 1) (capr - 1), rfl, ?_, (Below.refl _ _).alloc (Nat.le_refl _) _⟩
      rw [HY'.out]
      exact HR.out
  ·have HN := hide (parts_none (find_none hno (by omega)))
   clear hno
   go_wp2
   go_ret
   exact ⟨_, rfl, by rw [HN.out]; exact ⟨rfl, fun g hg => by simp [Value.ownBlock] at hg, none, 0, rfl, ⟨Nat.le_refl _, Nat.zero_le _⟩, by simp [ints]⟩, (Below.refl _ _).alloc (Nat.le_refl _) _⟩
end Go.Proofs.YtmnjjjhmnhfapaaGreatDoor
