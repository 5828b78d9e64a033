import Derived.Test.YtmnjjjhmnhfapaaGreatDoorMRefNormalW
namespace Go.Proofs.YtmnjjjhmnhfapaaGreatDoor
open Go.RowKit
def firstOf (lns : List Tm.Ln) (l : List Int) : Nat := if 3 ≤ l.length ∧ Tm.isS lns (l.take 3) = true then 3 else if 2 ≤ l.length ∧ Tm.isS lns (l.take 2) = true then 2 else if 1 ≤ l.length ∧ Tm.isS lns (l.take 1) = true then 1 else 0
theorem firstOf_lead {lns : List Tm.Ln} {l : List Int} : max 1 (firstOf lns l) = Tm.lead lns l := by
 unfold firstOf Tm.lead
 split
 ·rfl
 ·split
  ·rfl
  ·split <;> rfl
theorem firstOf_hit {lns : List Tm.Ln} {l : List Int} {k : Nat} (h1 : 1 ≤ k) (h3 : k ≤ 3) (hl : k ≤ l.length) (hx : Tm.isS lns (l.take k) = true) (hno : ∀ m, k < m → m ≤ 3 → m ≤ l.length → Tm.isS lns (l.take m) = false) : firstOf lns l = k := by
 unfold firstOf
 rcases (show k = 1 ∨ k = 2 ∨ k = 3 by omega) with rfl | rfl | rfl
 ·rw [if_neg (fun h => by have := hno 3 (by omega) (by omega) h.1; rw [h.2] at this; cases this), if_neg (fun h => by have := hno 2 (by omega) (by omega) h.1; rw [h.2] at this; cases this), if_pos ⟨hl, hx⟩]
 ·rw [if_neg (fun h => by have := hno 3 (by omega) (by omega) h.1; rw [h.2] at this; cases this), if_pos ⟨hl, hx⟩]
 ·rw [if_pos ⟨hl, hx⟩]
theorem firstOf_none {lns : List Tm.Ln} {l : List Int} (hno : ∀ m, 0 < m → m ≤ 3 → m ≤ l.length → Tm.isS lns (l.take m) = false) : firstOf lns l = 0 := by
 unfold firstOf
 rw [if_neg (fun h => by have := hno 3 (by omega) (by omega) h.1; rw [h.2] at this; cases this), if_neg (fun h => by have := hno 2 (by omega) (by omega) h.1; rw [h.2] at this; cases this), if_neg (fun h => by have := hno 1 (by omega) (by omega) h.1; rw [h.2] at this; cases this)]
theorem seqAns_ok {lns : List Tm.Ln} {q : List Int} {w : World} {e : Ending} (h : seqAns (Tm.seqOf lns q) w e) : ∃ a n cap, e = .returned (.tuple #[.slice a n cap, .bool (Tm.isS lns q)]) ∧ ∀ es, Tm.seqOf lns q = some es → n = es.length ∧ Reads w (.slice a n cap) 4 es.length (elsCells es) := by
 obtain ⟨v, ok, rfl, h⟩ := h
 cases ok
 ·obtain ⟨h1, rfl⟩ := h
  refine ⟨none, 0, 0, by unfold Tm.isS; rw [h1]; rfl, fun es he => by rw [h1] at he; cases he⟩
 ·obtain ⟨es, h1, h2⟩ := h
  obtain ⟨a, cap, rfl⟩ := h2.shape
  refine ⟨a, es.length, cap, by unfold Tm.isS; rw [h1]; rfl, fun es' he => ?_⟩
  rw [h1] at he
  injection he with he
  subst he
  exact ⟨rfl, h2⟩
set_option maxRecDepth 100000 in
set_option maxHeartbeats 2000000 in
theorem first_any (vl : Value) (st : Int) (sh : Bool) (vs : Value) (l : List Int) (lns : List Tm.Ln) (w : World) (ht : TableRd w vl lns) (hs : Reads w vs 1 l.length (ints l)) (hp : 0 < l.length) (hl : lns.length ≤ 1000000) (hl2 : l.length ≤ 1000000) (hf : ∀ o ∈ lns, Tm.Fit o) :
  Calls Tryz.prog 87 #[.agg #[vl, .int .i64 st, .bool sh], vs] w fun e w' => e = .returned (.int .i64 (firstOf lns l)) ∧ Below w.heap.size w w' := by
 obtain ⟨a, cap, rfl⟩ := ht.shape
 obtain ⟨g, off, capl, rfl, hg, _⟩ := hs.form (by rw [ints_length]; exact hp)
 have HT := hide ht
 have HS := hide hs
 have hcap := hs.fits
 have HF3 : Hid (∀ o ∈ lns, o.runes.length ≤ 1000000) := fun o ho => by have := (hf o ho).few; omega
 obtain ⟨n, hn⟩ : ∃ n, l.length = n := ⟨_, rfl⟩
 rw [hn] at hp hl2 hcap
 have HN := hide hn
 rw [hn]
 obtain ⟨W, hW⟩ : ∃ W, w.alloc (.cells #[.slice a lns.length cap, .int .i64 st, .bool sh] 29) = W := ⟨_, rfl⟩
 have hb0 : Below w.heap.size w W := by rw [← hW]; exact (Below.refl _ _).alloc (Nat.le_refl _) _
 have hz0 : W.heap.size = w.heap.size + 1 := by rw [← hW]; simp
 have k0 : W.cell? ⟨w.heap.size, 0, none⟩ = some (.slice a lns.length cap) := by rw [← hW, cell_new rfl]; rfl
 have k1 : W.cell? ⟨w.heap.size, 1, none⟩ = some (.int .i64 st) := by rw [← hW, cell_new rfl]; rfl
 have k2 : W.cell? ⟨w.heap.size, 2, none⟩ = some (.bool sh) := by rw [← hW, cell_new rfl]; rfl
 have HB0 := hide hb0
 have HK := hide (And.intro k0 (And.intro k1 k2))
 clear ht hs hb0 hn k0 k1 k2
 go_enter Tryz.func87, Tryz.ntmps87
 go_upto_region 1 with fail
 go_cut [5] from 6 to 10 (fun t wx => t = .int .i64 ((min n 3 : Nat) : Int) ∧ W = wx)
 case first =>
  go_wp2
  all_goals go_meet
  all_goals refine ⟨?_, rfl⟩
  all_goals first | rw [show min n 3 = n by omega] | (rw [show min n 3 = 3 by omega]; rfl)
 case rest =>
  obtain ⟨rfl, rfl⟩ := hcut
  go_wp2_with fail
  go_loopw [5] (fun i wr => ∃ k : Nat, k ≤ 3 ∧ k ≤ n ∧ i = .int .i64 k ∧ (∀ m, k < m → m ≤ 3 → m ≤ l.length → Tm.isS lns (l.take m) = false) ∧ Below W.heap.size W wr) (fun i _ => (intOf i).toNat)
  case atStart => exact ⟨min n 3, by omega, by omega, rfl, fun m h1 h2 h3 => by rw [HN.out] at h3; omega, Below.refl _ _⟩
  case round =>
   obtain ⟨k, hk3, hkn, rfl, hno, hb⟩ := hrel
   have hz := hb.size
   have HB := hide hb
   have HNO := hide hno
   have k0 : wr.cell? ⟨w.heap.size, 0, none⟩ = some (.slice a lns.length cap) := by rw [hb.cell (p := ⟨w.heap.size, 0, none⟩) (by simp only; omega)]; exact HK.out.1
   have k1 : wr.cell? ⟨w.heap.size, 1, none⟩ = some (.int .i64 st) := by rw [hb.cell (p := ⟨w.heap.size, 1, none⟩) (by simp only; omega)]; exact HK.out.2.1
   have k2 : wr.cell? ⟨w.heap.size, 2, none⟩ = some (.bool sh) := by rw [hb.cell (p := ⟨w.heap.size, 2, none⟩) (by simp only; omega)]; exact HK.out.2.2
   have HBW : Hid (Below w.heap.size w wr) := HB0.out.trans (hb.mono (by omega))
   clear hb hno
   by_cases hlt : 0 < k
   ·have HTK := hide (Reads.two (HS.out.below HBW.out HS.out.2.1) (k := k) (by rw [HN.out]; exact hkn))
    have hlen : (l.take k).length = k := by rw [List.length_take, HN.out]; omega
    rw [hlen] at HTK
    have j1 : (0 : Int) ≤ (k : Int) := by omega
    have j2 : (k : Int) ≤ (capl : Int) := by omega
    have j3 : (k : Int) ≤ (n : Int) := by omega
    have HTW := hide (HT.out.below HBW.out)
    go_upto_region 4 with fail
    go_cut [6, 7] from 11 to 22 (fun y t wx => t = .bool (Tm.isS lns (l.take k)) ∧ Below wr.heap.size wr wx)
    case first =>
     go_region_with (go_at_call 82; refine (Sequence_any _ st sh _ (l.take k) lns _ (by exact HTW.out.below (Below.refl _ _).drew) (by rw [hlen]; exact HTK.out.below (Below.refl _ _).drew HTK.out.2.1) hl (by omega) HF3.out).mono ?_; rintro e w2 ⟨hans, hb2⟩; obtain ⟨sa, sn, sc, rfl, _⟩ := seqAns_ok hans)
     all_goals (go_wp2_with fail; go_meet; exact ⟨rfl, (Below.refl _ _).drew.trans hb2⟩)
    case rest =>
     obtain ⟨rfl, hbc⟩ := hcut
     have HBC : Hid (Below W.heap.size W wc) := HB.out.trans (hbc.mono (by omega))
     have HBF : Hid (Below w.heap.size w wc) := HBW.out.trans (hbc.mono (by omega))
     clear hbc k0 k1 k2
     cases hx : Tm.isS lns (l.take k)
     ·go_wp2
      go_roundw
      case rel => exact ⟨k - 1, by omega, by omega, by go_num, fun m h1 h2 h3 => by
       by_cases e : m = k
       ·rw [e]; exact hx
       ·exact HNO.out m (by omega) h2 h3, HBC.out⟩
      case measure => simp [intOf]; omega
     ·go_wp2
      go_ret
      exact ⟨ret_int (by rw [firstOf_hit (by omega) hk3 (by rw [HN.out]; exact hkn) hx HNO.out]), HBF.out⟩
   ·clear k0 k1 k2
    go_wp2
    go_ret
    exact ⟨ret_int (by rw [firstOf_none (fun m h1 h2 h3 => HNO.out m (by omega) h2 h3)]; rfl), HBW.out⟩
def freeOf (lns : List Tm.Ln) (p : List Int) (c : Int) : Bool := p.all fun y => decide (Tm.classOf lns y < Tm.classOf lns c)
theorem freeOf_iff {lns : List Tm.Ln} {p : List Int} {c : Int} : freeOf lns p c = true ↔ ∀ y ∈ p, Tm.classOf lns y < Tm.classOf lns c := by simp [freeOf]
set_option maxRecDepth 100000 in
set_option maxHeartbeats 2000000 in
theorem free_any (vl : Value) (st : Int) (sh : Bool) (vs : Value) (l : List Int) (i : Nat) (lns : List Tm.Ln) (w : World) (ht : TableRd w vl lns) (hs : Reads w vs 1 l.length (ints l)) (hi : i < l.length) (hl : lns.length ≤ 1000000) (hl2 : l.length ≤ 1000000) (hf : ∀ o ∈ lns, Tm.Fit o) :
  Calls Tryz.prog 89 #[.agg #[vl, .int .i64 st, .bool sh], vs, .int .i64 i] w fun e w' => e = .returned (.bool (freeOf lns (l.take i) l[i])) ∧ Below w.heap.size w w' := by
 obtain ⟨a, cap, rfl⟩ := ht.shape
 obtain ⟨g, off, capl, rfl, hg, hc⟩ := hs.form (by rw [ints_length]; omega)
 have HT := hide ht
 have HF := hide hf
 have HC : Hid (∀ k (h : k < l.length), w.cell? ⟨g, off + k, none⟩ = some (.int .i64 l[k])) := fun k h => hc k _ (ints_get h)
 have ci := HC.out i hi
 obtain ⟨n, hn⟩ : ∃ n, l.length = n := ⟨_, rfl⟩
 rw [hn] at hl2
 have HN := hide hn
 rw [hn]
 obtain ⟨W, hW⟩ : ∃ W, w.alloc (.cells #[.slice a lns.length cap, .int .i64 st, .bool sh] 29) = W := ⟨_, rfl⟩
 have hb0 : Below w.heap.size w W := by rw [← hW]; exact (Below.refl _ _).alloc (Nat.le_refl _) _
 have hz0 : W.heap.size = w.heap.size + 1 := by rw [← hW]; simp
 have k0 : W.cell? ⟨w.heap.size, 0, none⟩ = some (.slice a lns.length cap) := by rw [← hW, cell_new rfl]; rfl
 have k1 : W.cell? ⟨w.heap.size, 1, none⟩ = some (.int .i64 st) := by rw [← hW, cell_new rfl]; rfl
 have k2 : W.cell? ⟨w.heap.size, 2, none⟩ = some (.bool sh) := by rw [← hW, cell_new rfl]; rfl
 have HB0 := hide hb0
 have HK := hide (And.intro k0 (And.intro k1 k2))
 have ciW : W.cell? ⟨g, off + i, none⟩ = some (.int .i64 l[i]) := by rw [hb0.cell (p := ⟨g, off + i, none⟩) hg]; exact ci
 have hin : i < n := by omega
 have j1 : (0 : Int) ≤ (i : Int) := by omega
 have j2 : (i : Int) < (n : Int) := by omega
 have HTW := hide (HT.out.below hb0)
 obtain ⟨c, hcdef⟩ : ∃ c, l[i] = c := ⟨_, rfl⟩
 rw [hcdef] at ciW
 have HCD := hide hcdef
 simp only [hcdef]
 clear ht hs hb0 hn hc ci hf hcdef
 go_enter Tryz.func89, Tryz.ntmps89
 go_upto_region 1 with fail
 go_cut [7] from 9 to 14 (fun t wx => t = .int .i64 (Tm.classOf lns c) ∧ Below W.heap.size W wx)
 case first =>
  go_region_with (go_at_call 88; refine (Class_any _ st sh c lns _ (by exact HTW.out.below (Below.refl _ _).drew) HF.out hl).mono ?_; rintro e w2 ⟨rfl, hbp⟩)
  all_goals (go_wp2_with fail; go_meet; exact ⟨rfl, ((Below.refl _ _).drew).trans hbp⟩)
 case rest =>
  obtain ⟨rfl, hbc⟩ := hcut
  have HBC := hide hbc
  clear hbc k0 k1 k2 ciW
  go_wp2_with fail
  go_loopw [8] (fun q wr => ∃ k : Nat, k ≤ i ∧ q = .int .i64 k ∧ freeOf lns (l.take k) c = true ∧ Below W.heap.size W wr) (fun q _ => i - (intOf q).toNat)
  case atStart => exact ⟨0, Nat.zero_le _, rfl, rfl, HBC.out⟩
  case round =>
   obtain ⟨k, hk, rfl, hfr, hb⟩ := hrel
   have HB := hide hb
   have hz := hb.size
   have k0 : wr.cell? ⟨w.heap.size, 0, none⟩ = some (.slice a lns.length cap) := by rw [hb.cell (p := ⟨w.heap.size, 0, none⟩) (by simp only; omega)]; exact HK.out.1
   have k1 : wr.cell? ⟨w.heap.size, 1, none⟩ = some (.int .i64 st) := by rw [hb.cell (p := ⟨w.heap.size, 1, none⟩) (by simp only; omega)]; exact HK.out.2.1
   have k2 : wr.cell? ⟨w.heap.size, 2, none⟩ = some (.bool sh) := by rw [hb.cell (p := ⟨w.heap.size, 2, none⟩) (by simp only; omega)]; exact HK.out.2.2
   have HBW : Hid (Below w.heap.size w wr) := HB0.out.trans (hb.mono (by omega))
   have HFR := hide hfr
   clear hb hfr
   by_cases hlt : k < i
   ·have hkl : k < l.length := by rw [HN.out]; omega
    have ck : wr.cell? ⟨g, off + k, none⟩ = some (.int .i64 l[k]) := by rw [HBW.out.cell (p := ⟨g, off + k, none⟩) hg]; exact HC.out k hkl
    have HST : Hid (freeOf lns (l.take (k + 1)) c = (freeOf lns (l.take k) c && decide (Tm.classOf lns l[k] < Tm.classOf lns c))) := by unfold Hid freeOf; rw [List.take_succ_eq_append_getElem hkl, List.all_append]; simp
    have HIN : Hid (¬ Tm.classOf lns l[k] < Tm.classOf lns c → freeOf lns (l.take i) c = false) := by
     intro h
     rw [Bool.eq_false_iff]
     intro h2
     have := freeOf_iff.1 h2 l[k] (by rw [List.mem_take_iff_getElem]; exact ⟨k, by omega, rfl⟩)
     exact h this
    have i1 : (0 : Int) ≤ (k : Int) := by omega
    have i2 : (k : Int) < (n : Int) := by omega
    have HTR := hide (HT.out.below HBW.out)
    generalize l[k] = y at *
    obtain ⟨kc, hkc⟩ : ∃ kc, Tm.classOf lns c = kc := ⟨_, rfl⟩
    rw [hkc] at HST HIN
    rw [hkc]
    have HKC := hide hkc
    clear hkc
    go_upto_region 5 with fail
    go_cut [27] from 15 to 27 (fun t wx => t = .bool (decide (kc ≤ Tm.classOf lns y)) ∧ Below wr.heap.size wr wx)
    case first =>
     go_region_with (go_at_call 88; refine (Class_any _ st sh y lns _ (by exact HTR.out.below (Below.refl _ _).drew) HF.out hl).mono ?_; rintro e w2 ⟨rfl, hbp⟩)
     all_goals (go_wp2_with fail; go_meet; exact ⟨rfl, ((Below.refl _ _).drew).trans hbp⟩)
    case rest =>
     obtain ⟨rfl, hbc⟩ := hcut
     have HBR : Hid (Below W.heap.size W wc) := HB.out.trans (hbc.mono (by omega))
     have HBF : Hid (Below w.heap.size w wc) := HBW.out.trans (hbc.mono (by omega))
     clear hbc k0 k1 k2 ck
     by_cases hle : kc ≤ Tm.classOf lns y
     ·rw [decide_eq_true hle]
      have HF2 := hide (HIN.out (by omega))
      clear hle
      go_wp2
      go_ret
      exact ⟨ret_bool HF2.out.symm, HBF.out⟩
     ·rw [decide_eq_false hle]
      have HN2 : Hid (freeOf lns (l.take (k + 1)) c = true) := by unfold Hid; rw [HST.out, HFR.out, decide_eq_true (by omega)]; rfl
      clear hle
      go_wp2
      go_roundw
      case rel => exact ⟨k + 1, by omega, by go_num, HN2.out, HBR.out⟩
      case measure => simp [intOf]; omega
   ·have hki : k = i := by omega
    have HFI : Hid (freeOf lns (l.take i) c = true) := by rw [← hki]; exact HFR.out
    clear k0 k1 k2
    go_wp2
    go_ret
    exact ⟨ret_bool HFI.out.symm, HBW.out⟩
namespace Tm
def gives (sh b : Bool) (e : El) (k : Nat) : Int :=
 if sh then (if b then (if k = 3 then e.p else 0) else (if k = 0 then e.p else if k = 1 then e.s else if k = 2 then e.t else if empty e then 0 else 65535))
 else (if k = 0 then e.p else if k = 1 then e.s else if k = 2 then e.t else 0)
theorem gives_eq {sh b : Bool} {e : El} {k : Nat} (hk : k < 4) : nz (gives sh b e k) = if sh then shiftW b e k else plainW e k := by
 rcases (show k = 0 ∨ k = 1 ∨ k = 2 ∨ k = 3 by omega) with rfl | rfl | rfl | rfl <;> cases sh <;> cases b <;> simp [gives, shiftW, plainW, nz] <;> (split <;> simp)
theorem level_gives {sh : Bool} {els : List El} {i k : Nat} (hi : i < els.length) (hk : k < 4) : level sh (els.take (i + 1)) k = level sh (els.take i) k ++ nz (gives sh (lastB false (els.take (i + 1))) els[i] k) := by
 rw [gives_eq hk, List.take_succ_eq_append_getElem hi, level_snoc, lastB_snoc]
def Sought (els : List El) (i j : Nat) (y : El) : Prop := (y.p ≠ 0 → lastB false (els.take (i + 1)) = y.v) ∧ (y.p = 0 → lastB false (els.take (i + 1)) = lastB false (els.take j))
theorem Sought.start {els : List El} {i : Nat} (hi : i < els.length) : Sought els i (i + 1) els[i] := by
 refine ⟨fun h => ?_, fun _ => rfl⟩
 rw [List.take_succ_eq_append_getElem hi, lastB_snoc]
 simp [behind, h]
theorem Sought.step {els : List El} {i j : Nat} {y : El} (h : Sought els i (j + 1) y) (h0 : y.p = 0) (hj : j < els.length) : Sought els i j els[j] := by
 have h1 := h.2 h0
 rw [List.take_succ_eq_append_getElem hj, lastB_snoc] at h1
 refine ⟨fun h => ?_, fun h => ?_⟩
 ·rw [h1]; simp [behind, h]
 ·rw [h1]; simp [behind, h]
theorem Sought.done {els : List El} {i j : Nat} {y : El} (h : Sought els i j y) (hv : y.v = true → y.p ≠ 0) (hd : y.p ≠ 0 ∨ j = 0) : y.v = lastB false (els.take (i + 1)) := by
 by_cases h0 : y.p = 0
 ·rcases hd with h1 | h1
  ·exact absurd h0 h1
  ·rw [h.2 h0, h1]
   cases hy : y.v
   ·rfl
   ·exact absurd h0 (hv hy)
 ·exact (h.1 h0).symm
end Tm
theorem four_of {P : Nat → Prop} {kk : Nat} (h : 1 ≤ kk ∧ kk ≤ 4) (h1 : P 1) (h2 : P 2) (h3 : P 3) (h4 : P 4) : P kk := by
 rcases (show kk = 1 ∨ kk = 2 ∨ kk = 3 ∨ kk = 4 by omega) with rfl | rfl | rfl | rfl <;> assumption
set_option maxRecDepth 100000 in
set_option maxHeartbeats 8000000 in
theorem Level_any (vl : Value) (st : Int) (sh : Bool) (ve : Value) (els : List Tm.El) (kk : Nat) (w : World) (he : Reads w ve 4 els.length (elsCells els)) (hk : 1 ≤ kk ∧ kk ≤ 4) (hl : els.length ≤ 800000) (hvar : ∀ x ∈ els, x.v = true → x.p ≠ 0) :
  Calls Tryz.prog 95 #[.agg #[vl, .int .i64 st, .bool sh], ve, .int .i64 kk] w fun e w' => ∃ v, e = .returned v ∧ Reads w' v 1 (Tm.level sh els (kk - 1)).length (ints (Tm.level sh els (kk - 1))) ∧ Below w.heap.size w w' := by
 obtain ⟨i0, hi, hz0, hz1, hz2⟩ := info_parts Tryz.infoInt
 obtain ⟨a, cap, rfl⟩ := he.shape
 have HE := hide he
 have HVAR := hide hvar
 obtain ⟨W, hW⟩ : ∃ W, w.alloc (.cells #[vl, .int .i64 st, .bool sh] 29) = W := ⟨_, rfl⟩
 have hb0 : Below w.heap.size w W := by rw [← hW]; exact (Below.refl _ _).alloc (Nat.le_refl _) _
 have hzW : W.heap.size = w.heap.size + 1 := by rw [← hW]; simp
 have k2 : W.cell? ⟨w.heap.size, 2, none⟩ = some (.bool sh) := by rw [← hW, cell_new rfl]; rfl
 have HB0 := hide hb0
 have HK2 := hide k2
 obtain ⟨n, hn⟩ : ∃ n, els.length = n := ⟨_, rfl⟩
 have HN := hide hn
 rw [hn] at hl HE
 rw [hn]
 obtain ⟨hk1, hk4⟩ := hk
 have i3 : (0 : Int) ≤ (kk : Int) := by omega
 have i4 : (kk : Int) < 5 := by omega
 clear he hb0 k2 hvar hn
 go_enter Tryz.func95, Tryz.ntmps95
 go_wp2_with fail
 go_loopw [7, 8] (fun vo q wr => ∃ i : Nat, i ≤ n ∧ q = .int .i64 i ∧ wr.ownsRow W.heap.size 3 1 vo (Tm.level sh (els.take i) (kk - 1)).length (ints (Tm.level sh (els.take i) (kk - 1))) ∧ Below W.heap.size W wr) (fun _ q _ => n - (intOf q).toNat)
 case atStart => exact ⟨0, Nat.zero_le _, rfl, World.ownsRow_nil _ _ _ _, Below.refl _ _⟩
 case round =>
  obtain ⟨i, hin, rfl, hown, hb⟩ := hrel
  have HO := hide hown
  have HB := hide hb
  have hzr := hb.size
  obtain ⟨ao, co, rfl⟩ := (Reads.of_owns hown).shape
  have HBW : Hid (Below w.heap.size w wr) := HB0.out.trans (hb.mono (by omega))
  have hlv : (Tm.level sh (els.take i) (kk - 1)).length ≤ 800000 := by
   have h1 : (Tm.level sh (els.take i) (kk - 1)).length ≤ (els.take i).length := Tm.lev_length sh (kk - 1) _ _
   have h2 : (els.take i).length ≤ n := by rw [List.length_take, HN.out]; omega
   omega
  clear hown hb
  by_cases hlt : i < n
  ·have hlt' : i < els.length := by rw [HN.out]; exact hlt
   have HER := hide (HE.out.below HBW.out HE.out.2.1)
   obtain ⟨g, off, rfl, hg, c0, c1, c2, c3⟩ := els_at (by rw [HN.out]; exact HER.out) hlt'
   have HLG := hide (Tm.level_gives (sh := sh) (k := kk - 1) hlt' (by omega))
   have HSO := hide (Tm.Sought.start hlt')
   have hvx := HVAR.out els[i] (List.getElem_mem hlt')
   have hmem : els[i] ∈ els := List.getElem_mem hlt'
   have HME := hide hmem
   obtain ⟨b, hbd⟩ : ∃ b, Tm.lastB false (els.take (i + 1)) = b := ⟨_, rfl⟩
   have HBD := hide hbd
   rw [hbd] at HLG
   obtain ⟨x, hx⟩ : ∃ x, els[i] = x := ⟨_, rfl⟩
   rw [hx] at c0 c1 c2 c3 HLG HSO HME hvx
   obtain ⟨p, s, t, v⟩ := x
   simp only at c0 c1 c2 c3 hvx
   have i1 : (0 : Int) ≤ (i : Int) := by omega
   have i2 : (i : Int) < (n : Int) := by omega
   have ksh : wr.cell? ⟨w.heap.size, 2, none⟩ = some (.bool sh) := by rw [HB.out.cell (p := ⟨w.heap.size, 2, none⟩) (by simp only; omega)]; exact HK2.out
   have hwlt : w.heap.size < wr.heap.size := by omega
   obtain ⟨L, hL⟩ : ∃ L, Tm.level sh (els.take i) (kk - 1) = L := ⟨_, rfl⟩
   rw [hL] at HO hlv HLG ⊢
   clear hbd hx hmem hL
   obtain ⟨V0, hV0⟩ : ∃ V0, (wr.alloc (.cells #[.int .i64 p, .int .i64 s, .int .i64 t, .bool v] 102)).alloc (.cells #[.int .i64 0, .int .i64 p, .int .i64 s, .int .i64 t, .int .i64 0] 3) = V0 := ⟨_, rfl⟩
   have kshV : V0.cell? ⟨w.heap.size, 2, none⟩ = some (.bool sh) := by rw [← hV0, cell_old (by simp <;> omega), cell_old hwlt]; exact ksh
   have HV0 := hide hV0
   clear hV0
   go_upto_region 7 with fail
   rw [HV0.out]
   go_upto_if 32 with fail
   go_cut [10, 11, 12] from 30 to 69 (fun y y1 y2 wx => ∃ bw, y = .slice (some ⟨bw, 0, none⟩) 5 5 ∧ bw < wx.heap.size ∧ wx.cell? ⟨bw, kk, none⟩ = some (.int .i64 (Tm.gives sh b ⟨p, s, t, v⟩ (kk - 1))) ∧ Below wr.heap.size wr wx)
   case first =>
    rw [← HV0.out]
    cases sh
    ·go_wp2
     go_meet
     refine ⟨wr.heap.size + 1, rfl, by simp, ?_, ((Below.refl _ _).alloc (Nat.le_refl _) _).alloc (by simp) _⟩
     rw [cell_new (by simp)]
     exact four_of (P := fun kk => (#[Value.int .i64 0, .int .i64 p, .int .i64 s, .int .i64 t, .int .i64 0] : Array Value)[kk]? = some (.int .i64 (Tm.gives false b ⟨p, s, t, v⟩ (kk - 1)))) ⟨hk1, hk4⟩ rfl rfl rfl rfl
    ·go_upto_region 9 with fail
     obtain ⟨V1, hV1⟩ : ∃ V1, (wr.alloc (.cells #[.int .i64 p, .int .i64 s, .int .i64 t, .bool v] 102)).alloc (.cells #[.int .i64 0, .int .i64 p, .int .i64 s, .int .i64 t, .int .i64 65535] 3) = V1 := ⟨_, rfl⟩
     have HV1 := hide hV1
     rw [hV1]
     have m0 : V1.cell? ⟨wr.heap.size, 0, none⟩ = some (.int .i64 p) := by rw [← hV1, cell_old (by simp), cell_new rfl]; rfl
     have m1 : V1.cell? ⟨wr.heap.size, 1, none⟩ = some (.int .i64 s) := by rw [← hV1, cell_old (by simp), cell_new rfl]; rfl
     have m2 : V1.cell? ⟨wr.heap.size, 2, none⟩ = some (.int .i64 t) := by rw [← hV1, cell_old (by simp), cell_new rfl]; rfl
     clear hV1
     go_cut [47] from 30 to 69 (fun y wx => y = .bool (Tm.empty ⟨p, s, t, v⟩) ∧ V1 = wx)
     case first =>
      go_wp2
      all_goals go_meet
      all_goals refine ⟨?_, rfl⟩
      all_goals simp [Tm.empty, *]
     case rest =>
      obtain ⟨rfl, rfl⟩ := hcut
      rw [← HV1.out]
      clear m0 m1 m2
      cases hem : Tm.empty ⟨p, s, t, v⟩
      ·skip
       obtain ⟨V2, hV2⟩ : ∃ V2, ((wr.alloc (.cells #[.int .i64 p, .int .i64 s, .int .i64 t, .bool v] 102)).alloc (.cells #[.int .i64 0, .int .i64 p, .int .i64 s, .int .i64 t, .int .i64 65535] 3)).alloc (.cells #[.int .i64 p, .int .i64 s, .int .i64 t, .bool v] 102) = V2 := ⟨_, rfl⟩
       have hzV2 : V2.heap.size = wr.heap.size + 3 := by rw [← hV2]; simp
       have hbV2 : Below wr.heap.size wr V2 := by rw [← hV2]; exact (((Below.refl _ _).alloc (Nat.le_refl _) _).alloc (by simp) _).alloc (by simp <;> omega) _
       have l0 : V2.cell? ⟨wr.heap.size + 1 + 1, 0, none⟩ = some (.int .i64 p) := by rw [← hV2, cell_new (by simp)]; rfl
       have l1 : V2.cell? ⟨wr.heap.size + 1 + 1, 1, none⟩ = some (.int .i64 s) := by rw [← hV2, cell_new (by simp)]; rfl
       have l2 : V2.cell? ⟨wr.heap.size + 1 + 1, 2, none⟩ = some (.int .i64 t) := by rw [← hV2, cell_new (by simp)]; rfl
       have l3 : V2.cell? ⟨wr.heap.size + 1 + 1, 3, none⟩ = some (.bool v) := by rw [← hV2, cell_new (by simp)]; rfl
       have lf : ∀ o, V2.frozen? ⟨wr.heap.size + 1 + 1, o, none⟩ = false := fun o => by rw [← hV2, frozen_new (by simp)]
       have HLL := hide (And.intro l0 (And.intro l1 (And.intro l2 (And.intro l3 lf))))
       have HBV2 := hide hbV2
       have HV2 := hide hV2
       clear hbV2 hV2 l0 l1 l2 l3 lf c0 c1 c2 c3 ksh kshV
       go_wp2_with fail
       rw [HV2.out]
       obtain ⟨wo, rfl⟩ : ∃ wo : World, wo = wr := ⟨_, rfl⟩
       go_loopw [12] (fun q wi => ∃ (j : Nat) (y : Tm.El), q = .int .i64 ((j : Int) - 1) ∧ j ≤ i + 1 ∧ y ∈ els ∧ Tm.Sought els i j y ∧ wi.cell? ⟨wo.heap.size + 1 + 1, 0, none⟩ = some (.int .i64 y.p) ∧ wi.cell? ⟨wo.heap.size + 1 + 1, 1, none⟩ = some (.int .i64 y.s) ∧ wi.cell? ⟨wo.heap.size + 1 + 1, 2, none⟩ = some (.int .i64 y.t) ∧ wi.cell? ⟨wo.heap.size + 1 + 1, 3, none⟩ = some (.bool y.v) ∧ (∀ o, wi.frozen? ⟨wo.heap.size + 1 + 1, o, none⟩ = false) ∧ Sole V2.heap.size (wo.heap.size + 1 + 1) V2 wi ∧ wi.heap.size = V2.heap.size) (fun q _ => ((intOf q) + 1).toNat)
       case atStart => exact ⟨i + 1, ⟨p, s, t, v⟩, by congr 1; omega, Nat.le_refl _, HME.out, HSO.out, HLL.out.1, HLL.out.2.1, HLL.out.2.2.1, HLL.out.2.2.2.1, HLL.out.2.2.2.2, Sole.refl _ _ _, rfl⟩
       case round =>
        obtain ⟨j, y, rfl, hj, hym, hso, y0, y1, y2, y3, yf, hsole, hsz⟩ := hrel
        have hyvar := HVAR.out y hym
        obtain ⟨yp, ys, yt, yv⟩ := y
        simp only at y0 y1 y2 y3 hyvar
        have hbl : wo.heap.size + 1 + 1 < wr.heap.size := by omega
        cases j with
        | zero =>
         have ej : ((0 : Nat) : Int) - 1 = -1 := rfl
         rw [ej]
         have hyv : yv = b := (hso.done hyvar (.inr rfl)).trans HBD.out
         subst hyv
         have HBI : Hid (Below wo.heap.size wo wr) := HBV2.out.trans (hsole.below (by omega) (by omega))
         cases yv
         ·have HCW : Hid (wr.cell? ⟨wo.heap.size + 1, kk, none⟩ = some (.int .i64 (Tm.gives true false ⟨p, s, t, v⟩ (kk - 1)))) := by
           unfold Hid
           rw [hsole.cell (p := ⟨wo.heap.size + 1, kk, none⟩) (by simp only; omega) (by simp only; omega), ← HV2.out, cell_old (by simp), cell_new (by simp)]
           exact four_of (P := fun kk => (#[Value.int .i64 0, .int .i64 p, .int .i64 s, .int .i64 t, .int .i64 65535] : Array Value)[kk]? = some (.int .i64 (Tm.gives true false ⟨p, s, t, v⟩ (kk - 1)))) ⟨hk1, hk4⟩ rfl rfl rfl (by simp [Tm.gives, hem])
          go_wp2
          go_meet
          exact ⟨wo.heap.size + 1, rfl, by omega, HCW.out, HBI.out⟩
         ·have cpx : wr.cell? ⟨wo.heap.size, 0, none⟩ = some (.int .i64 p) := by
           rw [hsole.cell (p := ⟨wo.heap.size, 0, none⟩) (by simp only; omega) (by simp only; omega), ← HV2.out, cell_old (by simp <;> omega), cell_old (by simp), cell_new rfl]; rfl
          go_wp2
          go_meet
          refine ⟨_, rfl, by simp <;> omega, ?_, HBI.out.alloc (by omega) _⟩
          rw [cell_new (by omega)]
          exact four_of (P := fun kk => (#[Value.int .i64 0, .int .i64 0, .int .i64 0, .int .i64 0, .int .i64 p] : Array Value)[kk]? = some (.int .i64 (Tm.gives true true ⟨p, s, t, v⟩ (kk - 1)))) ⟨hk1, hk4⟩ rfl rfl rfl rfl
        | succ j =>
         have ej : ((j + 1 : Nat) : Int) - 1 = (j : Int) := by omega
         rw [ej]
         cases hy0 : (yp == 0)
         ·have hyp : yp ≠ 0 := by simpa using hy0
          have hyv : yv = b := (hso.done hyvar (.inl hyp)).trans HBD.out
          subst hyv
          have HBI : Hid (Below wo.heap.size wo wr) := HBV2.out.trans (hsole.below (by omega) (by omega))
          cases yv
          ·have HCW : Hid (wr.cell? ⟨wo.heap.size + 1, kk, none⟩ = some (.int .i64 (Tm.gives true false ⟨p, s, t, v⟩ (kk - 1)))) := by
            unfold Hid
            rw [hsole.cell (p := ⟨wo.heap.size + 1, kk, none⟩) (by simp only; omega) (by simp only; omega), ← HV2.out, cell_old (by simp), cell_new (by simp)]
            exact four_of (P := fun kk => (#[Value.int .i64 0, .int .i64 p, .int .i64 s, .int .i64 t, .int .i64 65535] : Array Value)[kk]? = some (.int .i64 (Tm.gives true false ⟨p, s, t, v⟩ (kk - 1)))) ⟨hk1, hk4⟩ rfl rfl rfl (by simp [Tm.gives, hem])
           go_wp2
           go_meet
           exact ⟨wo.heap.size + 1, rfl, by omega, HCW.out, HBI.out⟩
          ·have cpx : wr.cell? ⟨wo.heap.size, 0, none⟩ = some (.int .i64 p) := by
            rw [hsole.cell (p := ⟨wo.heap.size, 0, none⟩) (by simp only; omega) (by simp only; omega), ← HV2.out, cell_old (by simp <;> omega), cell_old (by simp), cell_new rfl]; rfl
           go_wp2
           go_meet
           refine ⟨_, rfl, by simp <;> omega, ?_, HBI.out.alloc (by omega) _⟩
           rw [cell_new (by omega)]
           exact four_of (P := fun kk => (#[Value.int .i64 0, .int .i64 0, .int .i64 0, .int .i64 0, .int .i64 p] : Array Value)[kk]? = some (.int .i64 (Tm.gives true true ⟨p, s, t, v⟩ (kk - 1)))) ⟨hk1, hk4⟩ rfl rfl rfl rfl
         ·have hyp : yp = 0 := by simpa using hy0
          have hjl : j < els.length := by rw [HN.out]; omega
          have HBI : Hid (Below wo.heap.size wo wr) := HBV2.out.trans (hsole.below (by omega) (by omega))
          obtain ⟨g', off', hga, hg', d0, d1, d2, d3⟩ := els_at (by rw [HN.out]; exact HER.out.below HBI.out HER.out.2.1) hjl
          cases hga
          have HS2 := hide (hso.step hyp hjl)
          have HM2 : Hid (els[j] ∈ els) := List.getElem_mem hjl
          generalize els[j] = z at *
          obtain ⟨zp, zs, zt, zv⟩ := z
          simp only at d0 d1 d2 d3
          have j1 : (0 : Int) ≤ (j : Int) := by omega
          have j2 : (j : Int) < (n : Int) := by omega
          have f0 := yf 0
          have f1 := yf 1
          have f2 := yf 2
          have f3 := yf 3
          have HPC := hide (put4c_cell (v0 := .int .i64 zp) (v1 := .int .i64 zs) (v2 := .int .i64 zt) (v3 := .bool zv) y0 y1 y2 y3)
          have HPS := hide (put4c_size wr (wo.heap.size + 1 + 1) (.int .i64 zp) (.int .i64 zs) (.int .i64 zt) (.bool zv))
          have HPO : Hid (Sole V2.heap.size (wo.heap.size + 1 + 1) V2 (put4c wr (wo.heap.size + 1 + 1) (.int .i64 zp) (.int .i64 zs) (.int .i64 zt) (.bool zv))) := hsole.trans ⟨rfl, rfl, rfl, by rw [put4c_size]; omega, fun k _ hk => put4c_other hk⟩
          have HPF : Hid (∀ o, (put4c wr (wo.heap.size + 1 + 1) (.int .i64 zp) (.int .i64 zs) (.int .i64 zt) (.bool zv)).frozen? ⟨wo.heap.size + 1 + 1, o, none⟩ = false) := fun o => by unfold put4c; rw [World.frozen?_setCell, World.frozen?_setCell, World.frozen?_setCell, World.frozen?_setCell]; exact yf o
          unfold put4c at HPC HPS HPO HPF
          clear yf
          go_wp2
          go_roundw
          case rel => exact ⟨j, ⟨zp, zs, zt, zv⟩, by go_num, by omega, HM2.out, HS2.out, HPC.out.1, HPC.out.2.1, HPC.out.2.2.1, HPC.out.2.2.2, HPF.out, HPO.out, by rw [HPS.out]; exact hsz⟩
          case measure => simp [intOf] <;> omega
      ·skip
       obtain ⟨V2, hV2⟩ : ∃ V2, ((wr.alloc (.cells #[.int .i64 p, .int .i64 s, .int .i64 t, .bool v] 102)).alloc (.cells #[.int .i64 0, .int .i64 p, .int .i64 s, .int .i64 t, .int .i64 0] 3)).alloc (.cells #[.int .i64 p, .int .i64 s, .int .i64 t, .bool v] 102) = V2 := ⟨_, rfl⟩
       have hzV2 : V2.heap.size = wr.heap.size + 3 := by rw [← hV2]; simp
       have hbV2 : Below wr.heap.size wr V2 := by rw [← hV2]; exact (((Below.refl _ _).alloc (Nat.le_refl _) _).alloc (by simp) _).alloc (by simp <;> omega) _
       have l0 : V2.cell? ⟨wr.heap.size + 1 + 1, 0, none⟩ = some (.int .i64 p) := by rw [← hV2, cell_new (by simp)]; rfl
       have l1 : V2.cell? ⟨wr.heap.size + 1 + 1, 1, none⟩ = some (.int .i64 s) := by rw [← hV2, cell_new (by simp)]; rfl
       have l2 : V2.cell? ⟨wr.heap.size + 1 + 1, 2, none⟩ = some (.int .i64 t) := by rw [← hV2, cell_new (by simp)]; rfl
       have l3 : V2.cell? ⟨wr.heap.size + 1 + 1, 3, none⟩ = some (.bool v) := by rw [← hV2, cell_new (by simp)]; rfl
       have lf : ∀ o, V2.frozen? ⟨wr.heap.size + 1 + 1, o, none⟩ = false := fun o => by rw [← hV2, frozen_new (by simp)]
       have HLL := hide (And.intro l0 (And.intro l1 (And.intro l2 (And.intro l3 lf))))
       have HBV2 := hide hbV2
       have HV2 := hide hV2
       clear hbV2 hV2 l0 l1 l2 l3 lf c0 c1 c2 c3 ksh kshV
       go_wp2_with fail
       rw [HV2.out]
       obtain ⟨wo, rfl⟩ : ∃ wo : World, wo = wr := ⟨_, rfl⟩
       go_loopw [12] (fun q wi => ∃ (j : Nat) (y : Tm.El), q = .int .i64 ((j : Int) - 1) ∧ j ≤ i + 1 ∧ y ∈ els ∧ Tm.Sought els i j y ∧ wi.cell? ⟨wo.heap.size + 1 + 1, 0, none⟩ = some (.int .i64 y.p) ∧ wi.cell? ⟨wo.heap.size + 1 + 1, 1, none⟩ = some (.int .i64 y.s) ∧ wi.cell? ⟨wo.heap.size + 1 + 1, 2, none⟩ = some (.int .i64 y.t) ∧ wi.cell? ⟨wo.heap.size + 1 + 1, 3, none⟩ = some (.bool y.v) ∧ (∀ o, wi.frozen? ⟨wo.heap.size + 1 + 1, o, none⟩ = false) ∧ Sole V2.heap.size (wo.heap.size + 1 + 1) V2 wi ∧ wi.heap.size = V2.heap.size) (fun q _ => ((intOf q) + 1).toNat)
       case atStart => exact ⟨i + 1, ⟨p, s, t, v⟩, by congr 1; omega, Nat.le_refl _, HME.out, HSO.out, HLL.out.1, HLL.out.2.1, HLL.out.2.2.1, HLL.out.2.2.2.1, HLL.out.2.2.2.2, Sole.refl _ _ _, rfl⟩
       case round =>
        obtain ⟨j, y, rfl, hj, hym, hso, y0, y1, y2, y3, yf, hsole, hsz⟩ := hrel
        have hyvar := HVAR.out y hym
        obtain ⟨yp, ys, yt, yv⟩ := y
        simp only at y0 y1 y2 y3 hyvar
        have hbl : wo.heap.size + 1 + 1 < wr.heap.size := by omega
        cases j with
        | zero =>
         have ej : ((0 : Nat) : Int) - 1 = -1 := rfl
         rw [ej]
         have hyv : yv = b := (hso.done hyvar (.inr rfl)).trans HBD.out
         subst hyv
         have HBI : Hid (Below wo.heap.size wo wr) := HBV2.out.trans (hsole.below (by omega) (by omega))
         cases yv
         ·have HCW : Hid (wr.cell? ⟨wo.heap.size + 1, kk, none⟩ = some (.int .i64 (Tm.gives true false ⟨p, s, t, v⟩ (kk - 1)))) := by
           unfold Hid
           rw [hsole.cell (p := ⟨wo.heap.size + 1, kk, none⟩) (by simp only; omega) (by simp only; omega), ← HV2.out, cell_old (by simp), cell_new (by simp)]
           exact four_of (P := fun kk => (#[Value.int .i64 0, .int .i64 p, .int .i64 s, .int .i64 t, .int .i64 0] : Array Value)[kk]? = some (.int .i64 (Tm.gives true false ⟨p, s, t, v⟩ (kk - 1)))) ⟨hk1, hk4⟩ rfl rfl rfl (by simp [Tm.gives, hem])
          go_wp2
          go_meet
          exact ⟨wo.heap.size + 1, rfl, by omega, HCW.out, HBI.out⟩
         ·have cpx : wr.cell? ⟨wo.heap.size, 0, none⟩ = some (.int .i64 p) := by
           rw [hsole.cell (p := ⟨wo.heap.size, 0, none⟩) (by simp only; omega) (by simp only; omega), ← HV2.out, cell_old (by simp <;> omega), cell_old (by simp), cell_new rfl]; rfl
          go_wp2
          go_meet
          refine ⟨_, rfl, by simp <;> omega, ?_, HBI.out.alloc (by omega) _⟩
          rw [cell_new (by omega)]
          exact four_of (P := fun kk => (#[Value.int .i64 0, .int .i64 0, .int .i64 0, .int .i64 0, .int .i64 p] : Array Value)[kk]? = some (.int .i64 (Tm.gives true true ⟨p, s, t, v⟩ (kk - 1)))) ⟨hk1, hk4⟩ rfl rfl rfl rfl
        | succ j =>
         have ej : ((j + 1 : Nat) : Int) - 1 = (j : Int) := by omega
         rw [ej]
         cases hy0 : (yp == 0)
         ·have hyp : yp ≠ 0 := by simpa using hy0
          have hyv : yv = b := (hso.done hyvar (.inl hyp)).trans HBD.out
          subst hyv
          have HBI : Hid (Below wo.heap.size wo wr) := HBV2.out.trans (hsole.below (by omega) (by omega))
          cases yv
          ·have HCW : Hid (wr.cell? ⟨wo.heap.size + 1, kk, none⟩ = some (.int .i64 (Tm.gives true false ⟨p, s, t, v⟩ (kk - 1)))) := by
            unfold Hid
            rw [hsole.cell (p := ⟨wo.heap.size + 1, kk, none⟩) (by simp only; omega) (by simp only; omega), ← HV2.out, cell_old (by simp), cell_new (by simp)]
            exact four_of (P := fun kk => (#[Value.int .i64 0, .int .i64 p, .int .i64 s, .int .i64 t, .int .i64 0] : Array Value)[kk]? = some (.int .i64 (Tm.gives true false ⟨p, s, t, v⟩ (kk - 1)))) ⟨hk1, hk4⟩ rfl rfl rfl (by simp [Tm.gives, hem])
           go_wp2
           go_meet
           exact ⟨wo.heap.size + 1, rfl, by omega, HCW.out, HBI.out⟩
          ·have cpx : wr.cell? ⟨wo.heap.size, 0, none⟩ = some (.int .i64 p) := by
            rw [hsole.cell (p := ⟨wo.heap.size, 0, none⟩) (by simp only; omega) (by simp only; omega), ← HV2.out, cell_old (by simp <;> omega), cell_old (by simp), cell_new rfl]; rfl
           go_wp2
           go_meet
           refine ⟨_, rfl, by simp <;> omega, ?_, HBI.out.alloc (by omega) _⟩
           rw [cell_new (by omega)]
           exact four_of (P := fun kk => (#[Value.int .i64 0, .int .i64 0, .int .i64 0, .int .i64 0, .int .i64 p] : Array Value)[kk]? = some (.int .i64 (Tm.gives true true ⟨p, s, t, v⟩ (kk - 1)))) ⟨hk1, hk4⟩ rfl rfl rfl rfl
         ·have hyp : yp = 0 := by simpa using hy0
          have hjl : j < els.length := by rw [HN.out]; omega
          have HBI : Hid (Below wo.heap.size wo wr) := HBV2.out.trans (hsole.below (by omega) (by omega))
          obtain ⟨g', off', hga, hg', d0, d1, d2, d3⟩ := els_at (by rw [HN.out]; exact HER.out.below HBI.out HER.out.2.1) hjl
          cases hga
          have HS2 := hide (hso.step hyp hjl)
          have HM2 : Hid (els[j] ∈ els) := List.getElem_mem hjl
          generalize els[j] = z at *
          obtain ⟨zp, zs, zt, zv⟩ := z
          simp only at d0 d1 d2 d3
          have j1 : (0 : Int) ≤ (j : Int) := by omega
          have j2 : (j : Int) < (n : Int) := by omega
          have f0 := yf 0
          have f1 := yf 1
          have f2 := yf 2
          have f3 := yf 3
          have HPC := hide (put4c_cell (v0 := .int .i64 zp) (v1 := .int .i64 zs) (v2 := .int .i64 zt) (v3 := .bool zv) y0 y1 y2 y3)
          have HPS := hide (put4c_size wr (wo.heap.size + 1 + 1) (.int .i64 zp) (.int .i64 zs) (.int .i64 zt) (.bool zv))
          have HPO : Hid (Sole V2.heap.size (wo.heap.size + 1 + 1) V2 (put4c wr (wo.heap.size + 1 + 1) (.int .i64 zp) (.int .i64 zs) (.int .i64 zt) (.bool zv))) := hsole.trans ⟨rfl, rfl, rfl, by rw [put4c_size]; omega, fun k _ hk => put4c_other hk⟩
          have HPF : Hid (∀ o, (put4c wr (wo.heap.size + 1 + 1) (.int .i64 zp) (.int .i64 zs) (.int .i64 zt) (.bool zv)).frozen? ⟨wo.heap.size + 1 + 1, o, none⟩ = false) := fun o => by unfold put4c; rw [World.frozen?_setCell, World.frozen?_setCell, World.frozen?_setCell, World.frozen?_setCell]; exact yf o
          unfold put4c at HPC HPS HPO HPF
          clear yf
          go_wp2
          go_roundw
          case rel => exact ⟨j, ⟨zp, zs, zt, zv⟩, by go_num, by omega, HM2.out, HS2.out, HPC.out.1, HPC.out.2.1, HPC.out.2.2.1, HPC.out.2.2.2, HPF.out, HPO.out, by rw [HPS.out]; exact hsz⟩
          case measure => simp [intOf] <;> omega
   case rest =>
    obtain ⟨bw, rfl, hbw, cv, hbc⟩ := hcut
    have HBC := hide hbc
    have hzc := hbc.size
    have HOC := hide (owns_below HO.out hbc)
    have HBF : Hid (Below W.heap.size W wc) := HB.out.trans (hbc.mono hzr)
    generalize Tm.gives sh b ⟨p, s, t, v⟩ (kk - 1) = gv at *
    clear hbc c0 c1 c2 c3 ksh
    cases hgv : (gv != 0)
    ·have HL2 : Hid (Tm.level sh (els.take (i + 1)) (kk - 1) = L) := by unfold Hid; rw [HLG.out]; simp at hgv; simp [Tm.nz, hgv]
     have HO2 : Hid (wc.ownsRow W.heap.size 3 1 (.slice ao L.length co) (Tm.level sh (els.take (i + 1)) (kk - 1)).length (ints (Tm.level sh (els.take (i + 1)) (kk - 1)))) := by unfold Hid; rw [HL2.out]; exact HOC.out
     go_wp2
     go_roundw
     case rel => exact ⟨i + 1, by omega, by go_num, HO2.out, HBF.out⟩
     case measure => simp [intOf]; omega
    ·have HL2 : Hid (Tm.level sh (els.take (i + 1)) (kk - 1) = L ++ [gv]) := by unfold Hid; rw [HLG.out]; simp at hgv; simp [Tm.nz, hgv]
     go_wp2_with (at_builtin; go_must (refine wpList_append_own_at _ rfl _ _ 83 rfl W.heap.size 3 i0 (.int .i64 0) 1 8 Tryz.underlying83 hi hz0 hz1 hz2 rfl (by decide) _ _ _ rfl (HOC.out.alloc _) ⟨wc.heap.size, 0, none⟩ 1 1 [.int .i64 gv] rfl rfl news_one (by intro u hu; simp at hu; subst hu; rfl) (by unfold maxLen; omega) (by omega) (by simp; omega) ?_))
     intro v8 w8 hown8 hgr8 _ _
     have HO2 : Hid (w8.ownsRow W.heap.size 3 1 v8 (Tm.level sh (els.take (i + 1)) (kk - 1)).length (ints (Tm.level sh (els.take (i + 1)) (kk - 1)))) := by
      unfold Hid; rw [HL2.out, ints_snoc, List.length_append, hzW]; exact hown8
     have HB8 : Hid (Below W.heap.size W w8) := (HBF.out.alloc (by omega) _).grown hgr8 (by simp; omega) (fun j hj => (HOC.out.lt j hj).1)
     obtain ⟨a8, c8, rfl⟩ := (Reads.of_owns hown8).shape
     clear hown8 hgr8
     go_wp2
     go_roundw
     case rel => exact ⟨i + 1, by omega, by go_num, HO2.out, HB8.out⟩
     case measure => simp [intOf]; omega
  ·have HF : Hid (Reads wr (.slice ao (Tm.level sh (els.take i) (kk - 1)).length co) 1 (Tm.level sh els (kk - 1)).length (ints (Tm.level sh els (kk - 1)))) := by
    have h := Reads.of_owns HO.out
    have e : els.take i = els := List.take_of_length_le (by rw [HN.out]; omega)
    unfold Hid
    rw [e] at h ⊢
    exact h
   go_wp2
   go_ret
   exact ⟨_, rfl, HF.out, HBW.out⟩
structure RelsSt (lns : List Tm.Ln) (B : Nat) (l : List Int) (w : World) (vs ve : Value) (ds : List Tm.El) (l' : List Int) : Prop where
 same : Tm.elements lns l = ds ++ Tm.elements lns l'
 own : w.ownsRow B 102 4 ve ds.length (elsCells ds)
 rest : Reads w vs 1 l'.length (ints l')
 rr : ∀ x ∈ l', 0 ≤ x ∧ x ≤ 1114111
 few : ds.length + 4 * l'.length ≤ 4 * l.length
theorem reads_cells {w : World} {g off n cap : Nat} {l : List Int} (h : Reads w (.slice (some ⟨g, off, none⟩) n cap) 1 l.length (ints l)) {j : Nat} {u : Value} (hu : (ints l)[j]? = some u) : w.cell? ((⟨g, off, none⟩ : Addr).add j) = some u := by
 rw [addr_add]
 obtain ⟨g', off', cap', he, _, hc⟩ := h.form (by have := (List.getElem?_eq_some_iff.1 hu).1; omega)
 cases he
 exact hc j u hu
theorem reads_take {w : World} {a : Option Addr} {n cap : Nat} {l : List Int} (h : Reads w (.slice a n cap) 1 l.length (ints l)) {k : Nat} {ad : Addr} (ha : a = some ad) {j : Nat} {u : Value} (hu : (ints (l.take k))[j]? = some u) : w.cell? (ad.add j) = some u := by
 subst ha
 have hu' : (ints l)[j]? = some u := by
  simp only [ints, List.getElem?_map, List.getElem?_take] at hu ⊢
  split at hu
  ·exact hu
  ·simp at hu
 obtain ⟨g, off, cap', he, _, hc⟩ := h.form (by have := (List.getElem?_eq_some_iff.1 hu').1; omega)
 cases he
 rw [addr_add]
 exact hc j u hu'
theorem reads_drop {w : World} {g off n cap : Nat} {l : List Int} (h : Reads w (.slice (some ⟨g, off, none⟩) n cap) 1 l.length (ints l)) {k : Nat} (hk : k ≤ l.length) :
  ∃ off', (if cap = k then some (⟨g, off, none⟩ : Addr) else some ⟨g, off + k, none⟩) = some ⟨g, off', none⟩ ∧ ∀ j u, (ints (l.drop k))[j]? = some u → w.cell? ((⟨g, off', none⟩ : Addr).add j) = some u := by
 have hf := h.fits
 by_cases e : cap = k
 ·refine ⟨off, by rw [if_pos e], fun j u hu => ?_⟩
  have := (List.getElem?_eq_some_iff.1 hu).1
  rw [ints_length, List.length_drop] at this
  omega
 ·refine ⟨off + k, by rw [if_neg e], fun j u hu => ?_⟩
  have hu' : (ints l)[k + j]? = some u := by
   simp only [ints, List.getElem?_map, List.getElem?_drop] at hu ⊢
   exact hu
  obtain ⟨g', o', cap', he, _, hc⟩ := h.form (by have := (List.getElem?_eq_some_iff.1 hu').1; omega)
  cases he
  rw [addr_add, Nat.add_assoc]
  exact hc (k + j) u hu'
structure InnSt (lns : List Tm.Ln) (B m : Nat) (sq0 rs0 : List Int) (w : World) (vq vr : Value) (sq ps rm : List Int) : Prop where
 same : Tm.grow lns sq0 [] rs0 = Tm.grow lns sq ps rm
 rq : Reads w vq 1 sq.length (ints sq)
 rr : Reads w vr 1 (ps ++ rm).length (ints (ps ++ rm))
 len : sq.length + (ps ++ rm).length = m
 pos : 0 < sq.length
 gq : ∀ x ∈ sq, 0 ≤ x ∧ x ≤ 1114111
 gr : ∀ x ∈ ps ++ rm, 0 ≤ x ∧ x ≤ 1114111
 far : ∀ g, vr.ownBlock = some g → B ≤ g
theorem InnSt.below {lns : List Tm.Ln} {B m : Nat} {sq0 rs0 : List Int} {w w' : World} {vq vr : Value} {sq ps rm : List Int} (h : InnSt lns B m sq0 rs0 w vq vr sq ps rm) (hb : Below w.heap.size w w') : InnSt lns B m sq0 rs0 w' vq vr sq ps rm :=
 ⟨h.same, h.rq.below hb h.rq.2.1, h.rr.below hb h.rr.2.1, h.len, h.pos, h.gq, h.gr, h.far⟩
def goOn (lns : List Tm.Ln) : List Int → Bool
 | [] => false
 | c :: _ => decide (Tm.classOf lns c ≠ 0)
theorem grow_done {lns : List Tm.Ln} {sq ps rm : List Int} (h : goOn lns rm = false) : Tm.grow lns sq ps rm = (sq, ps ++ rm) := by
 cases rm with
 | nil => simp [Tm.grow]
 | cons c r =>
  have : Tm.classOf lns c = 0 := by simpa [goOn] using h
  rw [Tm.grow, if_pos this]
theorem grow_took {lns : List Tm.Ln} {sq ps r : List Int} {c : Int} (hc : Tm.classOf lns c ≠ 0) (h1 : Tm.isS lns (sq ++ [c]) = true) (h2 : freeOf lns ps c = true) : Tm.grow lns sq ps (c :: r) = Tm.grow lns (sq ++ [c]) ps r := by
 rw [Tm.grow, if_neg hc, if_pos ⟨h1, freeOf_iff.1 h2⟩]
theorem grow_left' {lns : List Tm.Ln} {sq ps r : List Int} {c : Int} (hc : Tm.classOf lns c ≠ 0) (h : ¬ (Tm.isS lns (sq ++ [c]) = true ∧ freeOf lns ps c = true)) : Tm.grow lns sq ps (c :: r) = Tm.grow lns sq (ps ++ [c]) r := by
 rw [Tm.grow, if_neg hc, if_neg (fun h' => h ⟨h'.1, freeOf_iff.2 h'.2⟩)]
theorem ints_append (a b : List Int) : ints (a ++ b) = ints a ++ ints b := by simp [ints]
set_option maxRecDepth 100000 in
set_option maxHeartbeats 8000000 in
theorem RefElements_any (vl : Value) (st : Int) (sh : Bool) (vs : Value) (l : List Int) (lns : List Tm.Ln) (w : World) (ht : TableRd w vl lns) (hs : Reads w vs 1 l.length (ints l)) (hrg : ∀ r ∈ l, 0 ≤ r ∧ r ≤ 1114111) (hl : lns.length ≤ 1000000) (hl2 : l.length ≤ 100000) (hf : ∀ o ∈ lns, Tm.Fit o) :
  Calls Tryz.prog 41 #[.agg #[vl, .int .i64 st, .bool sh], vs] w fun e w' => ∃ v, e = .returned v ∧ Reads w' v 4 (Tm.elements lns l).length (elsCells (Tm.elements lns l)) ∧ Below w.heap.size w w' := by
 obtain ⟨i0, hi, hz0, hz1, hz2⟩ := info_parts Tryz.infoInt
 obtain ⟨i1, ki, kz0, kz1, kz2⟩ := info_parts Tryz.infoEl
 obtain ⟨a, cap, rfl⟩ := ht.shape
 obtain ⟨as0, caps, rfl⟩ := hs.shape
 have HT := hide ht
 have HF := hide hf
 have HF3 : Hid (∀ o ∈ lns, o.runes.length ≤ 1000000) := fun o ho => by have := (hf o ho).few; omega
 obtain ⟨W, hW⟩ : ∃ W, w.alloc (.cells #[.slice a lns.length cap, .int .i64 st, .bool sh] 29) = W := ⟨_, rfl⟩
 have hb0 : Below w.heap.size w W := by rw [← hW]; exact (Below.refl _ _).alloc (Nat.le_refl _) _
 have hzW : W.heap.size = w.heap.size + 1 := by rw [← hW]; simp
 have k0 : W.cell? ⟨w.heap.size, 0, none⟩ = some (.slice a lns.length cap) := by rw [← hW, cell_new rfl]; rfl
 have k1 : W.cell? ⟨w.heap.size, 1, none⟩ = some (.int .i64 st) := by rw [← hW, cell_new rfl]; rfl
 have k2 : W.cell? ⟨w.heap.size, 2, none⟩ = some (.bool sh) := by rw [← hW, cell_new rfl]; rfl
 have HB0 := hide hb0
 have HK := hide (And.intro k0 (And.intro k1 k2))
 have HST : Hid (RelsSt lns W.heap.size l W (.slice as0 l.length caps) (.slice none 0 0) [] l) := ⟨rfl, World.ownsRow_nil _ _ _ _, hs.below hb0 hs.2.1, hrg, by simp⟩
 clear ht hs hb0 k0 k1 k2 hrg hf
 go_enter Tryz.func41, Tryz.ntmps41
 go_wp2_with fail
 go_loopw [1, 5] (fun vs ve wr => ∃ ds l', RelsSt lns W.heap.size l wr vs ve ds l' ∧ Below W.heap.size W wr) (fun vs _ _ => slen vs)
 case atStart => exact ⟨[], l, HST.out, Below.refl _ _⟩
 case round =>
  obtain ⟨ds, l', hst, hb⟩ := hrel
  have HS := hide hst
  have HB := hide hb
  have hzr := hb.size
  have hfew := hst.few
  obtain ⟨al, cl, rfl⟩ := hst.rest.shape
  obtain ⟨ae, ce, rfl⟩ := (Reads.of_owns hst.own).shape
  have HBW : Hid (Below w.heap.size w wr) := HB0.out.trans (hb.mono (by omega))
  obtain ⟨m, hm⟩ : ∃ m, l'.length = m := ⟨_, rfl⟩
  have HM := hide hm
  rw [hm] at hfew
  rw [hm]
  clear hst hb hm
  by_cases h0 : 0 < m
  ·have hne : l' ≠ [] := fun h => by have := HM.out; rw [h] at this; simp at this; omega
   have HNE := hide hne
   have hrest := HS.out.rest
   rw [HM.out] at hrest
   obtain ⟨gl, ol, cl', he, hgl, _⟩ := hrest.form (by rw [ints_length, HM.out]; exact h0)
   cases he
   have hcl := hrest.fits
   have HRST : Hid (Reads wr (.slice (some ⟨gl, ol, none⟩) m cl) 1 l'.length (ints l')) := by unfold Hid; rw [HM.out]; exact hrest
   have k0 : wr.cell? ⟨w.heap.size, 0, none⟩ = some (.slice a lns.length cap) := by rw [HB.out.cell (p := ⟨w.heap.size, 0, none⟩) (by simp only; omega)]; exact HK.out.1
   have k1 : wr.cell? ⟨w.heap.size, 1, none⟩ = some (.int .i64 st) := by rw [HB.out.cell (p := ⟨w.heap.size, 1, none⟩) (by simp only; omega)]; exact HK.out.2.1
   have k2 : wr.cell? ⟨w.heap.size, 2, none⟩ = some (.bool sh) := by rw [HB.out.cell (p := ⟨w.heap.size, 2, none⟩) (by simp only; omega)]; exact HK.out.2.2
   have HTR := hide (HT.out.below HBW.out)
   have hcl2 : m ≤ cl := hcl.2.1
   have HCL := hide hcl.2.2
   clear hrest hne hcl
   go_upto_region 3 with fail
   go_cut [6] from 18 to 24 (fun t wx => t = .int .i64 (Tm.lead lns l') ∧ Below wr.heap.size wr wx)
   case first =>
    go_wp2_with fail
    refine (first_any _ st sh _ l' lns _ HTR.out HRST.out (by rw [HM.out]; exact h0) hl (by rw [HM.out]; omega) HF.out).mono ?_
    rintro e w2 ⟨rfl, hb2⟩
    have HMX := hide (firstOf_lead (lns := lns) (l := l'))
    generalize firstOf lns l' = fo at *
    go_wp2
    all_goals go_meet
    all_goals refine ⟨?_, hb2⟩
    all_goals first | rw [← HMX.out, show max 1 fo = fo by omega] | (rw [← HMX.out, show max 1 fo = 1 by omega]; rfl)
   case rest =>
    obtain ⟨rfl, hbc⟩ := hcut
    have hzc := hbc.size
    have hnp := Tm.lead_pos lns l'
    have hn3 := Tm.lead_three lns l'
    have hnm := Tm.lead_le (lns := lns) HNE.out
    rw [HM.out] at hnm
    have HSTEP := hide (Tm.elements_step (lns := lns) HNE.out)
    obtain ⟨n, hn⟩ : ∃ n, Tm.lead lns l' = n := ⟨_, rfl⟩
    rw [hn] at hnp hn3 hnm HSTEP
    rw [hn]
    have HRC := hide (HRST.out.below hbc HRST.out.2.1)
    have HBC := hide hbc
    obtain ⟨od, hod, hsd⟩ := reads_drop HRC.out (k := n) (by rw [HM.out]; exact hnm)
    have HSD := hide hsd
    have hlt : (l'.take n).length = n := by rw [List.length_take, HM.out]; omega
    have hld : (l'.drop n).length = m - n := by rw [List.length_drop, HM.out]
    have HLT := hide hlt
    have HLD := hide hld
    have q0 : wc.cell? ⟨w.heap.size, 0, none⟩ = some (.slice a lns.length cap) := by rw [hbc.cell (p := ⟨w.heap.size, 0, none⟩) (by simp only; omega)]; exact k0
    have q1 : wc.cell? ⟨w.heap.size, 1, none⟩ = some (.int .i64 st) := by rw [hbc.cell (p := ⟨w.heap.size, 1, none⟩) (by simp only; omega)]; exact k1
    have q2 : wc.cell? ⟨w.heap.size, 2, none⟩ = some (.bool sh) := by rw [hbc.cell (p := ⟨w.heap.size, 2, none⟩) (by simp only; omega)]; exact k2
    have HQ := hide (And.intro q0 (And.intro q1 q2))
    have j1 : (0 : Int) ≤ (n : Int) := by omega
    have j2 : (n : Int) ≤ (cl : Int) := by omega
    have j3 : (n : Int) ≤ (m : Int) := by omega
    have j4 : (m : Int) ≤ (cl : Int) := by omega
    clear hbc hn hsd hlt hld k0 k1 k2 q0 q1 q2
    have HL1 : Hid ((ints (l'.take n)).length = n * 1) := by unfold Hid; rw [ints_length, HLT.out, Nat.mul_one]
    have HL2 : Hid ((ints (l'.drop n)).length = (m - n) * 1) := by unfold Hid; rw [ints_length, HLD.out, Nat.mul_one]
    have HS1 : Hid (∀ j u, (ints (l'.take n))[j]? = some u → wc.cell? ((⟨gl, ol, none⟩ : Addr).add j) = some u) := fun j u hu => reads_take HRC.out rfl hu
    go_wp2_with (at_builtin; go_must (refine wpList_append_own_at _ rfl _ _ 83 rfl wc.heap.size 3 i0 (.int .i64 0) 1 8 Tryz.underlying83 hi hz0 hz1 hz2 rfl (by decide) _ _ _ rfl (World.ownsRow_nil _ _ _ _) ⟨gl, ol, none⟩ n cl (ints (l'.take n)) rfl HL1.out HS1.out (fun u hu => ints_one u hu) (by unfold maxLen; omega) (by omega) (Nat.le_refl _) ?_))
    intro v5 w5 hown5 hgr5 _ _
    have hb5 : Below wc.heap.size wc w5 := (Below.refl _ _).grown hgr5 (Nat.le_refl _) (fun k hk => by cases hk)
    have hz5 := hb5.size
    have HR5 : Hid (Reads w5 v5 1 (l'.take n).length (ints (l'.take n))) := by
     unfold Hid; rw [HLT.out]; exact Reads.of_owns hown5
    obtain ⟨a5, c5, rfl⟩ := HR5.out.shape
    have HB5 := hide hb5
    have HS2 : Hid (∀ j u, (ints (l'.drop n))[j]? = some u → w5.cell? ((⟨gl, od, none⟩ : Addr).add j) = some u) := fun j u hu => by
     have := HSD.out j u hu
     rw [addr_add] at this ⊢
     rw [hb5.cell (p := ⟨gl, od + j, none⟩) (by simp only; omega)]; exact this
    rw [HLT.out] at HR5 ⊢
    clear hown5 hgr5 hb5
    go_wp2_with (at_builtin; go_must (refine wpList_append_own_at _ rfl _ _ 83 rfl w5.heap.size 3 i0 (.int .i64 0) 1 8 Tryz.underlying83 hi hz0 hz1 hz2 rfl (by decide) _ _ _ rfl (World.ownsRow_nil _ _ _ _) ⟨gl, od, none⟩ (m - n) (cl - n) (ints (l'.drop n)) rfl HL2.out HS2.out (fun u hu => ints_one u hu) (by unfold maxLen; omega) (by omega) (Nat.le_refl _) ?_))
    intro v7 w7 hown7 hgr7 _ _
    have hb7 : Below w5.heap.size w5 w7 := (Below.refl _ _).grown hgr7 (Nat.le_refl _) (fun k hk => by cases hk)
    have hz7 := hb7.size
    have HR7 : Hid (Reads w7 v7 1 (l'.drop n).length (ints (l'.drop n))) := by
     unfold Hid; rw [HLD.out]; exact Reads.of_owns hown7
    have HB7 : Hid (Below wc.heap.size wc w7) := HB5.out.trans (hb7.mono hz5)
    have HIN : Hid (InnSt lns wc.heap.size m (l'.take n) (l'.drop n) w7 (.slice a5 n c5) v7 (l'.take n) [] (l'.drop n)) := by
     refine ⟨rfl, ?_, by simpa using HR7.out, by rw [List.nil_append, HLT.out, HLD.out]; omega, by rw [HLT.out]; omega, fun x hx => HS.out.rr x (List.mem_of_mem_take hx), fun x hx => HS.out.rr x (List.mem_of_mem_drop (by simpa using hx)), fun g hg => by have := (hown7.lt g hg).1; omega⟩
     have h := HR5.out
     rw [← HLT.out] at h
     have h2 := h.below hb7 h.2.1
     rw [HLT.out] at h2 ⊢
     exact h2
    clear hown7 hgr7 hb7 HR7
    obtain ⟨Wc, hWc⟩ : ∃ Wc : World, Wc = wc := ⟨_, rfl⟩
    rw [← hWc] at HB7 HBC HQ hzc hz5 HIN
    clear hWc
    go_wp2_with fail
    go_loopw [7, 8, 9] (fun vq vr i wr => ∃ sq ps rm, InnSt lns Wc.heap.size m (l'.take n) (l'.drop n) wr vq vr sq ps rm ∧ i = .int .i64 ps.length ∧ Below Wc.heap.size Wc wr) (fun _ vr i _ => slen vr - (intOf i).toNat)
    case atStart => exact ⟨_, [], _, HIN.out, rfl, HB7.out⟩
    case round =>
     obtain ⟨sq, ps, rm, hin, rfl, hbi⟩ := hrel
     have HI := hide hin
     have HBI := hide hbi
     have hzi := hbi.size
     obtain ⟨aq, cq, rfl⟩ := hin.rq.shape
     obtain ⟨ar, cr, rfl⟩ := hin.rr.shape
     have hlen := hin.len
     have hpos := hin.pos
     have t0 : wr.cell? ⟨w.heap.size, 0, none⟩ = some (.slice a lns.length cap) := by rw [hbi.cell (p := ⟨w.heap.size, 0, none⟩) (by simp only; omega)]; exact HQ.out.1
     have t1 : wr.cell? ⟨w.heap.size, 1, none⟩ = some (.int .i64 st) := by rw [hbi.cell (p := ⟨w.heap.size, 1, none⟩) (by simp only; omega)]; exact HQ.out.2.1
     have t2 : wr.cell? ⟨w.heap.size, 2, none⟩ = some (.bool sh) := by rw [hbi.cell (p := ⟨w.heap.size, 2, none⟩) (by simp only; omega)]; exact HQ.out.2.2
     obtain ⟨k, hk⟩ : ∃ k, ps.length = k := ⟨_, rfl⟩
     obtain ⟨x, hx⟩ : ∃ x, (ps ++ rm).length = x := ⟨_, rfl⟩
     obtain ⟨q, hq⟩ : ∃ q, sq.length = q := ⟨_, rfl⟩
     have hkx : x = k + rm.length := by rw [← hk, ← hx]; simp
     have HKX := hide hkx
     have HK2 := hide hk
     have HX := hide hx
     have HQQ := hide hq
     rw [hq] at hpos
     rw [hq, hx] at hlen
     rw [hk, hx, hq]
     have HLEN := hide hlen
     have hxm : x ≤ 200000 := by omega
     have hqm : q ≤ 200000 := by omega
     clear hin hbi hk hx hq hlen hkx
     go_upto_region 9 with fail
     go_cut [47] from 35 to 47 (fun t wx => t = .bool (goOn lns rm) ∧ Below wr.heap.size wr wx)
     case first =>
      cases rm with
      | nil =>
       have hkx : k = x := by have := HKX.out; simp at this; omega
       have hd : decide ((k : Int) < (x : Int)) = false := by simp; omega
       go_quiet (fail)
       go_wp2_with fail
       go_meet
       exact ⟨rfl, ⟨rfl, rfl, rfl, Nat.le_refl _, fun _ _ => rfl⟩⟩
      | cons c r =>
       have hkx : k < x := by have := HKX.out; simp at this; omega
       have j5 : (0 : Int) ≤ (k : Int) := by omega
       have j6 : (k : Int) < (x : Int) := by omega
       obtain ⟨gr, or, rfl, hgr, ck⟩ := HI.out.rr.at (k := k) (by rw [HX.out]; exact hkx)
       have hck : (ps ++ c :: r)[k]'(by rw [HX.out]; exact hkx) = c := by have := HK2.out; subst this; simp
       rw [hck] at ck
       have HTI := hide (HT.out.below (HBW.out.trans ((HBC.out.trans (HBI.out.mono hzc)).mono (by omega))))
       go_region_with (go_at_call 88; refine (Class_any _ st sh c lns _ (by exact HTI.out.below (Below.refl _ _).drew) HF.out hl).mono ?_; rintro e w2 ⟨rfl, hbp⟩)
       all_goals
        go_wp2_with fail
        go_meet
        refine ⟨?_, ((Below.refl _ _).drew).trans hbp⟩
        by_cases hc0 : Tm.classOf lns c = 0 <;> simp [goOn, hc0]
     case rest =>
      obtain ⟨rfl, hbc⟩ := hcut
      have hzc2 := hbc.size
      have HIC := hide (HI.out.below hbc)
      have HBIC : Hid (Below Wc.heap.size Wc wc) := HBI.out.trans (hbc.mono hzi)
      have t0 : wc.cell? ⟨w.heap.size, 0, none⟩ = some (.slice a lns.length cap) := by rw [hbc.cell (p := ⟨w.heap.size, 0, none⟩) (by simp only; omega)]; exact t0
      have t1 : wc.cell? ⟨w.heap.size, 1, none⟩ = some (.int .i64 st) := by rw [hbc.cell (p := ⟨w.heap.size, 1, none⟩) (by simp only; omega)]; exact t1
      have t2 : wc.cell? ⟨w.heap.size, 2, none⟩ = some (.bool sh) := by rw [hbc.cell (p := ⟨w.heap.size, 2, none⟩) (by simp only; omega)]; exact t2
      have HTC := hide (HT.out.below (HBW.out.trans ((HBC.out.trans (HBIC.out.mono hzc)).mono (by omega))))
      have HRQ : Hid (Reads wc (.slice aq q cq) 1 sq.length (ints sq)) := by have h := HIC.out.rq; rw [HQQ.out] at h ⊢; exact h
      have HRR : Hid (Reads wc (.slice ar x cr) 1 (ps ++ rm).length (ints (ps ++ rm))) := by have h := HIC.out.rr; rw [HX.out] at h ⊢; exact h
      clear hbc
      cases hgo : goOn lns rm
      ·-- the sequence is whole: its elements
       have HGR : Hid ((Tm.grow lns (l'.take n) [] (l'.drop n)) = (sq, ps ++ rm)) := HI.out.same.trans (grow_done hgo)
       rw [HGR.out] at HSTEP
       simp only at HSTEP
       clear hgo
       obtain ⟨gq, oq, rfl, hgq, cq0⟩ := HRQ.out.at (k := 0) (by rw [HQQ.out]; exact hpos)
       rw [Nat.add_zero] at cq0
       have hsq0 := HI.out.gq (sq[0]'(by rw [HQQ.out]; exact hpos)) (List.getElem_mem _)
       have hgd : sq.getD 0 0 = sq[0]'(by rw [HQQ.out]; exact hpos) := by rw [List.getD_eq_getElem?_getD, List.getElem?_eq_getElem (by rw [HQQ.out]; exact hpos)]; rfl
       have HGD := hide hgd
       obtain ⟨r0, hr0⟩ : ∃ r0, sq[0]'(by rw [HQQ.out]; exact hpos) = r0 := ⟨_, rfl⟩
       rw [hr0] at cq0 hsq0 HGD
       have hwf := weigh_few HF.out sq
       have i5 : (0 : Int) < (q : Int) := by omega
       obtain ⟨hr1, hr2⟩ := hsq0
       clear hr0 hgd
       obtain ⟨wl, hwl⟩ : ∃ wl, (Tm.weigh lns sq).length = wl := ⟨_, rfl⟩
       have HWL := hide hwl
       have HL7 : Hid ((elsCells (Tm.weigh lns sq)).length = wl * 4) := by unfold Hid; rw [elsCells_length, hwl]
       rw [hwl] at hwf
       clear hwl
       go_wp2_with fail
       refine (Sequence_any _ st sh _ sq lns _ HTC.out HRQ.out hl (by rw [HQQ.out]; omega) HF3.out).mono ?_
       rintro e w2 ⟨hans, hb2⟩
       obtain ⟨sa, sn, sc, rfl, hse⟩ := seqAns_ok hans
       have c2 : w2.cell? ⟨gq, oq, none⟩ = some (.int .i64 r0) := by rw [hb2.cell (p := ⟨gq, oq, none⟩) hgq]; exact cq0
       have hz2' := hb2.size
       cases hx : Tm.isS lns sq
       ·have hno : Tm.seqOf lns sq = none := by
         unfold Tm.isS at hx
         cases h : Tm.seqOf lns sq with
         | none => rfl
         | some e => rw [h] at hx; cases hx
        have HWE : Hid (Tm.weigh lns sq = Tm.implicit r0) := by unfold Hid Tm.weigh; rw [hno]; exact congrArg Tm.implicit HGD.out
        have HC7 : Hid (∀ j u, (elsCells (Tm.weigh lns sq))[j]? = some u → (w2.alloc (.cells #[.int .i64 (64320 + r0 / 32768), .int .i64 32, .int .i64 2, .bool false, .int .i64 (32768 + r0 % 32768), .int .i64 0, .int .i64 0, .bool false] 102)).cell? ((⟨w2.heap.size, 0, none⟩ : Addr).add j) = some u) := fun j u hu => by
         rw [HWE.out] at hu
         rw [addr_add, Nat.zero_add, cell_new rfl, List.getElem?_toArray]
         exact hu
        have HBX : Hid (Below wc.heap.size wc (w2.alloc (.cells #[.int .i64 (64320 + r0 / 32768), .int .i64 32, .int .i64 2, .bool false, .int .i64 (32768 + r0 % 32768), .int .i64 0, .int .i64 0, .bool false] 102))) := hb2.alloc (by omega) _
        have hwl2 : wl = 2 := by have := HWL.out; rw [HWE.out] at this; simpa [Tm.implicit] using this.symm
        subst hwl2
        clear hans hse hb2 hno
        have HBO := hide (HBC.out.trans ((HBIC.out.trans (HBX.out.mono (by omega))).mono hzc))
        have HOE := hide (owns_below HS.out.own HBO.out)
        have HRR2 := hide (HRR.out.below HBX.out HRR.out.2.1)
        go_wp2_with (at_builtin; go_must (refine wpList_append_own_at _ rfl _ _ 84 rfl W.heap.size 102 i1 (.agg #[.int .i64 0, .int .i64 0, .int .i64 0, .bool false]) 4 32 Tryz.underlying84 ki kz0 kz1 kz2 rfl (by decide) _ _ _ rfl HOE.out ⟨w2.heap.size, 0, none⟩ 2 2 (elsCells (Tm.weigh lns sq)) rfl HL7.out HC7.out (elsCells_one _) (by unfold maxLen; omega) (by omega) (by simp; omega) ?_))
        intro v8 w8 hown8 hgr8 _ hat8
        have hz8 := hgr8.size
        have HST8 : Hid (RelsSt lns W.heap.size l w8 (.slice ar x cr) v8 (ds ++ Tm.weigh lns sq) (ps ++ rm)) := by
         refine ⟨by rw [HS.out.same, HSTEP.out, List.append_assoc], ?_, ?_, HI.out.gr, ?_⟩
         ·rw [elsCells_append, List.length_append, HWL.out, hzW]; exact hown8
         ·have h := HRR2.out
          rw [HX.out] at h ⊢
          refine h.of_blocks hz8 (fun g hg => hgr8.block g (h.2.1 g hg) (fun he => ?_))
          have h1 := HI.out.far g (by rw [HX.out]; exact hg)
          have h2 := (HS.out.own.lt g he.symm).2
          omega
         ·rw [List.length_append, HWL.out, HX.out]
          have := HLEN.out
          omega
        have HB8 : Hid (Below W.heap.size W w8) := (HB.out.trans (HBO.out.mono hzr)).grown hgr8 (by simp; omega) (fun j hj => (HS.out.own.lt j hj).1)
        have HSL8 : Hid (slen (.slice ar x cr) < m) := by have := HLEN.out; show x < m; omega
        clear hown8 hgr8 hat8
        go_wp2
        go_roundw
        case rel => exact ⟨_, ps ++ rm, HST8.out, HB8.out⟩
        case measure => exact HSL8.out
       ·obtain ⟨es, hes⟩ : ∃ es, Tm.seqOf lns sq = some es := by
         unfold Tm.isS at hx
         cases h : Tm.seqOf lns sq with
         | none => rw [h] at hx; cases hx
         | some e => exact ⟨e, rfl⟩
        obtain ⟨rfl, hrd⟩ := hse es hes
        have he : Tm.weigh lns sq = es := by unfold Tm.weigh; rw [hes]
        have hrd2 := hrd.below hb2 hrd.2.1
        obtain ⟨g7, o7, c7, hse7, hg7, hc7⟩ := hrd2.form (by rw [elsCells_length, ← he, HWL.out]; omega)
        cases hse7
        have hel : es.length = wl := by rw [← he]; exact HWL.out
        have HC7 : Hid (∀ j u, (elsCells (Tm.weigh lns sq))[j]? = some u → w2.cell? ((⟨g7, o7, none⟩ : Addr).add j) = some u) := fun j u hu => by
         rw [he] at hu
         rw [addr_add]; exact hc7 j u hu
        have HBX := hide hb2
        rw [hel]
        clear hans hse hb2 hes hrd hrd2 hc7 he hel
        have HBO := hide (HBC.out.trans ((HBIC.out.trans (HBX.out.mono (by omega))).mono hzc))
        have HOE := hide (owns_below HS.out.own HBO.out)
        have HRR2 := hide (HRR.out.below HBX.out HRR.out.2.1)
        go_wp2_with (at_builtin; go_must (refine wpList_append_own_at _ rfl _ _ 84 rfl W.heap.size 102 i1 (.agg #[.int .i64 0, .int .i64 0, .int .i64 0, .bool false]) 4 32 Tryz.underlying84 ki kz0 kz1 kz2 rfl (by decide) _ _ _ rfl HOE.out ⟨g7, o7, none⟩ wl sc (elsCells (Tm.weigh lns sq)) rfl HL7.out HC7.out (elsCells_one _) (by unfold maxLen; omega) (by omega) (by omega) ?_))
        intro v8 w8 hown8 hgr8 _ hat8
        have hz8 := hgr8.size
        have HST8 : Hid (RelsSt lns W.heap.size l w8 (.slice ar x cr) v8 (ds ++ Tm.weigh lns sq) (ps ++ rm)) := by
         refine ⟨by rw [HS.out.same, HSTEP.out, List.append_assoc], ?_, ?_, HI.out.gr, ?_⟩
         ·rw [elsCells_append, List.length_append, HWL.out, hzW]; exact hown8
         ·have h := HRR2.out
          rw [HX.out] at h ⊢
          refine h.of_blocks hz8 (fun g hg => hgr8.block g (h.2.1 g hg) (fun he => ?_))
          have h1 := HI.out.far g (by rw [HX.out]; exact hg)
          have h2 := (HS.out.own.lt g he.symm).2
          omega
         ·rw [List.length_append, HWL.out, HX.out]
          have := HLEN.out
          omega
        have HB8 : Hid (Below W.heap.size W w8) := (HB.out.trans (HBO.out.mono hzr)).grown hgr8 (by omega) (fun j hj => (HS.out.own.lt j hj).1)
        have HSL8 : Hid (slen (.slice ar x cr) < m) := by have := HLEN.out; show x < m; omega
        clear hown8 hgr8 hat8
        go_wp2
        go_roundw
        case rel => exact ⟨_, ps ++ rm, HST8.out, HB8.out⟩
        case measure => exact HSL8.out
      ·obtain ⟨c, r, rfl, hcc⟩ : ∃ c r, rm = c :: r ∧ Tm.classOf lns c ≠ 0 := by
        cases rm with
        | nil => cases hgo
        | cons c r => exact ⟨c, r, rfl, by simpa [goOn] using hgo⟩
       have HCC := hide hcc
       have hkx : k < x := by have := HKX.out; simp at this; omega
       obtain ⟨gr, or, rfl, hgr, ck⟩ := HRR.out.at (k := k) (by rw [HX.out]; exact hkx)
       have hck : (ps ++ c :: r)[k]'(by rw [HX.out]; exact hkx) = c := by have := HK2.out; subst this; simp
       rw [hck] at ck
       obtain ⟨gq, oq, rfl, hgq, cq0⟩ := HRQ.out.at (k := 0) (by rw [HQQ.out]; exact hpos)
       have hcr := HRR.out.fits
       have HTAKE : Hid ((ps ++ c :: r).take k = ps) := by unfold Hid; have := HK2.out; subst this; simp
       have HDROP : Hid ((ps ++ c :: r).drop (k + 1) = r) := by unfold Hid; have := HK2.out; subst this; simp
       have HXR : Hid (x = k + 1 + r.length) := by have := HKX.out; simp at this; unfold Hid; omega
       have HQ1 : Hid ((ints sq).length = q * 1) := by unfold Hid; rw [ints_length, HQQ.out, Nat.mul_one]
       have HSQ : Hid (∀ j u, (ints sq)[j]? = some u → wc.cell? ((⟨gq, oq, none⟩ : Addr).add j) = some u) := fun j u hu => reads_cells HRQ.out hu
       have j5 : (0 : Int) ≤ (k : Int) := by omega
       have j6 : (k : Int) < (x : Int) := by omega
       have j7 : (k : Int) ≤ (cr : Int) := by have := hcr.1; omega
       have hcr2 : x ≤ cr := by have := hcr.1; omega
       clear hgo hcc hck cq0 hcr
       go_wp2_with (at_builtin; go_must (refine wpList_append_own_at _ rfl _ _ 83 rfl wc.heap.size 3 i0 (.int .i64 0) 1 8 Tryz.underlying83 hi hz0 hz1 hz2 rfl (by decide) _ _ _ rfl (World.ownsRow_nil _ _ _ _) ⟨gq, oq, none⟩ q cq (ints sq) rfl HQ1.out HSQ.out (fun u hu => ints_one u hu) (by unfold maxLen; omega) (by omega) (Nat.le_refl _) ?_))
       intro v1 w1 hown1 hgr1 _ _
       have hb1 : Below wc.heap.size wc w1 := (Below.refl _ _).grown hgr1 (Nat.le_refl _) (fun k hk => by cases hk)
       have hz1' := hb1.size
       obtain ⟨a1, c1, rfl⟩ := (Reads.of_owns hown1).shape
       have ck1 : w1.cell? ⟨gr, or + k, none⟩ = some (.int .i64 c) := by rw [hb1.cell (p := ⟨gr, or + k, none⟩) hgr]; exact ck
       have HO1 := hide hown1
       have HB1 := hide hb1
       clear hown1 hgr1 hb1 ck
       go_wp2_with (at_builtin; go_must (refine wpList_append_own_at _ rfl _ _ 83 rfl wc.heap.size 3 i0 (.int .i64 0) 1 8 Tryz.underlying83 hi hz0 hz1 hz2 rfl (by decide) _ _ _ rfl (HO1.out.alloc _) ⟨w1.heap.size, 0, none⟩ 1 1 [.int .i64 c] rfl rfl news_one (by intro u hu; simp at hu; subst hu; rfl) (by unfold maxLen; omega) (by omega) (by simp; omega) ?_))
       intro v2 w2 hown2 hgr2 _ _
       have hz2' : w1.heap.size + 1 ≤ w2.heap.size := by have := hgr2.size; simpa using this
       have hb2 : Below wc.heap.size wc w2 := (HB1.out.alloc (by omega) _).grown hgr2 (by simp; omega) (fun j hj => (HO1.out.lt j hj).1)
       have HR2 : Hid (Reads w2 v2 1 (sq ++ [c]).length (ints (sq ++ [c]))) := by
        unfold Hid; rw [ints_snoc, List.length_append, HQQ.out]; exact Reads.of_owns hown2
       obtain ⟨a2, c2, rfl⟩ := HR2.out.shape
       have hsn : (sq ++ [c]).length = q + 1 := by rw [List.length_append, HQQ.out]; rfl
       rw [hsn]
       have HB2 := hide hb2
       have s0 : w2.cell? ⟨w.heap.size, 0, none⟩ = some (.slice a lns.length cap) := by rw [hb2.cell (p := ⟨w.heap.size, 0, none⟩) (by simp only; omega)]; exact t0
       have s1 : w2.cell? ⟨w.heap.size, 1, none⟩ = some (.int .i64 st) := by rw [hb2.cell (p := ⟨w.heap.size, 1, none⟩) (by simp only; omega)]; exact t1
       have s2 : w2.cell? ⟨w.heap.size, 2, none⟩ = some (.bool sh) := by rw [hb2.cell (p := ⟨w.heap.size, 2, none⟩) (by simp only; omega)]; exact t2
       have HSN := hide hsn
       clear hown2 hgr2 hb2 ck1 hsn t0 t1 t2
       go_wp2_with fail
       refine (Sequence_any _ st sh _ (sq ++ [c]) lns _ (HTC.out.below HB2.out) (by have h := HR2.out; rw [HSN.out] at h ⊢; exact h) hl (by rw [HSN.out]; omega) HF3.out).mono ?_
       rintro e w3 ⟨hans, hb3⟩
       obtain ⟨sa, sn, sc, rfl, _⟩ := seqAns_ok hans
       have hz3 := hb3.size
       have HB3 : Hid (Below wc.heap.size wc w3) := HB2.out.trans (hb3.mono (by omega))
       have HR3 := hide (HR2.out.below hb3 HR2.out.2.1)
       have u0 : w3.cell? ⟨w.heap.size, 0, none⟩ = some (.slice a lns.length cap) := by rw [hb3.cell (p := ⟨w.heap.size, 0, none⟩) (by simp only; omega)]; exact s0
       have u1 : w3.cell? ⟨w.heap.size, 1, none⟩ = some (.int .i64 st) := by rw [hb3.cell (p := ⟨w.heap.size, 1, none⟩) (by simp only; omega)]; exact s1
       have u2 : w3.cell? ⟨w.heap.size, 2, none⟩ = some (.bool sh) := by rw [hb3.cell (p := ⟨w.heap.size, 2, none⟩) (by simp only; omega)]; exact s2
       clear hans hb3 s0 s1 s2
       go_wp2_with fail
       refine (free_any _ st sh _ (ps ++ c :: r) k lns _ (HTC.out.below HB3.out) (by have h := HRR.out.below HB3.out HRR.out.2.1; exact h) (by rw [HX.out]; exact hkx) hl (by rw [HX.out]; omega) HF.out).mono ?_
       have hck : (ps ++ c :: r)[k]'(by rw [HX.out]; exact hkx) = c := by have := HK2.out; subst this; simp
       rw [HTAKE.out, hck]
       rintro e w4 ⟨rfl, hb4⟩
       have hz4 := hb4.size
       have HB4 : Hid (Below wc.heap.size wc w4) := HB3.out.trans (hb4.mono (by omega))
       have HR4 := hide (HR3.out.below hb4 HR3.out.2.1)
       have HIC4 := hide (HIC.out.below HB4.out)
       have HBI4 : Hid (Below Wc.heap.size Wc w4) := HBIC.out.trans (HB4.out.mono (by omega))
       have hpass : ¬ (Tm.isS lns (sq ++ [c]) = true ∧ freeOf lns ps c = true) → InnSt lns Wc.heap.size m (l'.take n) (l'.drop n) w4 (.slice (some ⟨gq, oq, none⟩) q cq) (.slice (some ⟨gr, or, none⟩) x cr) sq (ps ++ [c]) r := fun h => by
        have e : ps ++ [c] ++ r = ps ++ c :: r := by simp
        have h1 := HIC4.out.rq
        have h2 := HIC4.out.rr
        rw [HQQ.out] at h1
        rw [HX.out] at h2
        refine ⟨by rw [HIC4.out.same, grow_left' HCC.out h], by rw [HQQ.out]; exact h1, by rw [e, HX.out]; exact h2, by rw [e]; exact HIC4.out.len, HIC4.out.pos, HIC4.out.gq, by rw [e]; exact HIC4.out.gr, fun g hg => HIC4.out.far g (by rw [HX.out]; exact hg)⟩
       have HPASS := hide hpass
       have HPL : Hid (Value.int .i64 ((k : Int) + 1) = .int .i64 (ps ++ [c]).length) := by unfold Hid; rw [List.length_append, HK2.out]; rfl
       clear hb4 hck hpass u0 u1 u2
       cases hs : Tm.isS lns (sq ++ [c])
       ·have HP := hide (HPASS.out (by rw [hs]; simp))
        go_wp2
        go_roundw
        case rel => exact ⟨sq, ps ++ [c], r, HP.out, HPL.out, HBI4.out⟩
        case measure => simp [intOf, slen]; omega
       ·cases hfr : freeOf lns ps c
        ·have HP := hide (HPASS.out (by rw [hfr]; simp))
         go_wp2
         go_roundw
         case rel => exact ⟨sq, ps ++ [c], r, HP.out, HPL.out, HBI4.out⟩
         case measure => simp [intOf, slen]; omega
        ·have HRR4 := hide (HRR.out.below HB4.out HRR.out.2.1)
         have HP1 : Hid ((ints ps).length = k * 1) := by unfold Hid; rw [ints_length, HK2.out, Nat.mul_one]
         have HPC : Hid (∀ j u, (ints ps)[j]? = some u → w4.cell? ((⟨gr, or, none⟩ : Addr).add j) = some u) := fun j u hu => reads_take HRR4.out (k := k) rfl (by rw [HTAKE.out]; exact hu)
         obtain ⟨k1, hk1⟩ : ∃ k1, k + 1 = k1 := ⟨_, rfl⟩
         have ek : (k : Int) + 1 = (k1 : Int) := by omega
         have hk1x : k1 ≤ x := by omega
         obtain ⟨oe, hoe, hse⟩ := reads_drop HRR4.out (k := k1) (by rw [HX.out]; exact hk1x)
         have j8 : (0 : Int) ≤ (k1 : Int) := by omega
         have j9 : (k1 : Int) ≤ (x : Int) := by omega
         have HR1 : Hid ((ints r).length = (x - k1) * 1) := by unfold Hid; rw [ints_length, Nat.mul_one]; have := HXR.out; omega
         have HK1 := hide hk1
         have HSE := hide hse
         clear hk1 hse
         go_wp2_with (at_builtin; go_must (refine wpList_append_own_at _ rfl _ _ 83 rfl w4.heap.size 3 i0 (.int .i64 0) 1 8 Tryz.underlying83 hi hz0 hz1 hz2 rfl (by decide) _ _ _ rfl (World.ownsRow_nil _ _ _ _) ⟨gr, or, none⟩ k cr (ints ps) rfl HP1.out HPC.out (fun u hu => ints_one u hu) (by unfold maxLen; omega) (by omega) (Nat.le_refl _) ?_))
         intro v5' w5' hown5 hgr5 _ _
         have hb5 : Below w4.heap.size w4 w5' := (Below.refl _ _).grown hgr5 (Nat.le_refl _) (fun k hk => by cases hk)
         have hz5' := hb5.size
         obtain ⟨a5', c5', rfl⟩ := (Reads.of_owns hown5).shape
         have HO5 := hide hown5
         have HB5' := hide hb5
         have HEC : Hid (∀ j u, (ints r)[j]? = some u → w5'.cell? ((⟨gr, oe, none⟩ : Addr).add j) = some u) := fun j u hu => by
          have h := HSE.out j u (by rw [← HK1.out, HDROP.out]; exact hu)
          rw [addr_add] at h ⊢
          rw [hb5.cell (p := ⟨gr, oe + j, none⟩) (by simp only; omega)]; exact h
         clear hown5 hgr5 hb5
         go_wp2_with (at_builtin; go_must (refine wpList_append_own_at _ rfl _ _ 83 rfl w4.heap.size 3 i0 (.int .i64 0) 1 8 Tryz.underlying83 hi hz0 hz1 hz2 rfl (by decide) _ _ _ rfl HO5.out ⟨gr, oe, none⟩ (x - k1) (cr - k1) (ints r) rfl HR1.out HEC.out (fun u hu => ints_one u hu) (by unfold maxLen; omega) (by omega) (by omega) ?_))
         intro v6 w6 hown6 hgr6 _ _
         have hz6 := hgr6.size
         have hb6 : Below w4.heap.size w4 w6 := HB5'.out.grown hgr6 (by omega) (fun j hj => (HO5.out.lt j hj).1)
         have HP6 : Hid (InnSt lns Wc.heap.size m (l'.take n) (l'.drop n) w6 (.slice a2 (q + 1) c2) v6 (sq ++ [c]) ps r) := by
          have h2 := HR4.out.below hb6 HR4.out.2.1
          rw [HSN.out] at h2
          refine ⟨by rw [HIC4.out.same, grow_took HCC.out hs hfr], by rw [HSN.out]; exact h2, ?_, ?_, by simp, fun y hy => ?_, fun y hy => HIC4.out.gr y ?_, fun g hg => by have := (hown6.lt g hg).1; omega⟩
          ·have hl6 : (ps ++ r).length = k + (x - k1) := by rw [List.length_append, HK2.out]; have := HXR.out; have := HK1.out; omega
           rw [hl6, ints_append]
           exact Reads.of_owns hown6
          ·have := HLEN.out
           rw [HSN.out, List.length_append, HK2.out]
           have := HXR.out
           omega
          ·rcases List.mem_append.1 hy with hy | hy
           ·exact HIC4.out.gq y hy
           ·rw [List.mem_singleton.1 hy]; exact HIC4.out.gr c (by simp)
          ·rcases List.mem_append.1 hy with hy | hy
           ·exact List.mem_append_left _ hy
           ·exact List.mem_append_right _ (List.mem_cons_of_mem _ hy)
         have HB6 : Hid (Below Wc.heap.size Wc w6) := HBI4.out.trans (hb6.mono (by omega))
         obtain ⟨a6, c6, rfl⟩ := (Reads.of_owns hown6).shape
         have HKI : Hid (Value.int .i64 (k : Int) = .int .i64 ps.length) := by unfold Hid; rw [HK2.out]
         have HSL6 : Hid (slen (.slice a6 (k + (x - k1)) c6) - k < slen (.slice (some ⟨gr, or, none⟩) x cr) - k) := by show k + (x - k1) - k < x - k; have := HK1.out; omega
         clear hown6 hgr6 hb6
         go_wp2
         go_roundw
         case rel => exact ⟨sq ++ [c], ps, r, HP6.out, HKI.out, HB6.out⟩
         case measure => simpa [intOf] using HSL6.out
  ·have hl0 : l' = [] := List.eq_nil_of_length_eq_zero (by rw [HM.out]; omega)
   have HD : Hid (Reads wr (.slice ae ds.length ce) 4 (Tm.elements lns l).length (elsCells (Tm.elements lns l))) := by
    unfold Hid
    rw [HS.out.same, hl0, Tm.elements_nil, List.append_nil]
    exact Reads.of_owns HS.out.own
   go_wp2
   go_ret
   exact ⟨_, rfl, HD.out, HBW.out⟩
end Go.Proofs.YtmnjjjhmnhfapaaGreatDoor
