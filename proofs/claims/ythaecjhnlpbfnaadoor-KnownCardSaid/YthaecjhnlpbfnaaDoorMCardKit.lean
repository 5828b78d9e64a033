import Derived.Test.YthaecjhnlpbfnaaDoorRows
import Derived.Test.YthaecjhnlpbfnaaDoorTie
import Derived.Test.YthaecjhnlpbfnaaDoorCards
import Derived.ProofKit
import Derived.OpenShut
import Derived.ShutString
import Derived.Lay
import Derived.SevenTiedAt
import Derived.Stop.Joined
import Derived.ReadAgain
import Derived.ChangeOld
import Derived.ChangeReads
import Derived.Deep.DeepHandedRow
import Derived.Deep.Strs
import Derived.Test.YthaecjhnlpbfnaaDoorMTabEnds
import Derived.Test.YthaecjhnlpbfnaaDoorMCodeNum
namespace Go.Proofs.YthaecjhnlpbfnaaDoor
open Go.RowKit

theorem keepText_set {n k : Nat} (h : n / 2 ^ k % 2 = 1) : Tm.keepText n (k + 1) = Tm.keepText n k ++ [10] ++ Tm.keepMore.getD k [] := by rw [Tm.keepText, if_pos h]
theorem keepText_not {n k : Nat} (h : ¬ n / 2 ^ k % 2 = 1) : Tm.keepText n (k + 1) = Tm.keepText n k := by rw [Tm.keepText, if_neg h]

theorem keepMore_len : ∀ k, k < 8 → (Tm.keepMore.getD k []).length ≤ 60 := by decide
theorem keepText_len (n : Nat) : ∀ k, k ≤ 8 → (Tm.keepText n k).length ≤ 300 + 70 * k
  | 0, _ => by show Tm.keepBase.length ≤ 300; decide +kernel
  | k + 1, h => by
    have ih := keepText_len n k (by omega)
    have h2 := keepMore_len k (by omega)
    rw [Tm.keepText]
    split
    · simp only [List.length_append, List.length_cons, List.length_nil]; omega
    · omega
theorem keep_bits : ∀ n : Nat, n < 256 → ∀ k, k < 8 → (bits BinOp.and IntKind.i64 ((n : Int) / 2 ^ k) 1 == 1) = decide (n / 2 ^ k % 2 = 1) := by decide +kernel

set_option maxRecDepth 100000 in
set_option maxHeartbeats 4000000 in
theorem table_any (n : Nat) (w : World) (hn : n < 256) :
    Calls Tryd.prog 37 #[.int .i64 n] w fun e w' => ∃ s : ByteArray, e = .returned (.string s) ∧ s.data.toList = Tm.keepTable n ∧ Below w.heap.size w w' := by
  obtain ⟨W, hW⟩ : ∃ W, w.alloc (.cells #[.string ⟨#[119, 32, 54, 51, 32, 54, 56, 32, 61, 32, 49, 53, 46, 50, 48, 46, 50]⟩, .string ⟨#[119, 32, 54, 49, 32, 51, 48, 49, 32, 61, 32, 49, 54, 46, 50, 48, 46, 50]⟩, .string ⟨#[119, 32, 54, 49, 32, 51, 50, 51, 32, 61, 32, 49, 55, 46, 50, 48, 46, 50, 10, 119, 32, 54, 49, 32, 51, 50, 51, 32, 51, 48, 49, 32, 61, 32, 49, 56, 46, 50, 48, 46, 50]⟩, .string ⟨#[119, 32, 50, 101, 32, 61, 32, 42, 52, 46, 50, 48, 46, 50, 32, 42, 53, 46, 50, 48, 46, 51]⟩, .string ⟨#[119, 32, 51, 48, 48, 32, 61, 32, 48, 46, 48, 46, 53, 10, 99, 32, 51, 48, 48, 32, 101, 54]⟩, .string ⟨#[119, 32, 51, 48, 50, 32, 61, 32, 48, 46, 48, 46, 48, 10, 99, 32, 51, 48, 50, 32, 101, 54]⟩, .string ⟨#[100, 32, 99, 53, 32, 52, 49, 32, 51, 48, 97, 10, 99, 32, 51, 48, 97, 32, 101, 54]⟩, .string ⟨#[119, 32, 48, 32, 61, 32, 48, 46, 48, 46, 48]⟩] 9) = W := ⟨_, rfl⟩
  have hb0 : Below w.heap.size w W := by rw [← hW]; exact (Below.refl _ _).alloc (Nat.le_refl _) _
  have HB0 := hide hb0
  have HCELL : Hid (∀ k, k < 8 → ∃ s : ByteArray, W.cell? ⟨w.heap.size, k, none⟩ = some (.string s) ∧ s.data.toList = Tm.keepMore.getD k []) := by
    intro k hk
    rw [← hW, cell_new rfl]
    rcases (show k = 0 ∨ k = 1 ∨ k = 2 ∨ k = 3 ∨ k = 4 ∨ k = 5 ∨ k = 6 ∨ k = 7 by omega) with rfl | rfl | rfl | rfl | rfl | rfl | rfl | rfl <;> exact ⟨_, rfl, rfl⟩
  clear hb0
  go_enter Tryd.func37, Tryd.ntmps37
  go_wp2_with fail
  go_loopw [3, 5] (fun vs i wr => ∃ (k : Nat) (s : ByteArray), k ≤ 8 ∧ i = .int .i64 k ∧ vs = .string s ∧ s.data.toList = Tm.keepText n k ∧ wr = W) (fun _ i _ => 8 - (intOf i).toNat)
  case atStart => exact ⟨0, _, by omega, rfl, rfl, rfl, rfl⟩
  case round =>
    obtain ⟨k, s, hk, rfl, rfl, hs, rfl⟩ := hrel
    have HS := hide hs
    clear hs
    by_cases hlt : k < 8
    · obtain ⟨m, hm, hmm⟩ := HCELL.out k hlt
      have HMM := hide hmm
      have i1 : (0 : Int) ≤ (k : Int) := by omega
      have i2 : (k : Int) < 8 := by omega
      clear hmm
      have hbb := keep_bits n hn k hlt
      have hsz : s.size ≤ 1000 := by have h1 := keepText_len n k hk; rw [← HS.out] at h1; simp at h1; omega
      have hmz : m.size ≤ 60 := by have h1 := keepMore_len k hlt; rw [← HMM.out] at h1; simpa using h1
      have z1 : ¬ 9223372036854775807 < s.size + 1 := by omega
      have z2 : ¬ 9223372036854775807 < s.size + 1 + m.size := by omega
      by_cases hbit : n / 2 ^ k % 2 = 1
      · rw [decide_eq_true hbit] at hbb
        have HT : Hid ((s ++ ⟨#[10]⟩ ++ m).data.toList = Tm.keepText n (k + 1)) := by
          unfold Hid
          rw [keepText_set hbit, ← HS.out, ← HMM.out]
          simp
        clear hbit
        go_wp2
        go_roundw
        case rel => exact ⟨k + 1, _, by omega, by go_num, rfl, HT.out, by first | rfl | trivial⟩
        case measure => simp [intOf]; omega
      · rw [decide_eq_false hbit] at hbb
        have HT : Hid (s.data.toList = Tm.keepText n (k + 1)) := by
          unfold Hid
          rw [keepText_not hbit]; exact HS.out
        clear hbit
        go_wp2
        go_roundw
        case rel => exact ⟨k + 1, s, by omega, by go_num, rfl, HT.out, by first | rfl | trivial⟩
        case measure => simp [intOf]; omega
    · have hk8 : k = 8 := by omega
      subst hk8
      go_wp2
      go_ret
      exact ⟨s, rfl, HS.out, HB0.out⟩

namespace Tm
theorem keep_good {n : Nat} (h : n < 256) : keepGood n = true := by
  by_cases h1 : n < 128
  · exact List.all_eq_true.1 keep_good_a n (List.mem_range.2 h1)
  · have := List.all_eq_true.1 keep_good_b (n - 128) (List.mem_range.2 (by omega))
    simpa [show n - 128 + 128 = n by omega] using this
theorem sole_some {p s t : Int} {o : Option (List El)} (h : sole p s t o = true) : o = some [⟨p, s, t, false⟩] := by
  unfold sole at h
  split at h
  · rename_i e
    simp at h
    obtain ⟨⟨⟨h1, h2⟩, h3⟩, h4⟩ := h
    obtain ⟨a, b, c, d⟩ := e
    simp at h1 h2 h3 h4
    subst h1 h2 h3 h4
    rfl
  · cases h
/-- What each of these tables is. -/
structure KeepTab (lns : List Ln) : Prop where
  a : seqOf lns [97] = some [⟨16, 32, 2, false⟩]
  b : seqOf lns [98] = some [⟨17, 32, 2, false⟩]
  pa : parts lns 97 = []
  pb : parts lns 98 = []
theorem keep_tab {n : Nat} (h : n < 256) {st : Int} (hst : 1 ≤ st ∧ st ≤ 4) : ∃ lns, newTable (keepTable n) st = (lns, 0, 0) ∧ KeepTab lns := by
  have hg := keep_good h
  unfold keepGood at hg
  simp only [Bool.and_eq_true, decide_eq_true_eq] at hg
  obtain ⟨⟨⟨⟨⟨h1, h2⟩, h3⟩, h4⟩, h5⟩, h6⟩ := hg
  refine ⟨keepLines n, ?_, sole_some h2, sole_some h3, h4, h5⟩
  unfold newTable at h1 ⊢
  rw [if_neg (by omega), if_neg (by omega)] at h1 ⊢
  unfold keepLines
  generalize readLines [] 1 (split 10 (keepTable n)) = p at h1 ⊢
  obtain ⟨l, o⟩ := p
  cases o with
  | none => simp only at h1 ⊢; rw [← h1]
  | some q => obtain ⟨m, e⟩ := q; simp only at h1 ⊢; rw [h1]
end Tm

/-- A collator of one of these tables. -/
def OpenedAns (n : Nat) (st : Int) (sh : Bool) (w : World) (e : Ending) (w' : World) : Prop :=
  ∃ bc bm lns, e = .returned (.pointer (some ⟨bc, 0, none⟩)) ∧ Coll w' bc bm st sh lns ∧ TableOk st lns ∧ Tm.KeepTab lns ∧ Tm.newTable (Tm.keepTable n) st = (lns, 0, 0) ∧ Below w.heap.size w w'

set_option maxRecDepth 100000 in
set_option maxHeartbeats 2000000 in
theorem opened_any (n st : Int) (sh : Bool) (w : World) (hn : -9223372036854775808 ≤ n ∧ n ≤ 9223372036854775807) (hst : -9223372036854775808 ≤ st ∧ st ≤ 9223372036854775807) :
    Calls Tryd.prog 14 #[.int .i64 n, .int .i64 st, .bool sh] w fun e w' => ∃ k st', k < 256 ∧ OpenedAns k st' sh w e w' := by
  obtain ⟨n1, n2⟩ := hn
  obtain ⟨s1, s2⟩ := hst
  go_enter Tryd.func14, Tryd.ntmps14
  go_wp2_with fail
  refine (pick_any n 256 _ ⟨n1, n2⟩ (by omega)).mono ?_
  rintro e w1 ⟨rfl, rfl⟩
  have hp := pickN_range (c := n) (n := 256) (by omega)
  obtain ⟨k, hk⟩ : ∃ k : Nat, pickN n 256 = k := ⟨(pickN n 256).toNat, by omega⟩
  rw [hk] at hp ⊢
  have hk256 : k < 256 := by omega
  clear hp hk
  go_wp2_with fail
  refine (table_any k _ hk256).mono ?_
  rintro e w2 ⟨s, rfl, hs, hb2⟩
  have HS := hide hs
  have HB2 := hide hb2
  have hz2 := hb2.size
  clear hs hb2
  go_wp2_with fail
  refine (pick_any st 4 _ ⟨s1, s2⟩ (by omega)).mono ?_
  rintro e w3 ⟨rfl, rfl⟩
  have hp := pickN_range (c := st) (n := 4) (by omega)
  obtain ⟨t, ht⟩ : ∃ t : Int, pickN st 4 = t := ⟨_, rfl⟩
  rw [ht] at hp ⊢
  obtain ⟨p1, p2⟩ := hp
  have hsz : s.size ≤ maxLen := by
    have h1 := keepText_len k 8 (by omega)
    have h2 : s.data.toList.length ≤ 860 := by rw [HS.out]; exact h1
    simp at h2
    unfold maxLen
    omega
  obtain ⟨lns, hl1, hl2⟩ := Tm.keep_tab hk256 (st := 1 + t) (by omega)
  have HL1 := hide hl1
  have HL2 := hide hl2
  clear ht hl1 hl2
  go_wp2_with fail
  refine (new_said.2 s (1 + t) sh _ hsz).mono ?_
  rintro e w4 ⟨c, rfl, hc, hK, hb4⟩
  rw [HS.out, HL1.out] at hc
  obtain ⟨a, rfl⟩ : ∃ a, c = some a := by
    cases c with
    | none => exact absurd rfl (hc.1 rfl)
    | some a => exact ⟨a, rfl⟩
  obtain ⟨bc, bm, lns', rfl, hco, hnt⟩ := hK _ rfl
  rw [HS.out, HL1.out] at hnt
  injection hnt with hnt _
  subst hnt
  have HC := hide hco.here
  have HOK : Hid (TableOk (1 + t) lns) := TableOk.of HL1.out (newTable_ends HL1.out)
  have HB4 := hide (HB2.out.trans (hb4.mono hz2))
  rw [HS.out, HL1.out]
  clear hc hK hco hb4
  go_wp2
  go_ret
  exact ⟨k, 1 + t, hk256, bc, bm, lns, rfl, HC.out, HOK.out, HL2.out, HL1.out, HB4.out⟩
end Go.Proofs.YthaecjhnlpbfnaaDoor
namespace Go.Proofs.YthaecjhnlpbfnaaDoor
open Go.RowKit

theorem runes_a : runesOf ⟨#[97]⟩ = [97] := by decide +kernel
theorem runes_b : runesOf ⟨#[98]⟩ = [98] := by decide +kernel
theorem norm_one {lns : List Tm.Ln} {s : ByteArray} {r : Int} (hr : runesOf s = [r]) (hp : Tm.parts lns r = []) : normOf lns s = [r] := by
  unfold normOf
  rw [hr]
  simp only [List.flatMap_cons, List.flatMap_nil, List.append_nil]
  rw [Tm.expand_leaf (by rw [hp]; rfl)]
  rfl
theorem elements_one {lns : List Tm.Ln} {r : Int} {e : List Tm.El} (h : Tm.seqOf lns [r] = some e) : Tm.elements lns [r] = e := by
  rw [Tm.elements_step (by simp)]
  have hl : Tm.lead lns [r] = 1 := by
    unfold Tm.lead
    rw [if_neg (fun h => by simp at h), if_neg (fun h => by simp at h)]
  rw [hl]
  simp only [List.take_succ_cons, List.take_zero, List.drop_succ_cons, List.drop_zero, Tm.grow]
  rw [Tm.elements_nil, List.append_nil, Tm.weigh, h]
theorem keep_norm_a {lns : List Tm.Ln} (h : Tm.KeepTab lns) : normOf lns ⟨#[97]⟩ = [97] := norm_one runes_a h.pa
theorem keep_norm_b {lns : List Tm.Ln} (h : Tm.KeepTab lns) : normOf lns ⟨#[98]⟩ = [98] := norm_one runes_b h.pb
theorem keep_cmp_ab {lns : List Tm.Ln} (h : Tm.KeepTab lns) {st : Int} {sh : Bool} (hst : 1 ≤ st ∧ st ≤ 4) : cmpOf lns st sh ⟨#[97]⟩ ⟨#[98]⟩ = -1 := by
  unfold cmpOf stands levels
  rw [keep_norm_a h, keep_norm_b h, elements_one h.a, elements_one h.b]
  obtain ⟨t, ht⟩ : ∃ t : Nat, st.toNat = t + 1 := ⟨st.toNat - 1, by omega⟩
  rw [ht]
  simp only [List.map_cons, List.take_succ_cons, List.cons_append, Tm.cmpLL]
  have : Tm.cmpL (Tm.level sh [⟨16, 32, 2, false⟩] 0) (Tm.level sh [⟨17, 32, 2, false⟩] 0) = -1 := by cases sh <;> decide
  rw [this]
  rfl
theorem cmpOf_self (lns : List Tm.Ln) (st : Int) (sh : Bool) (a : ByteArray) : cmpOf lns st sh a a = 0 := Tm.cmpLL_self _
theorem cmpOf_neg (lns : List Tm.Ln) (st : Int) (sh : Bool) (a b : ByteArray) : cmpOf lns st sh b a = - cmpOf lns st sh a b := Tm.cmpLL_neg _ _
theorem cmpOf_range (lns : List Tm.Ln) (st : Int) (sh : Bool) (a b : ByteArray) : cmpOf lns st sh a b = -1 ∨ cmpOf lns st sh a b = 0 ∨ cmpOf lns st sh a b = 1 := Tm.cmpLL_range _ _
theorem cmpOf_zero {lns : List Tm.Ln} {st : Int} {sh : Bool} {a b : ByteArray} : cmpOf lns st sh a b = 0 ↔ normOf lns a = normOf lns b :=
  ⟨fun h => stands_eq.1 (Tm.cmpLL_zero h), fun h => by unfold cmpOf; rw [h]; exact Tm.cmpLL_self _⟩
theorem cmpOf_trans {lns : List Tm.Ln} {st : Int} {sh : Bool} {a b c : ByteArray} (h : cmpOf lns st sh a b ≤ 0) (k : cmpOf lns st sh b c ≤ 0) : cmpOf lns st sh a c ≤ 0 := Tm.cmpLL_trans h k
theorem cmpOf_trans' {lns : List Tm.Ln} {st : Int} {sh : Bool} {a b c : ByteArray} (h : 0 ≤ cmpOf lns st sh a b) (k : 0 ≤ cmpOf lns st sh b c) : 0 ≤ cmpOf lns st sh a c := by
  have h1 := cmpOf_neg lns st sh a b
  have h2 := cmpOf_neg lns st sh b c
  have h3 := cmpOf_neg lns st sh a c
  have := cmpOf_trans (lns := lns) (st := st) (sh := sh) (a := c) (b := b) (c := a) (by omega) (by omega)
  omega
theorem key_cmp {lns : List Tm.Ln} (hf : ∀ o ∈ lns, Tm.Fit o) {st : Int} {sh : Bool} (hst : 1 ≤ st ∧ st ≤ 4) (a b : ByteArray) : Tm.cmpB (keyBytes lns st sh a) (keyBytes lns st sh b) = cmpOf lns st sh a b :=
  key_order hf hst (norm_range hf a) (norm_range hf b)

set_option maxRecDepth 100000 in
set_option maxHeartbeats 4000000 in
theorem works_any (lns : List Tm.Ln) (bc bm : Nat) (st : Int) (sh : Bool) (w : World) (hc : Coll w bc bm st sh lns) (hok : TableOk st lns) (hk : Tm.KeepTab lns) :
    Calls Tryd.prog 15 #[.pointer (some ⟨bc, 0, none⟩)] w fun e w' => e = .returned (.bool true) ∧ Below w.heap.size w w' := by
  have HC := hide hc
  have HOK := hide hok
  have HK := hide hk
  have HF := hide hc.fit
  clear hc hok hk
  go_enter Tryd.func15, Tryd.ntmps15
  go_wp2_with fail
  refine (Normal_any lns HF.out HOK.out.ends bc bm ⟨#[97]⟩ _ HC.out.c0 HC.out.rd).mono ?_
  rintro e w1 hans
  rw [normAns, if_pos (by decide), keep_norm_a HK.out] at hans
  obtain ⟨v1, rfl, hown1, hb1⟩ := hans
  obtain ⟨g1, o1, c1, rfl, hg1, hc1⟩ := (Reads.of_owns hown1).form (by simp [ints])
  have hx := hc1 0 (.int .i64 97) rfl
  rw [Nat.add_zero] at hx
  have HB1 := hide hb1
  have hz1 := hb1.size
  have HC1 := hide (HC.out.below hb1)
  clear hown1 hb1 hc1
  simp only [List.length_cons, List.length_nil, Nat.zero_add]
  go_wp2_with fail
  refine (CodeCompare_any lns bc bm st sh ⟨#[97]⟩ ⟨#[98]⟩ _ HC1.out HOK.out).mono ?_
  rw [if_pos (by decide), keep_cmp_ab HK.out HOK.out.st]
  rintro e w2 ⟨rfl, hb2⟩
  have hx2 : w2.cell? ⟨g1, o1, none⟩ = some (.int .i64 97) := by rw [hb2.cell (p := ⟨g1, o1, none⟩) hg1]; exact hx
  have hz2 := hb2.size
  have HB2 := hide (HB1.out.trans (hb2.mono hz1))
  have HC2 := hide (HC1.out.below hb2)
  clear hb2 hx
  go_wp2_with fail
  refine (CodeCompare_any lns bc bm st sh ⟨#[97]⟩ ⟨#[97]⟩ _ HC2.out HOK.out).mono ?_
  rw [if_pos (by decide), cmpOf_self]
  rintro e w3 ⟨rfl, hb3⟩
  have hx3 : w3.cell? ⟨g1, o1, none⟩ = some (.int .i64 97) := by rw [hb3.cell (p := ⟨g1, o1, none⟩) (by simp only; omega)]; exact hx2
  have hz3 := hb3.size
  have HB3 := hide (HB2.out.trans (hb3.mono (by omega)))
  have HC3 := hide (HC2.out.below hb3)
  clear hb3 hx2
  go_wp2_with fail
  refine (CodeKey_any lns bc bm st sh ⟨#[97]⟩ _ HC3.out HOK.out).mono ?_
  rw [if_pos (by decide)]
  rintro e w4 ⟨rfl, hb4⟩
  have hx4 : w4.cell? ⟨g1, o1, none⟩ = some (.int .i64 97) := by rw [hb4.cell (p := ⟨g1, o1, none⟩) (by simp only; omega)]; exact hx3
  have hz4 := hb4.size
  have HB4 := hide (HB3.out.trans (hb4.mono (by omega)))
  have HC4 := hide (HC3.out.below hb4)
  clear hb4 hx3
  go_wp2_with fail
  refine (CodeKey_any lns bc bm st sh ⟨#[98]⟩ _ HC4.out HOK.out).mono ?_
  rw [if_pos (by decide)]
  rintro e w5 ⟨rfl, hb5⟩
  have hx5 : w5.cell? ⟨g1, o1, none⟩ = some (.int .i64 97) := by rw [hb5.cell (p := ⟨g1, o1, none⟩) (by simp only; omega)]; exact hx4
  have hz5 := hb5.size
  have HB5 := hide (HB4.out.trans (hb5.mono (by omega)))
  have HC5 := hide (HC4.out.below hb5)
  clear hb5 hx4
  go_wp2_with fail
  refine (CodeElements_any lns bc bm st sh ⟨#[97]⟩ _ HC5.out HOK.out).mono ?_
  rintro e w6 hans
  rw [partsOfAns, if_pos (by decide), keep_norm_a HK.out, elements_one HK.out.a] at hans
  obtain ⟨v6, rfl, hown6, hb6⟩ := hans
  obtain ⟨g6, o6, c6, rfl, hg6, hc6⟩ := (Reads.of_owns hown6).form (by simp [elsCells, elCells])
  have hy := hc6 0 (.int .i64 16) rfl
  rw [Nat.add_zero] at hy
  have hx6 : w6.cell? ⟨g1, o1, none⟩ = some (.int .i64 97) := by rw [hb6.cell (p := ⟨g1, o1, none⟩) (by simp only; omega)]; exact hx5
  have HB6 := hide (HB5.out.trans (hb6.mono (by omega)))
  simp only [List.length_cons, List.length_nil, Nat.zero_add]
  have hlt : Op.bytesLess (ByteArray.mk (keyBytes lns st sh ⟨#[97]⟩).toArray).toList (ByteArray.mk (keyBytes lns st sh ⟨#[98]⟩).toArray).toList = true := by
    rw [bytesLess_eq, Go.ByteArray.toList_eq, Go.ByteArray.toList_eq]
    have h := (key_cmp HF.out (sh := sh) HOK.out.st ⟨#[97]⟩ ⟨#[98]⟩).trans (keep_cmp_ab HK.out HOK.out.st)
    unfold Tm.cmpB at h
    split at h
    · rename_i h1; simpa using h1
    · split at h <;> simp at h
  generalize (keyBytes lns st sh ⟨#[97]⟩).toArray = ka at *
  generalize (keyBytes lns st sh ⟨#[98]⟩).toArray = kb at *
  clear hown6 hb6 hc6 hx5
  go_wp2
  go_ret
  exact ⟨rfl, HB6.out⟩
end Go.Proofs.YthaecjhnlpbfnaaDoor
namespace Go.Proofs.YthaecjhnlpbfnaaDoor
open Go.RowKit

set_option maxRecDepth 100000 in
set_option maxHeartbeats 8000000 in
theorem pair_any (lns : List Tm.Ln) (bc bm : Nat) (st : Int) (sh : Bool) (a b : ByteArray) (w : World) (hc : Coll w bc bm st sh lns) (hok : TableOk st lns) (ha : a.size ≤ 64) (hb : b.size ≤ 64) :
    Calls Tryd.prog 17 #[.pointer (some ⟨bc, 0, none⟩), .string a, .string b] w fun e w' => e = .returned (.tuple #[.int .i64 (cmpOf lns st sh a b), .bool true]) ∧ Below w.heap.size w w' := by
  have HC := hide hc
  have HOK := hide hok
  have HF := hide hc.fit
  obtain ⟨c, hcd⟩ : ∃ c, cmpOf lns st sh a b = c := ⟨_, rfl⟩
  have HCD := hide hcd
  have hr := cmpOf_range lns st sh a b
  rw [hcd] at hr
  rw [hcd]
  have HR := hide hr
  clear hc hok hcd hr
  go_enter Tryd.func17, Tryd.ntmps17
  go_wp2_with fail
  refine (CodeCompare_any lns bc bm st sh a b _ HC.out HOK.out).mono ?_
  rw [if_pos ⟨ha, hb⟩, HCD.out]
  rintro e w1 ⟨rfl, hb1⟩
  have hz1 := hb1.size
  have HB1 := hide hb1
  have HC1 := hide (HC.out.below hb1)
  clear hb1
  go_wp2_with fail
  refine (CodeCompare_any lns bc bm st sh b a _ HC1.out HOK.out).mono ?_
  rw [if_pos ⟨hb, ha⟩, cmpOf_neg, HCD.out]
  rintro e w2 ⟨rfl, hb2⟩
  have hz2 := hb2.size
  have HB2 := hide (HB1.out.trans (hb2.mono hz1))
  have HC2 := hide (HC1.out.below hb2)
  clear hb2
  go_wp2_with fail
  refine (CodeKey_any lns bc bm st sh a _ HC2.out HOK.out).mono ?_
  rw [if_pos ha]
  rintro e w3 ⟨rfl, hb3⟩
  have hz3 := hb3.size
  have HB3 := hide (HB2.out.trans (hb3.mono (by omega)))
  have HC3 := hide (HC2.out.below hb3)
  clear hb3
  go_wp2_with fail
  refine (CodeKey_any lns bc bm st sh b _ HC3.out HOK.out).mono ?_
  rw [if_pos hb]
  rintro e w4 ⟨rfl, hb4⟩
  have hz4 := hb4.size
  have HB4 := hide (HB3.out.trans (hb4.mono (by omega)))
  have HC4 := hide (HC3.out.below hb4)
  clear hb4
  go_wp2_with fail
  refine (Normal_any lns HF.out HOK.out.ends bc bm a _ HC4.out.c0 HC4.out.rd).mono ?_
  rintro e w5 hans
  rw [normAns, if_pos ha] at hans
  obtain ⟨v5, rfl, hown5, hb5⟩ := hans
  have HR5 := hide (Reads.of_owns hown5)
  have hz5 := hb5.size
  have HB5 := hide (HB4.out.trans (hb5.mono (by omega)))
  have HC5 := hide (HC4.out.below hb5)
  clear hown5 hb5
  go_wp2_with fail
  refine (Normal_any lns HF.out HOK.out.ends bc bm b _ HC5.out.c0 HC5.out.rd).mono ?_
  rintro e w6 hans
  rw [normAns, if_pos hb] at hans
  obtain ⟨v6, rfl, hown6, hb6⟩ := hans
  have HR6 := hide (Reads.of_owns hown6)
  have HR56 := hide (HR5.out.below hb6 HR5.out.2.1)
  have hz6 := hb6.size
  have HB6 := hide (HB5.out.trans (hb6.mono (by omega)))
  clear hown6 hb6
  go_wp2_with fail
  refine (keepSign_any _ _ _).mono ?_
  rintro e w7 ⟨rfl, rfl⟩
  have hkc : Tm.cmpB (ByteArray.mk (keyBytes lns st sh a).toArray).data.toList (ByteArray.mk (keyBytes lns st sh b).toArray).data.toList = cmpOf lns st sh a b := by
    have := key_cmp HF.out (sh := sh) HOK.out.st a b
    simpa using this
  rw [hkc, HCD.out]
  clear hkc
  go_wp2_with fail
  refine (keepSame_any _ _ (normOf lns a) (normOf lns b) _ HR56.out HR6.out (by have := norm_short' HF.out ha; omega) (by have := norm_short' HF.out hb; omega)).mono ?_
  rintro e w8 ⟨rfl, q, rfl⟩
  have hsame : decide (normOf lns a = normOf lns b) = decide (cmpOf lns st sh a b = 0) := by
    by_cases h : normOf lns a = normOf lns b
    · rw [decide_eq_true h, decide_eq_true (cmpOf_zero.2 h)]
    · rw [decide_eq_false h, decide_eq_false (fun e => h (cmpOf_zero.1 e))]
  rw [hsame, HCD.out]
  have HBQ : Hid (Below w.heap.size w (w7.drewN q)) := ⟨HB6.out.os, HB6.out.tape, HB6.out.output, HB6.out.size, HB6.out.block⟩
  clear hsame HCD
  rcases HR.out with rfl | rfl | rfl
  all_goals
    go_wp2
    go_ret2
    exact ⟨rfl, HBQ.out⟩

set_option maxRecDepth 100000 in
set_option maxHeartbeats 8000000 in
theorem Total_any (n st : Int) (sh : Bool) (a b c : ByteArray) (w : World) (hn : -9223372036854775808 ≤ n ∧ n ≤ 9223372036854775807) (hst : -9223372036854775808 ≤ st ∧ st ≤ 9223372036854775807) :
    Calls Tryd.prog 5 #[.int .i64 n, .int .i64 st, .bool sh, .string a, .string b, .string c] w fun e w' => e = .returned (.bool true) ∧ Below w.heap.size w w' := by
  have HN := hide hn
  have HST := hide hst
  clear hn hst
  go_enter Tryd.func5, Tryd.ntmps5
  go_wp2_with fail
  refine (opened_any n st sh _ HN.out HST.out).mono ?_
  rintro e w1 ⟨k, t, _, bc, bm, lns, rfl, hc1, hok, hkt, _, hb1⟩
  have HC1 := hide hc1
  have HOK := hide hok
  have HKT := hide hkt
  have HB1 := hide hb1
  have hz1 := hb1.size
  clear hc1 hok hkt hb1
  go_wp2_with fail
  refine (works_any lns bc bm t sh _ HC1.out HOK.out HKT.out).mono ?_
  rintro e w2 ⟨rfl, hb2⟩
  have hz2 := hb2.size
  have HB2 := hide (HB1.out.trans (hb2.mono hz1))
  have HC2 := hide (HC1.out.below hb2)
  clear hb2
  go_wp2_with fail
  refine (cut_any a _).mono ?_
  rintro e w2' ⟨rfl, rfl⟩
  go_wp2_with fail
  refine (cut_any b _).mono ?_
  rintro e w2' ⟨rfl, rfl⟩
  go_wp2_with fail
  refine (cut_any c _).mono ?_
  rintro e w2' ⟨rfl, rfl⟩
  have hx := cutB_size a
  have hy := cutB_size b
  have hz := cutB_size c
  generalize cutB a = x at *
  generalize cutB b = y at *
  generalize cutB c = z at *
  go_wp2_with fail
  refine (pair_any lns bc bm t sh x y _ HC2.out HOK.out hx hy).mono ?_
  rintro e w3 ⟨rfl, hb3⟩
  have hz3 := hb3.size
  have HB3 := hide (HB2.out.trans (hb3.mono (by omega)))
  have HC3 := hide (HC2.out.below hb3)
  clear hb3
  go_wp2_with fail
  refine (pair_any lns bc bm t sh y z _ HC3.out HOK.out hy hz).mono ?_
  rintro e w4 ⟨rfl, hb4⟩
  have hz4 := hb4.size
  have HB4 := hide (HB3.out.trans (hb4.mono (by omega)))
  have HC4 := hide (HC3.out.below hb4)
  clear hb4
  go_wp2_with fail
  refine (pair_any lns bc bm t sh x z _ HC4.out HOK.out hx hz).mono ?_
  rintro e w5 ⟨rfl, hb5⟩
  have hz5 := hb5.size
  have HB5 := hide (HB4.out.trans (hb5.mono (by omega)))
  have HC5 := hide (HC4.out.below hb5)
  clear hb5
  go_wp2_with fail
  refine (pair_any lns bc bm t sh x x _ HC5.out HOK.out hx hx).mono ?_
  rw [cmpOf_self]
  rintro e w6 ⟨rfl, hb6⟩
  have HB6 := hide (HB5.out.trans (hb6.mono (by omega)))
  clear hb6
  have h1 := cmpOf_range lns t sh x y
  have h2 := cmpOf_range lns t sh y z
  have h3 := cmpOf_range lns t sh x z
  have h4 := @cmpOf_trans lns t sh x y z
  have h5 := @cmpOf_trans' lns t sh x y z
  generalize cmpOf lns t sh x y = p at *
  generalize cmpOf lns t sh y z = q at *
  generalize cmpOf lns t sh x z = r at *
  rcases h1 with rfl | rfl | rfl <;> rcases h2 with rfl | rfl | rfl <;> rcases h3 with rfl | rfl | rfl <;> first | (exfalso; revert h4; decide) | (exfalso; revert h5; decide) | (clear h4 h5; go_wp2; go_ret; exact ⟨rfl, HB6.out⟩)
end Go.Proofs.YthaecjhnlpbfnaaDoor
/-
  A slice of texts that came in.
-/
namespace Go.Proofs.YthaecjhnlpbfnaaDoor
open Go.RowKit

/-- The texts, as the slice of strings reads. -/
def strs (l : List ByteArray) : List Value := l.map Value.string
theorem strs_length (l : List ByteArray) : (strs l).length = l.length := by simp [strs]
theorem strs_get {l : List ByteArray} {k : Nat} (h : k < l.length) : (strs l)[k]? = some (.string l[k]) := by simp [strs, h]
/-- A slice value reads as texts. -/
def TextsRd (w : World) (v : Value) (texts : List ByteArray) : Prop := ∃ a cap, v = .slice a texts.length cap ∧ (0 < texts.length → Reads w v 1 texts.length (strs texts))
end Go.Proofs.YthaecjhnlpbfnaaDoor
/-
  What the cards share: arguments read again where only new memory was made; a witness for a row that lists variables; the bound of the second form.
-/
namespace Go.Proofs.YthaecjhnlpbfnaaDoor
open Go.ChangeShapes Go.WideShapes Go.ChangeAt Go.RowKit
open Go.ChangeMaps (open_string shut_string)

theorem own : ownKnob Tryd.prog.godebug = none := by kernel_rfl
theorem prog_laid : laidOutB Tryd.prog = true := by kernel_rfl
theorem prog_maps : mapsRowed Tryd.prog = true := by kernel_rfl
theorem prog_slices : ((List.range Tryd.prog.types.size).all fun t => match Tryd.prog.underlying t with | some (.slice e) => decide (0 < Tryd.prog.cellsOf e) | _ => true) = true := by kernel_rfl

theorem trodAll_carry {H : Type} {enc : TypeId × Value → H} {P : Program} {w w' : World} {base : Nat} {spare : Nat → Bool} {held : Bool} : ∀ {ts : List TypeId} {vs : List Value} {ds : List (DataW H)} {ps : List MemPlace}, DataW.TrodAll enc P w base spare held ts vs ds ps → (∀ p ∈ ps, w.sameAt w' p) → DataW.TrodAll enc P w' base spare held ts vs ds ps
  | [], [], [], _, h, _ => h
  | _ :: _, _ :: _, _ :: _, _, ⟨p, q, ⟨n, h1⟩, h2, e⟩, hs => ⟨p, q, ⟨n, DataW.trod_carry n _ _ _ h1 (fun x hx => hs x (by rw [e]; exact List.mem_append_left _ hx))⟩, trodAll_carry h2 (fun x hx => hs x (by rw [e]; exact List.mem_append_right _ hx)), e⟩

set_option maxRecDepth 100000 in
/-- The arguments read again as they did. -/
theorem args_again {H : Type} {enc : TypeId × Value → H} {W W' : World} (hb : Below W.heap.size W W') {ts : List TypeId} {vs : List Value} {ds : List (DataW H)} {ps : List MemPlace} (ht : ∀ t ∈ ts, t < Tryd.prog.types.size) (h : DataW.TrodAll enc Tryd.prog W 0 (fun _ => true) true ts vs ds ps) :
    DataW.TrodAll enc Tryd.prog W' 0 (fun b => decide (b < W.heap.size)) true ts vs ds ps := by
  have hlt := DataW.TrodAll.lt h
  refine trodAll_carry (DataW.TrodAll.respare (kids_rows prog_laid prog_maps) (slices_full_of _ prog_slices) ht h (fun p hp => decide_eq_true (hlt p hp))) (fun p hp => ?_)
  have := hlt p hp
  cases p with
  | cell b off => exact hb.cell (p := ⟨b, off, none⟩) this
  | map b => exact hb.block b this

/-- 'There is an input that fits', at a row that lists variables. -/
theorem witness_row_shaped {H : Type} {enc : TypeId × Value → H} {C : Checked} {os : Os} {f : FuncId} {fn : Func} {s : OpenSpec} {conds : List PathCond} {apart : Bool} {laid : List (String × DataW Unit)} (modest : Bool) (w0 : World) (args : Array Value) (hos : w0.os = os)
    (hsh : (w0.forCall (fun _ _ => 0) ⟨#[], args, []⟩).Shaped C.prog)
    (hok : Input.okWideB C.prog (w0.forCall (fun _ _ => 0) ⟨#[], args, []⟩) f ⟨#[], args, []⟩ = true)
    (hrow : s.preRow enc C.prog fn conds apart laid (w0.forCall (fun _ _ => 0) ⟨#[], args, []⟩).memory args) :
    ∃ (w : World) (tape : Tape) (i : Input), w.os = os ∧ (w.forCall tape i).Shaped C.prog ∧ i.vars = [] ∧ Input.okWide C.prog (w.forCall tape i) .any w.heap.size f i ∧
      s.preRow enc C.prog fn conds apart laid (w.forCall tape i).memory i.args ∧ ({ modest := modest } : Assume).holds C.prog (lone (Frame.enter C.prog f i.args .normal) [] (w.forCall tape i)) :=
  ⟨w0, fun _ _ => 0, ⟨#[], args, []⟩, hos, hsh, (Input.okWide_of_okWideB (base := 0) hok).1, (Input.okWide_of_okWideB hok).2, hrow, by
    simp only [Assume.holds]
    exact ⟨by simp, by simp, fun _ => Modest.zero, by simp, by simp⟩⟩

/-- The bound: a part is at most the whole. -/
theorem bulk_pos {H : Type} (d : DataW H) : 1 ≤ Rows.uptoBulk d := by
  cases d with
  | lit l => cases l <;> simp [Rows.uptoBulk]
  | nil => simp [Rows.uptoBulk]
  | ptr d => simp [Rows.uptoBulk]
  | slice elems spare => simp [Rows.uptoBulk]
  | agg parts => simp [Rows.uptoBulk]
  | iface t d => simp [Rows.uptoBulk]
  | map entries => simp [Rows.uptoBulk]
  | held h => simp [Rows.uptoBulk]
theorem bulk_length {H : Type} (l : List (DataW H)) : l.length ≤ Rows.uptoBulkAll l := by
  induction l with
  | nil => simp [Rows.uptoBulkAll]
  | cons d r ih => simp only [Rows.uptoBulkAll, List.length_cons]; have := bulk_pos d; omega
theorem bulk_le {H : Type} {ds : List (DataW H)} (h : Rows.uptoSmall H ds = true) : Rows.uptoBulkAll ds ≤ 1048576 := of_decide_eq_true h

theorem spot_none {w : World} {a : Addr} {v : Value} (h : w.cell? a = some v) : a = ⟨a.block, a.off, none⟩ := by
  obtain ⟨b, o, s⟩ := a
  cases s with
  | none => rfl
  | some k =>
    unfold World.cell? at h
    split at h
    · simp at h
    · cases h
theorem cell_lt {w : World} {a : Addr} {v : Value} (h : w.cell? a = some v) : a.block < w.heap.size := by
  unfold World.cell? at h
  split at h
  · rename_i h1; exact (Array.getElem?_eq_some_iff.1 h1).1
  · cases h
set_option maxRecDepth 100000 in
/-- A slice of strings that came in reads as texts. -/
theorem open_texts {H : Type} {enc : TypeId × Value → H} {W : World} {base : Nat} {v : Value} {d : DataW H} {ps : List MemPlace} (hv : Value.okWide Tryd.prog W .any base 32 v) (h : DataW.Trod enc Tryd.prog W 0 (fun _ => true) true 32 v d ps) :
    ∃ texts : List ByteArray, TextsRd W v texts ∧ texts.length ≤ Rows.uptoBulk d := by
  obtain ⟨a, len, cap, rfl⟩ := okWide_slice Tryd.underlying32 hv
  obtain ⟨n, hn⟩ := h
  rcases Deep.open_strs Tryd.underlying32 Tryd.underlying9 (by kernel_rfl) hn with ⟨h1, h2⟩ | ⟨a, len, cap, m, Sx, h1, _, hl, hm, hmm, h2, hx⟩
  · simp [Value.cells] at h1
    obtain ⟨rfl, rfl, rfl⟩ := h1
    exact ⟨[], ⟨none, 0, rfl, fun h => by simp at h⟩, Nat.zero_le _⟩
  · simp [Value.cells] at h1
    obtain ⟨rfl, rfl, rfl⟩ := h1
    simp at hmm
    subst hmm
    refine ⟨(List.range len).map Sx, ⟨some a, m, by simp, fun hp => ?_⟩, ?_⟩
    · simp at hp
      have h0 := (hx 0 (by omega)).1
      rw [show a.add 0 = a from rfl] at h0
      have hs := spot_none h0
      have hlt := cell_lt h0
      rw [hs] at hx ⊢
      refine ⟨by simp [strs], fun g hg => by simp [Value.ownBlock] at hg; subst hg; exact hlt, _, m, by simp, ⟨by simpa using hl, hm⟩, fun j u hu => ⟨a.block, a.off, rfl, ?_⟩⟩
      have hj : j < len := by have := (List.getElem?_eq_some_iff.1 hu).1; simpa [strs] using this
      have hu' : u = .string (Sx j) := by
        rw [strs, List.getElem?_map, List.getElem?_map, List.getElem?_range hj] at hu
        simpa using hu.symm
      rw [hu', ← add_plain]
      exact (hx j (by omega)).1
    · injection h2 with h2 _
      subst h2
      simp only [Rows.uptoBulk]
      have := bulk_length ((List.range len).map fun i => (DataW.lit (Lit.string (Sx i).data.toList) : DataW H))
      simp at this ⊢
      omega
end Go.Proofs.YthaecjhnlpbfnaaDoor
