import Derived.Test.YthaecjhnlpbfnaaDoorMCodeBuild
import Derived.Test.YthaecjhnlpbfnaaDoorMLawOpens
import Derived.Test.YthaecjhnlpbfnaaDoorMCodeCatch
import Derived.Test.YthaecjhnlpbfnaaDoorMRefLight
import Derived.Test.YthaecjhnlpbfnaaDoorMCodeNum
import Derived.Test.YthaecjhnlpbfnaaDoorMOrder
import Derived.Test.YthaecjhnlpbfnaaDoorMRefElem
namespace Go.Proofs.YthaecjhnlpbfnaaDoor
open Go.RowKit

theorem newTable_err {s : List UInt8} {st : Int} (h1 : ¬ (st < 1 ∨ 4 < st)) (h2 : ¬ 8192 < s.length) : (Tm.newTable s st).2 = tableErr s := by
  unfold Tm.newTable tableErr
  rw [if_neg h1, if_neg h2]
  split <;> rename_i h <;> rw [h]

theorem together_zero {lns : List Tm.Ln} (h : (Tm.together lns).2 = 0) : (Tm.together lns).1 = 0 := by
  unfold Tm.together at h ⊢
  split <;> rename_i h1 <;> rw [h1] at h <;> simp only at h ⊢
  · exact absurd h (by decide)
  · split <;> rename_i h2 <;> rw [h2] at h <;> simp only at h ⊢
    · exact absurd h (by decide)
    · split <;> rename_i h3 <;> rw [h3] at h <;> simp only at h ⊢
      exact absurd h (by decide)
/-- What is said of a collator of the program's: where it is one, it lies whole from B on, and holds what the table says. -/
def CollSaid (s : ByteArray) (st : Int) (sh : Bool) (B : Nat) (c : Option Addr) (w : World) : Prop :=
  ∀ a, c = some a → ∃ bc bm lns, a = ⟨bc, 0, none⟩ ∧ CollOwn w B bc bm st sh lns ∧ Tm.newTable s.data.toList st = (lns, 0, 0)
theorem CollSaid.none {s : ByteArray} {st : Int} {sh : Bool} {B : Nat} {w : World} : CollSaid s st sh B none w := fun a h => by cases h
theorem collSaid_stays : Stays CollSaid := fun s st sh B B' c w w' h hB hs hk a ha => by
  obtain ⟨bc, bm, lns, h1, h2, h3⟩ := h a ha
  exact ⟨bc, bm, lns, h1, h2.stays hB hs hk, h3⟩
theorem newTable_read {s : List UInt8} {st : Int} {lns : List Tm.Ln} (h1 : ¬ (st < 1 ∨ 4 < st)) (h2 : ¬ 8192 < s.length) (h : Tm.readLines [] 1 (Tm.split 10 s) = (lns, none)) (h0 : (tableErr s).2 = 0) : Tm.newTable s st = (lns, 0, 0) := by
  have e : (tableErr s).1 = 0 := by
    unfold tableErr at h0 ⊢
    rw [h] at h0 ⊢
    simp only at h0 ⊢
    exact together_zero h0
  unfold Tm.newTable
  unfold tableErr at e h0
  rw [if_neg h1, if_neg h2]
  rw [h] at e h0 ⊢
  simp only at e h0 ⊢
  rw [e, h0]
theorem BuiltAns.said {B : Nat} {s : ByteArray} {st : Int} {sh : Bool} {c : Option Addr} {w' : World} (h : BuiltAns B s st sh c w') (h1 : ¬ (st < 1 ∨ 4 < st)) (h2 : ¬ 8192 < s.data.toList.length) : CollSaid s st sh B c w' := by
  intro a ha
  by_cases h0 : (tableErr s.data.toList).2 = 0
  · obtain ⟨bc, bm, lns, hc, hown, hr⟩ := h.2 h0
    rw [hc] at ha
    injection ha with ha
    exact ⟨bc, bm, lns, ha.symm, hown, newTable_read h1 h2 hr h0⟩
  · rw [h.1 h0] at ha; cases ha

set_option maxRecDepth 100000 in
set_option maxHeartbeats 1000000 in
theorem new_said : NewSaid CollSaid := by
  refine ⟨collSaid_stays, ?_⟩
  intro s st sh w hs
  have hb0 : Below w.heap.size w (w.alloc (.cells #[.int .i64 st, .bool sh] 26)) := (Below.refl _ _).alloc (Nat.le_refl _) _
  have HB0 := hide hb0
  clear hb0
  by_cases h1 : st < 1 ∨ 4 < st
  · have HT := hide (Tm.newTable_option (t := s.data.toList) h1)
    by_cases h0 : st < 1
    · have hd : decide (st < 1) = true := by simpa using h0
      clear h1
      go_enter Tryd.func22, Tryd.ntmps22
      go_wp2
      go_ret3
      refine ⟨none, ?_, ?_, CollSaid.none, HB0.out⟩
      · rw [HT.out]; rfl
      · rw [HT.out]; simp
    · have hd : decide (st < 1) = false := by simpa using h0
      have hd' : decide (4 < st) = true := by simp; omega
      clear h1
      go_enter Tryd.func22, Tryd.ntmps22
      go_wp2
      go_ret3
      refine ⟨none, ?_, ?_, CollSaid.none, HB0.out⟩
      · rw [HT.out]; rfl
      · rw [HT.out]; simp
  · have hd : decide (st < 1) = false := by simp; omega
    have hd' : decide (4 < st) = false := by simp; omega
    by_cases h2 : 8192 < s.data.toList.length
    · have HT := hide (Tm.newTable_long (t := s.data.toList) h1 h2)
      have hl : decide (8192 < (s.size : Int)) = true := by rw [len_bytes] at h2; simp; omega
      clear h1 h2
      go_enter Tryd.func22, Tryd.ntmps22
      go_wp2
      go_ret3
      refine ⟨none, ?_, ?_, CollSaid.none, HB0.out⟩
      · rw [HT.out]; rfl
      · rw [HT.out]; simp
    · have HT := hide (newTable_err h1 h2)
      have HBA : Hid (∀ {B : Nat} {c : Option Addr} {w' : World}, BuiltAns B s st sh c w' → CollSaid s st sh B c w') := fun h => h.said h1 h2
      have hl : decide (8192 < (s.size : Int)) = false := by rw [len_bytes] at h2; simp; omega
      have hsz : s.size ≤ 8192 := by rw [len_bytes] at h2; omega
      clear h1 h2
      go_enter Tryd.func22, Tryd.ntmps22
      go_wp2_with fail
      refine (build_any s st sh _ hsz).mono ?_
      rintro e w1 ⟨c, rfl, hans, hb1⟩
      have hc : c = none ↔ (tableErr s.data.toList).2 ≠ 0 := by
        constructor
        · intro h h0
          obtain ⟨bc, bm, lns, hx, _⟩ := hans.2 h0
          rw [hx] at h; cases h
        · exact hans.1
      have HC := hide hc
      have HS : Hid (CollSaid s st sh w.heap.size c w1) := collSaid_stays _ _ _ _ _ _ _ _ (HBA.out hans) (by simp) (Nat.le_refl _) (fun _ _ _ => rfl)
      have HB1 : Hid (Below w.heap.size w w1) := HB0.out.trans (hb1.mono (by simp))
      clear hc hb1 hans
      generalize tableErr s.data.toList = p at *
      obtain ⟨n, q⟩ := p
      simp only at HC
      go_wp2
      go_ret3
      refine ⟨c, ?_, ?_, HS.out, HB1.out⟩
      · rw [HT.out]; rfl
      · rw [HT.out]; exact HC.out
end Go.Proofs.YthaecjhnlpbfnaaDoor
namespace Go.Proofs.YthaecjhnlpbfnaaDoor
open Go.RowKit

set_option maxRecDepth 100000 in
theorem Normal_any (lns : List Tm.Ln) (hfit : ∀ o ∈ lns, Tm.Fit o) (hends : ∀ r, Tm.ends lns 4 r = true) (bc bm : Nat) (s : ByteArray) (w : World) (hc : w.cell? ⟨bc, 0, none⟩ = some (.map (some bm))) (hrd : NodesRd w bm lns) :
    Calls Tryd.prog 29 #[.pointer (some ⟨bc, 0, none⟩), .string s] w fun e w' => normAns lns s w e w' := by
  have HRD := hide hrd
  have HENDS := hide hends
  clear hrd hends
  by_cases hs : s.size ≤ 64
  · have hd : decide (64 < (s.size : Int)) = false := by simp <;> omega
    go_enter Tryd.func29, Tryd.ntmps29
    go_wp2_with fail
    refine (isLong_any s _).mono ?_
    rintro e w0 ⟨rfl, rfl⟩
    rw [hd]
    go_wp2_with fail
    refine (normalForm_any lns hfit HENDS.out bm s _ hs HRD.out).mono ?_
    rintro e w1 ⟨v, rfl, hown, hb⟩
    have HO := hide hown
    have HB := hide hb
    clear hown hb
    go_wp2
    go_ret2
    unfold normAns
    rw [if_pos hs]
    exact ⟨v, rfl, HO.out, HB.out⟩
  · have hd : decide (64 < (s.size : Int)) = true := by simp <;> omega
    go_enter Tryd.func29, Tryd.ntmps29
    go_wp2_with fail
    refine (isLong_any s _).mono ?_
    rintro e w0 ⟨rfl, rfl⟩
    rw [hd]
    go_wp2
    go_ret2
    unfold normAns
    rw [if_neg hs]
    exact ⟨rfl, rfl⟩
end Go.Proofs.YthaecjhnlpbfnaaDoor
namespace Go.Proofs.YthaecjhnlpbfnaaDoor
open Go.RowKit

set_option maxRecDepth 100000 in
set_option maxHeartbeats 1000000 in
theorem keepSame_any (va vb : Value) (la lb : List Int) (w : World) (ha : Reads w va 1 la.length (ints la)) (hb : Reads w vb 1 lb.length (ints lb)) (hl : la.length ≤ 1000000) (hl' : lb.length ≤ 1000000) :
    Calls Tryd.prog 39 #[va, vb] w fun e w' => e = .returned (.bool (decide (la = lb))) ∧ ∃ n, w' = w.drewN n := by
  by_cases hlen : la.length = lb.length
  · by_cases h0 : la.length = 0
    · obtain ⟨a, cap, rfl⟩ := ha.shape
      obtain ⟨a', cap', rfl⟩ := hb.shape
      have e1 : la = [] := List.eq_nil_of_length_eq_zero h0
      have e2 : lb = [] := List.eq_nil_of_length_eq_zero (by omega)
      subst e1 e2
      clear ha hb hl hl' hlen h0
      go_enter Tryd.func39, Tryd.ntmps39
      go_wp2
      go_loop [5] (fun i => i = .int .i64 0) (fun _ => 0)
      case atStart => rfl
      case round =>
        subst hrel
        go_wp2
        go_ret
        exact ⟨rfl, 0, rfl⟩
    · obtain ⟨g, off, cap, rfl, _, hc⟩ := ha.form (by rw [ints_length]; omega)
      obtain ⟨g', off', cap', rfl, _, hc'⟩ := hb.form (by rw [ints_length]; omega)
      clear ha hb
      generalize hn : la.length = n at *
      have hcells : ∀ k (h : k < la.length), w.cell? ⟨g, off + k, none⟩ = some (.int .i64 la[k]) := fun k h => hc k _ (ints_get h)
      have hcells' : ∀ k (h : k < lb.length), w.cell? ⟨g', off' + k, none⟩ = some (.int .i64 lb[k]) := fun k h => hc' k _ (ints_get h)
      have HN := hide hn
      have HC := hide hcells
      have HC' := hide hcells'
      have HL := hide hlen
      rw [← hlen]
      clear hc hc' hcells hcells' hn hlen hl'
      go_enter Tryd.func39, Tryd.ntmps39
      go_wp2
      go_loopw [5] (fun i wr => ∃ k : Nat, k ≤ n ∧ i = .int .i64 k ∧ sameTo la lb k ∧ ∃ q, wr = w.drewN q) (fun i _ => n - (intOf i).toNat)
      case atStart => exact ⟨0, Nat.zero_le _, rfl, rfl, 0, rfl⟩
      case round =>
        obtain ⟨k, hk, rfl, hsame, q, rfl⟩ := hrel
        by_cases hlt : k < n
        · have hka : k < la.length := by rw [HN.out]; exact hlt
          have hkb : k < lb.length := by rw [← HL.out]; exact hlt
          have c1 := HC.out k hka
          have c2 := HC'.out k hkb
          have i1 : (0 : Int) ≤ (k : Int) := by omega
          have i2 : (k : Int) < (n : Int) := by omega
          have HE : Hid (∀ h : la[k] = lb[k], sameTo la lb (k + 1)) := fun h => sameTo_step hsame hka hkb h
          have HX : Hid (la[k] ≠ lb[k] → la ≠ lb) := fun h h' => h (by subst h'; rfl)
          generalize la[k] = x at *
          generalize lb[k] = y at *
          clear hsame hka hkb
          go_wp2
          go_quiet (fail)
          cases hxy : (x != y)
          · go_wp2
            go_roundw
            case rel => exact ⟨k + 1, by omega, by go_num, HE.out (by simpa using hxy), _, rfl⟩
            case measure => simp [intOf]; omega
          · go_wp2
            go_ret
            exact ⟨ret_bool (by simp [HX.out (by simpa using hxy)]), q + nq, by simp⟩
        · have HE := hide (sameTo_all hsame (by rw [HN.out]; omega) (by rw [← HL.out]; omega))
          clear hsame
          go_wp2
          go_ret
          exact ⟨ret_bool (by simp [HE.out]), q, rfl⟩
  · obtain ⟨a, cap, rfl⟩ := ha.shape
    obtain ⟨a', cap', rfl⟩ := hb.shape
    have hne : ((la.length : Int) != (lb.length : Int)) = true := by rw [bne_iff_ne]; omega
    have HE : Hid (la ≠ lb) := fun h => hlen (by rw [h])
    clear ha hb
    go_enter Tryd.func39, Tryd.ntmps39
    go_wp2
    go_ret
    exact ⟨ret_bool (by simp [HE.out]), 0, rfl⟩
end Go.Proofs.YthaecjhnlpbfnaaDoor
namespace Go.Proofs.YthaecjhnlpbfnaaDoor
open Go.RowKit

theorem bytesLess_eq : ∀ (a b : List UInt8), Op.bytesLess a b = Tm.lessB a b
  | [], [] => rfl
  | [], _ :: _ => rfl
  | _ :: _, [] => rfl
  | a :: x, b :: y => by
    rw [Op.bytesLess, Tm.lessB, bytesLess_eq x y]
    by_cases h1 : a < b
    · simp [h1]
    · by_cases h2 : b < a
      · have : a ≠ b := fun h => by subst h; exact h1 h2
        simp [h1, h2, this]
      · have : a = b := UInt8.le_antisymm (UInt8.not_lt.1 h2) (UInt8.not_lt.1 h1)
        subst this
        simp [UInt8.lt_irrefl]
theorem lessB_asymm : ∀ {a b : List UInt8}, Tm.lessB a b = true → Tm.lessB b a = false
  | [], [], h => by simp [Tm.lessB] at h
  | [], _ :: _, _ => rfl
  | _ :: _, [], h => by simp [Tm.lessB] at h
  | a :: x, b :: y, h => by
    unfold Tm.lessB at h ⊢
    by_cases h1 : a < b
    · rw [if_neg (UInt8.not_lt.2 (UInt8.le_of_lt h1)), if_pos h1]
    · rw [if_neg h1] at h
      by_cases h2 : b < a
      · rw [if_pos h2] at h; cases h
      · rw [if_neg h2] at h
        rw [if_neg h2, if_neg h1]
        exact lessB_asymm h
theorem lessB_none : ∀ {a b : List UInt8}, Tm.lessB a b = false → Tm.lessB b a = false → a = b
  | [], [], _, _ => rfl
  | [], _ :: _, h, _ => by simp [Tm.lessB] at h
  | _ :: _, [], _, h => by simp [Tm.lessB] at h
  | a :: x, b :: y, h, k => by
    unfold Tm.lessB at h k
    by_cases h1 : a < b
    · rw [if_pos h1] at h; cases h
    · rw [if_neg h1] at h
      by_cases h2 : b < a
      · rw [if_pos h2] at k; cases k
      · rw [if_neg h2] at h
        rw [if_neg h2, if_neg h1] at k
        have : a = b := UInt8.le_antisymm (UInt8.not_lt.1 h2) (UInt8.not_lt.1 h1)
        rw [this, lessB_none h k]

/-- Which of n things. -/
def pickN (c n : Int) : Int := if c < 0 then (-(c + 1)) % n else c % n
theorem pickN_range {c n : Int} (hn : 0 < n) : 0 ≤ pickN c n ∧ pickN c n < n := by
  unfold pickN
  split
  · exact ⟨Int.emod_nonneg _ (by omega), Int.emod_lt_of_pos _ hn⟩
  · exact ⟨Int.emod_nonneg _ (by omega), Int.emod_lt_of_pos _ hn⟩

set_option maxRecDepth 100000 in
set_option maxHeartbeats 1000000 in
theorem pick_any (c n : Int) (w : World) (hc : -9223372036854775808 ≤ c ∧ c ≤ 9223372036854775807) (hn : 0 < n ∧ n ≤ 1000000) :
    Calls Tryd.prog 18 #[.int .i64 c, .int .i64 n] w fun e w' => e = .returned (.int .i64 (pickN c n)) ∧ w' = w := by
  obtain ⟨hc1, hc2⟩ := hc
  obtain ⟨hn1, hn2⟩ := hn
  have hn0 : (n == 0) = false := by simp; omega
  have hn9 : (n == -1) = false := by simp; omega
  by_cases h : c < 0
  · have HP : Hid (pickN c n = (-(c + 1)).tmod n) := by unfold Hid pickN; rw [if_pos h, Int.tmod_eq_emod_of_nonneg (by omega)]
    go_enter Tryd.func18, Tryd.ntmps18
    go_wp2
    go_ret
    exact ⟨ret_int (by rw [HP.out, Int.neg_tmod]), rfl⟩
  · have HP : Hid (pickN c n = c.tmod n) := by unfold Hid pickN; rw [if_neg h, Int.tmod_eq_emod_of_nonneg (by omega)]
    go_enter Tryd.func18, Tryd.ntmps18
    go_wp2
    go_ret
    exact ⟨ret_int (by rw [HP.out, Int.tmod_eq_emod_of_nonneg h]), rfl⟩

/-- A text that is not too long. -/
def cutB (s : ByteArray) : ByteArray := if 64 < s.size then s.extract 0 64 else s
theorem cutB_size (s : ByteArray) : (cutB s).size ≤ 64 := by
  unfold cutB
  split
  · simp [ByteArray.size_extract]; omega
  · omega
set_option maxRecDepth 100000 in
set_option maxHeartbeats 1000000 in
theorem cut_any (s : ByteArray) (w : World) : Calls Tryd.prog 16 #[.string s] w fun e w' => e = .returned (.string (cutB s)) ∧ w' = w := by
  by_cases h : 64 < s.size
  · have hd : decide (64 < (s.size : Int)) = true := by simp; omega
    have hc : cutB s = s.extract 0 64 := by unfold cutB; rw [if_pos h]
    have HC := hide hc
    clear hc
    go_enter Tryd.func16, Tryd.ntmps16
    go_wp2
    go_ret
    exact ⟨by rw [HC.out]; rfl, rfl⟩
  · have hd : decide (64 < (s.size : Int)) = false := by simp; omega
    have HC : Hid (cutB s = s) := by unfold Hid cutB; rw [if_neg h]
    go_enter Tryd.func16, Tryd.ntmps16
    go_wp2
    go_ret
    exact ⟨by rw [HC.out]; rfl, rfl⟩

set_option maxRecDepth 100000 in
set_option maxHeartbeats 1000000 in
theorem keepSign_any (a b : ByteArray) (w : World) : Calls Tryd.prog 38 #[.string a, .string b] w fun e w' => e = .returned (.int .i64 (Tm.cmpB a.data.toList b.data.toList)) ∧ w' = w := by
  have HL : Hid (Tm.lessB a.data.toList b.data.toList = Op.bytesLess a.toList b.toList) := by unfold Hid; rw [bytesLess_eq, Go.ByteArray.toList_eq, Go.ByteArray.toList_eq]
  have HG : Hid (Tm.lessB a.data.toList b.data.toList = false → Tm.lessB b.data.toList a.data.toList = !(a.toList == b.toList)) := by
    intro h
    rw [← Go.ByteArray.toList_eq, ← Go.ByteArray.toList_eq] at h ⊢
    cases h2 : Tm.lessB b.toList a.toList
    · have := lessB_none h h2
      simp [this]
    · have : a.toList ≠ b.toList := fun e => by rw [e, Tm.lessB_self] at h2; cases h2
      simp [this]
  have HC : Hid (Tm.cmpB a.data.toList b.data.toList = if Tm.lessB a.data.toList b.data.toList then -1 else if Tm.lessB b.data.toList a.data.toList then 1 else 0) := rfl
  cases h1 : Op.bytesLess a.toList b.toList
  · have HG' := hide (HG.out (by rw [HL.out, h1]))
    cases h2 : (a.toList == b.toList)
    · go_enter Tryd.func38, Tryd.ntmps38
      go_wp2
      go_ret
      exact ⟨ret_int (by rw [HC.out, HG'.out, HL.out, h1, h2]; rfl), rfl⟩
    · go_enter Tryd.func38, Tryd.ntmps38
      go_wp2
      go_ret
      exact ⟨ret_int (by rw [HC.out, HG'.out, HL.out, h1, h2]; rfl), rfl⟩
  · go_enter Tryd.func38, Tryd.ntmps38
    go_wp2
    go_ret
    exact ⟨ret_int (by rw [HC.out, HL.out, h1]; rfl), rfl⟩
end Go.Proofs.YthaecjhnlpbfnaaDoor
/-
  Plain facts for the reference's Normal: its steps end, its passes end, and what they come to.
-/
namespace Go.Proofs.YthaecjhnlpbfnaaDoor
open Go.RowKit
namespace Tm

theorem ends_all {lns : List Ln} (h : (together lns).2 = 0) (r : Int) : ends lns 4 r = true := by
  by_cases h0 : (parts lns r).length = 0
  · exact ends_leaf h0
  unfold parts at h0
  cases hf : lns.find? (isParts r) with
  | none => rw [hf] at h0; simp at h0
  | some o =>
    have hm := List.mem_of_find?_eq_some hf
    have hp := List.find?_some hf
    simp only [isParts, Bool.and_eq_true, decide_eq_true_eq, beq_iff_eq] at hp
    have hb : lns.find? (badLoop lns) = none := by
      cases hb : lns.find? (badLoop lns) with
      | none => rfl
      | some q => unfold together at h; rw [hb] at h; simp at h
    have h1 := List.find?_eq_none.1 hb o hm
    rw [badLoop_ends, hp.1, hp.2] at h1
    simpa using h1

theorem leaf_of {lns : List Ln} {l : List Int} (h : hasParts lns l = false) {x : Int} (hx : x ∈ l) : (parts lns x).length = 0 := by
  unfold hasParts at h
  have := (List.any_eq_false.1 h) x hx
  simpa using this
theorem step_stop {lns : List Ln} : ∀ {l : List Int}, hasParts lns l = false → stepAll lns l = l
  | [], _ => rfl
  | x :: r, h => by
    have h0 := leaf_of h (List.mem_cons_self)
    have hr : hasParts lns r = false := by unfold hasParts at h ⊢; simp only [List.any_cons, Bool.or_eq_false_iff] at h; exact h.2
    have ih := step_stop hr
    unfold stepAll at ih ⊢
    rw [List.flatMap_cons, ih, step1, if_pos h0]; rfl
theorem flat_leaf {lns : List Ln} {n : Nat} : ∀ {l : List Int}, hasParts lns l = false → l.flatMap (expand lns n) = l
  | [], _ => rfl
  | x :: r, h => by
    have h0 := leaf_of h (List.mem_cons_self)
    have hr : hasParts lns r = false := by unfold hasParts at h ⊢; simp only [List.any_cons, Bool.or_eq_false_iff] at h; exact h.2
    rw [List.flatMap_cons, flat_leaf hr, expand_leaf h0]; rfl
theorem ends_zero {lns : List Ln} {l : List Int} (h : l.all (ends lns 0) = true) : hasParts lns l = false := by
  unfold hasParts
  rw [List.any_eq_false]
  intro x hx
  have := (List.all_eq_true.1 h) x hx
  simpa [ends] using this
theorem step_down {lns : List Ln} {n : Nat} : ∀ {l : List Int}, l.all (ends lns (n + 1)) = true → (stepAll lns l).all (ends lns n) = true ∧ (stepAll lns l).flatMap (expand lns n) = l.flatMap (expand lns (n + 1))
  | [], _ => ⟨rfl, rfl⟩
  | x :: r, h => by
    simp only [List.all_cons, Bool.and_eq_true] at h
    have ih := step_down h.2
    unfold stepAll at ih ⊢
    rw [List.flatMap_cons, List.all_append, List.flatMap_append, List.flatMap_cons, ih.1, ih.2]
    by_cases h0 : (parts lns x).length = 0
    · rw [step1, if_pos h0]
      have e := ends_leaf (n := n) h0
      refine ⟨by simp [e], ?_⟩
      rw [expand_leaf (n := n + 1) h0]
      simp [expand_leaf (n := n) h0]
    · rw [step1, if_neg h0]
      have h1 := h.1
      rw [ends] at h1
      have h2 : (parts lns x).all (ends lns n) = true := by simpa [h0] using h1
      refine ⟨by rw [h2]; rfl, ?_⟩
      rw [expand_part h0]
theorem expand_pos {lns : List Ln} : ∀ (n : Nat) (x : Int), 1 ≤ (expand lns n x).length
  | 0, x => Nat.le_refl _
  | n + 1, x => by
    rw [expand]
    split
    · exact Nat.le_refl _
    · rename_i h
      cases hp : parts lns x with
      | nil => rw [hp] at h; simp at h
      | cons y t => have := expand_pos (lns := lns) n y; rw [List.flatMap_cons, List.length_append]; omega
theorem flat_long {lns : List Ln} (n : Nat) (l : List Int) : l.length ≤ (l.flatMap (expand lns n)).length := by
  induction l with
  | nil => simp
  | cons x r ih => have := expand_pos (lns := lns) n x; rw [List.flatMap_cons, List.length_append, List.length_cons]; omega

/-- How many steps there are below these runes. -/
def depth (lns : List Ln) (l : List Int) : Nat :=
  if l.all (ends lns 0) then 0 else if l.all (ends lns 1) then 1 else if l.all (ends lns 2) then 2 else if l.all (ends lns 3) then 3 else 4
theorem depth_le {lns : List Ln} {l : List Int} {n : Nat} (h : l.all (ends lns n) = true) (hn : n ≤ 4) : depth lns l ≤ n := by
  rcases (by omega : n = 0 ∨ n = 1 ∨ n = 2 ∨ n = 3 ∨ n = 4) with rfl | rfl | rfl | rfl | rfl <;> unfold depth <;> repeat' split
  all_goals first | omega | contradiction
theorem depth_all {lns : List Ln} {l : List Int} {n : Nat} (h : l.all (ends lns n) = true) (hn : n ≤ 4) : l.all (ends lns (depth lns l)) = true ∧ depth lns l ≤ 4 := by
  have h4 : l.all (ends lns 4) = true ∨ n ≤ 3 := by
    by_cases e : n = 4
    · subst e; exact .inl h
    · exact .inr (by omega)
  unfold depth
  repeat' split
  all_goals first
    | exact ⟨by assumption, by omega⟩
    | (rcases h4 with h4 | h4
       · exact ⟨h4, Nat.le_refl _⟩
       · rcases (by omega : n = 0 ∨ n = 1 ∨ n = 2 ∨ n = 3) with rfl | rfl | rfl | rfl <;> contradiction)
/-- A step where one has parts: less is left, and what they come to is the same. -/
theorem depth_step {lns : List Ln} {l E : List Int} {n : Nat} (h : l.all (ends lns n) = true) (hn : n ≤ 4) (hE : l.flatMap (expand lns n) = E) (hp : hasParts lns l = true) :
    ∃ m, m ≤ 4 ∧ (stepAll lns l).all (ends lns m) = true ∧ (stepAll lns l).flatMap (expand lns m) = E := by
  cases n with
  | zero => rw [ends_zero h] at hp; cases hp
  | succ n =>
    obtain ⟨h1, h2⟩ := step_down h
    exact ⟨n, by omega, h1, h2.trans hE⟩
theorem depth_less {lns : List Ln} {l : List Int} {n : Nat} (h : l.all (ends lns n) = true) (hn : n ≤ 4) (hp : hasParts lns l = true) : depth lns (stepAll lns l) < depth lns l := by
  obtain ⟨h1, h2⟩ := depth_all h hn
  obtain ⟨d, hd⟩ : ∃ d, depth lns l = d := ⟨_, rfl⟩
  rw [hd] at h1 h2 ⊢
  cases d with
  | zero => rw [ends_zero h1] at hp; cases hp
  | succ d => have := depth_le (step_down h1).1 (by omega); omega

/-- How many stand in the wrong order. -/
def inv (k : Int → Int) : List Int → Nat
  | [] => 0
  | x :: r => r.countP (fun y => decide (k y ≠ 0 ∧ k y < k x)) + inv k r
theorem inv_swap {k : Int → Int} {a b : Int} (hb : k b ≠ 0) (hab : k b < k a) : ∀ (p q : List Int), inv k (p ++ a :: b :: q) = inv k (p ++ b :: a :: q) + 1
  | [], q => by
    simp only [List.nil_append, inv, List.countP_cons]
    have e1 : decide (k b ≠ 0 ∧ k b < k a) = true := by simp [hb, hab]
    have e2 : decide (k a ≠ 0 ∧ k a < k b) = false := by simp; omega
    rw [e1, e2]; simp; omega
  | x :: p, q => by
    simp only [List.cons_append, inv]
    rw [inv_swap hb hab p q]
    have hp : (p ++ a :: b :: q).Perm (p ++ b :: a :: q) := List.Perm.append_left p (List.Perm.swap b a q)
    rw [hp.countP_eq]; omega
/-- Are these two in the wrong order? -/
def wrong (k : Int → Int) (a b : Int) : Bool := decide (k b ≠ 0 ∧ k b < k a)
theorem calm_of {k : Int → Int} : ∀ {l : List Int}, (∀ j, j + 1 < l.length → wrong k (l.getD j 0) (l.getD (j + 1) 0) = false) → Calm k l
  | [], _ => trivial
  | [_], _ => trivial
  | a :: b :: r, h => by
    refine ⟨by have := h 0 (by simp); simpa [wrong] using this, calm_of fun j hj => ?_⟩
    have := h (j + 1) (by simp at hj ⊢; omega)
    simpa using this
end Tm

/-- Reads of one slice are the same. -/
theorem Reads.one {w : World} {v : Value} {l l' : List Int} (h : Reads w v 1 l.length (ints l)) (h' : Reads w v 1 l'.length (ints l')) : l = l' := by
  obtain ⟨a, cap, rfl⟩ := h.shape
  have hl := h'.fits.1
  refine List.ext_getElem hl fun k h1 h2 => ?_
  obtain ⟨g, off, ha, _, c⟩ := h.at h1
  obtain ⟨g', off', ha', _, c'⟩ := h'.at h2
  rw [ha] at ha'
  cases ha'
  rw [c] at c'
  simpa using c'
open Classical in
/-- The numbers that a slice reads as. -/
noncomputable def listOf (w : World) (v : Value) : List Int := if h : ∃ l : List Int, Reads w v 1 l.length (ints l) then h.choose else []
theorem listOf_eq {w : World} {v : Value} {l : List Int} (h : Reads w v 1 l.length (ints l)) : listOf w v = l := by
  have hx : ∃ l : List Int, Reads w v 1 l.length (ints l) := ⟨l, h⟩
  unfold listOf
  rw [dif_pos hx]
  exact Reads.one hx.choose_spec h
end Go.Proofs.YthaecjhnlpbfnaaDoor
namespace Go.Proofs.YthaecjhnlpbfnaaDoor

theorem newTable_ends {s : List UInt8} {st : Int} {lns : List Tm.Ln} (h : Tm.newTable s st = (lns, 0, 0)) (r : Int) : Tm.ends lns 4 r = true := by
  refine Tm.ends_all ?_ r
  unfold Tm.newTable at h
  split at h
  · simp at h
  · split at h
    · simp at h
    · split at h
      · rename_i n e heq
        simp at h
        exact absurd h.2.2 (readLines_err _ _ _ _ _ _ heq)
      · rename_i heq
        injection h with h1 h2
        subst h1
        exact congrArg Prod.snd h2
end Go.Proofs.YthaecjhnlpbfnaaDoor
