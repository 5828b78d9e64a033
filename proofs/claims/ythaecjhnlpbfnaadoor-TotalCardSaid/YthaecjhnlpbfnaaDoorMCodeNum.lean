import Derived.Test.YthaecjhnlpbfnaaDoorRows
import Derived.WalkKit
import Derived.WalkSpells
import Derived.WalkLawsBesides
import Derived.BigGuardPart
import Derived.Test.YthaecjhnlpbfnaaDoorMStand
import Derived.Test.YthaecjhnlpbfnaaDoorMPlain
/-
  The tables of the statements without the document's answer, plainly: each of the 256 is one, and weighs the first letters alike.
-/
namespace Go.Proofs.YthaecjhnlpbfnaaDoor
namespace Tm
def keepBase : List UInt8 := [35, 32, 108, 101, 116, 116, 101, 114, 115, 10, 119, 32, 54, 49, 32, 61, 32, 49, 48, 46, 50, 48, 46, 50, 10, 119, 32, 54, 50, 32, 61, 32, 49, 49, 46, 50, 48, 46, 50, 10, 119, 32, 54, 51, 32, 61, 32, 49, 50, 46, 50, 48, 46, 50, 10, 119, 32, 54, 52, 32, 61, 32, 49, 51, 46, 50, 48, 46, 50, 32, 49, 52, 46, 50, 48, 46, 50, 10, 10, 119, 32, 52, 49, 32, 61, 32, 49, 48, 46, 50, 48, 46, 56, 10, 119, 32, 50, 100, 32, 61, 32, 42, 51, 46, 50, 48, 46, 50, 10, 119, 32, 51, 48, 49, 32, 61, 32, 48, 46, 50, 52, 46, 50, 10, 119, 32, 51, 50, 51, 32, 61, 32, 48, 46, 50, 97, 46, 50, 10, 99, 32, 51, 48, 49, 32, 101, 54, 10, 99, 32, 51, 50, 51, 32, 100, 99, 10, 100, 32, 101, 49, 32, 54, 49, 32, 51, 48, 49, 10, 100, 32, 49, 101, 97, 49, 32, 54, 49, 32, 51, 50, 51, 10, 100, 32, 101, 50, 32, 101, 49, 32, 51, 50, 51]
def keepMore : List (List UInt8) := [[119, 32, 54, 51, 32, 54, 56, 32, 61, 32, 49, 53, 46, 50, 48, 46, 50],
  [119, 32, 54, 49, 32, 51, 48, 49, 32, 61, 32, 49, 54, 46, 50, 48, 46, 50],
  [119, 32, 54, 49, 32, 51, 50, 51, 32, 61, 32, 49, 55, 46, 50, 48, 46, 50, 10, 119, 32, 54, 49, 32, 51, 50, 51, 32, 51, 48, 49, 32, 61, 32, 49, 56, 46, 50, 48, 46, 50],
  [119, 32, 50, 101, 32, 61, 32, 42, 52, 46, 50, 48, 46, 50, 32, 42, 53, 46, 50, 48, 46, 51],
  [119, 32, 51, 48, 48, 32, 61, 32, 48, 46, 48, 46, 53, 10, 99, 32, 51, 48, 48, 32, 101, 54],
  [119, 32, 51, 48, 50, 32, 61, 32, 48, 46, 48, 46, 48, 10, 99, 32, 51, 48, 50, 32, 101, 54],
  [100, 32, 99, 53, 32, 52, 49, 32, 51, 48, 97, 10, 99, 32, 51, 48, 97, 32, 101, 54],
  [119, 32, 48, 32, 61, 32, 48, 46, 48, 46, 48]]
/-- The text behind k of the eight bits of n. -/
def keepText (n : Nat) : Nat → List UInt8
  | 0 => keepBase
  | k + 1 => if n / 2 ^ k % 2 = 1 then keepText n k ++ [10] ++ keepMore.getD k [] else keepText n k
def keepTable (n : Nat) : List UInt8 := keepText n 8
def keepLines (n : Nat) : List Ln := (readLines [] 1 (split 10 (keepTable n))).1
/-- Is it an element of these weights, alone? -/
def sole (p s t : Int) : Option (List El) → Bool
  | some [e] => e.p == p && e.s == s && e.t == t && !e.v
  | _ => false
def keepGood (n : Nat) : Bool := decide ((newTable (keepTable n) 1).2 = (0, 0)) && sole 16 32 2 (seqOf (keepLines n) [97]) && sole 17 32 2 (seqOf (keepLines n) [98]) && decide (parts (keepLines n) 97 = []) && decide (parts (keepLines n) 98 = []) && decide ((keepTable n).length ≤ 8192)
theorem keep_good_a : ((List.range 128).all keepGood) = true := by decide +kernel
theorem keep_good_b : ((List.range 128).all fun n => keepGood (n + 128)) = true := by decide +kernel
end Tm
end Go.Proofs.YthaecjhnlpbfnaaDoor
/-
  What the walks of this family share: small facts on endings, hidden facts, bytes of a string.
-/
namespace Go.Proofs.YthaecjhnlpbfnaaDoor
open Go.RowKit

theorem hide {p : Prop} (h : p) : Hid p := h
theorem ret_int {k : IntKind} {a b : Int} (h : a = b) : Ending.returned (.int k a) = .returned (.int k b) := by rw [h]
theorem len_bytes (s : ByteArray) : s.data.toList.length = s.size := by simp
theorem head_of (s : ByteArray) (h : 0 < s.size) : s.data.toList.head? = some s[0] := by
  have := Tm.drop_cons s 0 h
  simp at this
  rw [this]; rfl
theorem extract_bytes (s : ByteArray) (m k : Nat) : (s.extract m k).data.toList = (s.data.toList.drop m).take (k - m) := by
  simp [ByteArray.data_extract, List.extract_eq_take_drop]
theorem bcell {W w1 : World} (hb : Below W.heap.size W w1) : (∀ b o, b < W.heap.size → w1.cell? ⟨b, o, none⟩ = W.cell? ⟨b, o, none⟩) ∧ (∀ b o, b < W.heap.size → w1.frozen? ⟨b, o, none⟩ = W.frozen? ⟨b, o, none⟩) :=
  ⟨fun b o h => hb.cell (p := ⟨b, o, none⟩) h, fun b o h => hb.frozen (p := ⟨b, o, none⟩) h⟩

/-- A slice value of n elements, 'size' cells each, that reads as the cells xs. -/
def Reads (w : World) (v : Value) (size n : Nat) (xs : List Value) : Prop :=
  xs.length = n * size ∧ (∀ g, v.ownBlock = some g → g < w.heap.size) ∧
  ∃ a cap, v = .slice a n cap ∧ (n ≤ cap ∧ cap ≤ maxLen) ∧ ∀ j u, xs[j]? = some u → ∃ g off, a = some ⟨g, off, none⟩ ∧ w.cell? ⟨g, off + j, none⟩ = some u

theorem Reads.of_owns {w : World} {base : Nat} {e : TypeId} {size : Nat} {v : Value} {n : Nat} {xs : List Value} (h : w.ownsRow base e size v n xs) : Reads w v size n xs := by
  refine ⟨h.1, fun g hg => (h.lt g hg).2, ?_⟩
  have hc := @World.ownsRow.cells _ _ _ _ _ _ _ h
  rcases h.2 with ⟨rfl, rfl⟩ | ⟨g, cap, cur, rfl, _, _, hc1, hc2, _⟩
  · have h0 := h.1
    simp at h0
    subst h0
    exact ⟨none, 0, rfl, ⟨Nat.le_refl _, Nat.zero_le _⟩, by simp⟩
  · refine ⟨_, cap, rfl, ⟨hc1, hc2⟩, fun j u hu => ⟨g, 0, rfl, ?_⟩⟩
    have hx := hc (g := g) rfl j u hu
    have hadd : (⟨g, 0, none⟩ : Addr).add j = ⟨g, 0 + j, none⟩ := by unfold Addr.add; split <;> simp_all
    rw [hadd] at hx
    exact hx

theorem Reads.form {w : World} {v : Value} {size n : Nat} {xs : List Value} (h : Reads w v size n xs) (hn : 0 < xs.length) :
    ∃ g off cap, v = .slice (some ⟨g, off, none⟩) n cap ∧ g < w.heap.size ∧ ∀ j u, xs[j]? = some u → w.cell? ⟨g, off + j, none⟩ = some u := by
  obtain ⟨_, hlt, a, cap, rfl, _, hc⟩ := h
  obtain ⟨g, off, rfl, _⟩ := hc 0 xs[0] (by simp [hn])
  refine ⟨g, off, cap, rfl, hlt g rfl, fun j u hu => ?_⟩
  obtain ⟨g', off', he, hcell⟩ := hc j u hu
  cases he
  exact hcell

theorem Reads.shape {w : World} {v : Value} {size n : Nat} {xs : List Value} (h : Reads w v size n xs) : ∃ a cap, v = .slice a n cap := by
  obtain ⟨_, _, a, cap, rfl, _⟩ := h
  exact ⟨a, cap, rfl⟩

theorem Reads.fits {w : World} {a : Option Addr} {m cap : Nat} {size n : Nat} {xs : List Value} (h : Reads w (.slice a m cap) size n xs) : m = n ∧ n ≤ cap ∧ cap ≤ maxLen := by
  obtain ⟨_, _, a, cap, he, hc, _⟩ := h
  cases he
  exact ⟨rfl, hc⟩

/-- All that is read lies in blocks that are as they were. -/
theorem Reads.of_blocks {w w' : World} {v : Value} {size n : Nat} {xs : List Value} (h : Reads w v size n xs) (hs : w.heap.size ≤ w'.heap.size) (hb : ∀ g, v.ownBlock = some g → w'.heap[g]? = w.heap[g]?) : Reads w' v size n xs := by
  obtain ⟨h1, hlt, a, cap, rfl, hcap, hc⟩ := h
  refine ⟨h1, fun g hg => Nat.lt_of_lt_of_le (hlt g hg) hs, a, cap, rfl, hcap, fun j u hu => ?_⟩
  obtain ⟨g, off, rfl, hcell⟩ := hc j u hu
  refine ⟨g, off, rfl, ?_⟩
  rw [World.cell?_of_block (w := w) (hb g rfl)]
  exact hcell

theorem Reads.below {w w' : World} {v : Value} {size n : Nat} {xs : List Value} (h : Reads w v size n xs) {B : Nat} (hb : Below B w w') (hB : ∀ g, v.ownBlock = some g → g < B) : Reads w' v size n xs :=
  h.of_blocks hb.size (fun g hg => hb.block g (hB g hg))

theorem Reads.kept {w w' : World} {v : Value} {size n : Nat} {xs : List Value} (h : Reads w v size n xs) {row : Option Nat} (hg : w.grownBy w' row) (hne : v.ownBlock = none ∨ v.ownBlock ≠ row) : Reads w' v size n xs := by
  refine h.of_blocks hg.size (fun g hg' => hg.block g (h.2.1 g hg') ?_)
  rw [← hg']
  rcases hne with hne | hne
  · rw [hg'] at hne; cases hne
  · exact hne
end Go.Proofs.YthaecjhnlpbfnaaDoor
namespace Go.Proofs.YthaecjhnlpbfnaaDoor
open Go.RowKit

theorem u8_eq_of {c : UInt8} {n : Nat} (h : ((c.toNat : Int) == (n : Int)) = true) (hn : n < 256) : c = UInt8.ofNat n := by
  have h1 : (c.toNat : Int) = n := by simpa using h
  apply UInt8.toNat_inj.1
  simp; omega
theorem u8_ne_of {c : UInt8} {n : Nat} (h : ((c.toNat : Int) == (n : Int)) = false) (hn : n < 256) : c ≠ UInt8.ofNat n := by
  rintro rfl
  simp at h; omega

theorem num_bad1 (s : ByteArray) (h0 : 0 < s.size) (h1 : 1 < (s.size : Int)) (h2 : ((s[0].toNat : Int) == 48) = true) : Tm.num s.data.toList = -1 := by
  refine Tm.num_bad (.inr (.inr ⟨by rw [len_bytes]; omega, ?_⟩))
  rw [head_of s h0, u8_eq_of (n := 48) h2 (by omega)]; rfl
theorem num_good1 (s : ByteArray) (h0 : 0 < s.size) (h1 : (s.size : Int) ≤ 6) (h2 : ((s[0].toNat : Int) == 48) = false ∨ (s.size : Int) ≤ 1) : Tm.num s.data.toList = Tm.digits s.data.toList 0 := by
  refine Tm.num_good ?_
  rintro (h | h | ⟨h, h'⟩)
  · rw [len_bytes] at h; omega
  · rw [len_bytes] at h; omega
  · rcases h2 with h2 | h2
    · rw [head_of s h0] at h'
      exact u8_ne_of (n := 48) h2 (by omega) (by simpa using h')
    · rw [len_bytes] at h; omega

set_option maxRecDepth 100000 in
set_option maxHeartbeats 1000000 in
theorem number_any (s : ByteArray) (w : World) (hs : s.size ≤ maxLen) :
    Calls Tryd.prog 48 #[.string s] w fun e w' => e = .returned (.int .i64 (Tm.num s.data.toList)) ∧ w' = w := by
  unfold maxLen at hs
  by_cases h1 : (s.size : Int) < 1
  · have HV := hide (Tm.num_bad (l := s.data.toList) (.inl (by rw [len_bytes]; omega)))
    go_enter Tryd.func48, Tryd.ntmps48
    go_wp2
    go_ret
    exact ⟨ret_int HV.out.symm, rfl⟩
  by_cases h6 : 6 < (s.size : Int)
  · have HV := hide (Tm.num_bad (l := s.data.toList) (.inr (.inl (by rw [len_bytes]; omega))))
    go_enter Tryd.func48, Tryd.ntmps48
    go_wp2
    go_ret
    exact ⟨ret_int HV.out.symm, rfl⟩
  have h0 : 0 < s.size := by omega
  by_cases hb : 1 < (s.size : Int) ∧ ((s[0].toNat : Int) == 48) = true
  · have HV := hide (num_bad1 s h0 hb.1 hb.2)
    obtain ⟨h2, h3⟩ := hb
    go_enter Tryd.func48, Tryd.ntmps48
    go_wp2
    go_ret
    exact ⟨ret_int HV.out.symm, rfl⟩
  have hb' : ((s[0].toNat : Int) == 48) = false ∨ (s.size : Int) ≤ 1 := by
    by_cases h : 1 < (s.size : Int)
    · left; simpa [h] using hb
    · right; omega
  have HV := hide (num_good1 s h0 (by omega) hb')
  clear hb
  have hx : (s.size : Int) ≤ 1 ∨ (1 < (s.size : Int) ∧ ((s[0].toNat : Int) == 48) = false) := by
    rcases hb' with h | h
    · by_cases h' : (s.size : Int) ≤ 1
      · exact .inl h'
      · exact .inr ⟨by omega, h⟩
    · exact .inl h
  clear hb'
  rcases hx with h3 | ⟨h3, h4⟩
  all_goals
    go_enter Tryd.func48, Tryd.ntmps48
    go_wp2
    go_loop [3, 4] (fun n i => ∃ k : Nat, k ≤ s.size ∧ i = .int .i64 k ∧ ∃ m : Int, 0 ≤ m ∧ m < 16 ^ k ∧ n = .int .i64 m ∧ Tm.digits (s.data.toList.drop k) m = Tm.digits s.data.toList 0) (fun _ i => s.size - (intOf i).toNat)
    case atStart => exact ⟨0, Nat.zero_le _, rfl, 0, by omega, by omega, rfl, rfl⟩
    case round =>
      obtain ⟨k, hk, rfl, m, hm0, hm1, rfl, hd⟩ := hrel
      by_cases hlt : k < s.size
      · have hc := Tm.drop_cons s k hlt
        rw [hc] at hd
        clear hc
        have hb16 : m < 16777216 := by
          have := Tm.pow16 k (by omega)
          omega
        have hu : (s[k].toNat : Int) < 256 := by have := s[k].toNat_lt; omega
        by_cases hlo : 48 ≤ (s[k].toNat : Int) ∧ (s[k].toNat : Int) ≤ 57
        · rw [Tm.digits_some (Tm.digit_low hlo)] at hd
          have HD := hide hd
          have HP := hide hm1
          obtain ⟨hl1, hl2⟩ := hlo
          clear hd hm1
          go_wp2
          go_round
          case rel => exact ⟨k + 1, by omega, by go_num, 16 * m + ((s[k].toNat : Int) - 48), by omega, by have := HP.out; rw [Int.pow_succ]; omega, by go_num, HD.out⟩
          case measure => simp [intOf]; omega
        by_cases hhi : 97 ≤ (s[k].toNat : Int) ∧ (s[k].toNat : Int) ≤ 102
        · rw [Tm.digits_some (Tm.digit_high hhi)] at hd
          have HD := hide hd
          have HP := hide hm1
          obtain ⟨hl1, hl2⟩ := hhi
          clear hd hm1 hlo
          go_wp2
          go_round
          case rel => exact ⟨k + 1, by omega, by go_num, 16 * m + ((s[k].toNat : Int) - 87), by omega, by have := HP.out; rw [Int.pow_succ]; omega, by go_num, HD.out⟩
          case measure => simp [intOf]; omega
        · rw [Tm.digits_none (Tm.digit_none hlo hhi)] at hd
          have HD := hide hd
          clear hd hm1
          go_wp2
          all_goals go_ret
          all_goals exact ⟨ret_int (by rw [HV.out, ← HD.out]), rfl⟩
      · rw [Tm.drop_all s k (by omega)] at hd
        have HD := hide hd
        clear hd
        go_wp2
        go_ret
        exact ⟨ret_int (by rw [HV.out, ← HD.out]; rfl), rfl⟩
end Go.Proofs.YthaecjhnlpbfnaaDoor
namespace Go.Proofs.YthaecjhnlpbfnaaDoor
open Go.RowKit

/-- A panic that tells an error. -/
def tells (e : Ending) (n : Int) : Prop := e = .panicked [{ v := .iface 33 (.int .i64 n), recovered := false }]

set_option maxRecDepth 100000 in
theorem refuse_no (n : Int) (w : World) : Calls Tryd.prog 87 #[.bool false, .int .i64 n] w fun e w' => e = .returned (.tuple #[]) ∧ w' = w := by
  go_enter Tryd.func87, Tryd.ntmps87
  go_wp2
  go_end0
  exact ⟨rfl, rfl⟩

set_option maxRecDepth 100000 in
theorem refuse_yes (n : Int) (w : World) : Calls Tryd.prog 87 #[.bool true, .int .i64 n] w fun e w' => tells e n ∧ w' = w := by
  go_enter Tryd.func87, Tryd.ntmps87
  go_wp2
  exact ⟨rfl, rfl, rfl⟩

set_option maxRecDepth 100000 in
set_option maxHeartbeats 400000 in
theorem readDigit_some (c : UInt8) (d : Int) (h : Tm.digit c = some d) (w : World) : Calls Tryd.prog 129 #[.int .u8 c.toNat] w fun e w' => e = .returned (.int .i64 d) ∧ w' = w := by
  have hu : (c.toNat : Int) < 256 := by have := c.toNat_lt; omega
  have hu0 : (0 : Int) ≤ (c.toNat : Int) := by omega
  by_cases hlo : 48 ≤ (c.toNat : Int) ∧ (c.toNat : Int) ≤ 57
  · rw [Tm.digit_low hlo] at h
    cases h
    obtain ⟨h1, h2⟩ := hlo
    go_enter Tryd.func129, Tryd.ntmps129
    go_wp2
    go_ret
    exact ⟨ret_int (by omega), rfl⟩
  · by_cases hhi : 97 ≤ (c.toNat : Int) ∧ (c.toNat : Int) ≤ 102
    · rw [Tm.digit_high hhi] at h
      cases h
      obtain ⟨h1, h2⟩ := hhi
      have hd1 : decide (48 ≤ (c.toNat : Int)) = true := by simp; omega
      have hd2 : decide ((c.toNat : Int) ≤ 57) = false := by simp; omega
      clear hlo
      go_enter Tryd.func129, Tryd.ntmps129
      go_wp2
      go_ret
      exact ⟨ret_int (by omega), rfl⟩
    · rw [Tm.digit_none hlo hhi] at h
      cases h

set_option maxRecDepth 100000 in
set_option maxHeartbeats 400000 in
theorem readDigit_none (c : UInt8) (h : Tm.digit c = none) (w : World) : Calls Tryd.prog 129 #[.int .u8 c.toNat] w fun e w' => tells e 1 ∧ w' = w := by
  have hu : (c.toNat : Int) < 256 := by have := c.toNat_lt; omega
  have hlo : ¬ (48 ≤ (c.toNat : Int) ∧ (c.toNat : Int) ≤ 57) := fun h' => by rw [Tm.digit_low h'] at h; cases h
  have hhi : ¬ (97 ≤ (c.toNat : Int) ∧ (c.toNat : Int) ≤ 102) := fun h' => by rw [Tm.digit_high h'] at h; cases h
  clear h
  go_enter Tryd.func129, Tryd.ntmps129
  go_wp2
  all_goals exact ⟨rfl, rfl, rfl⟩

/-- What readNumber answers. -/
def numAns (l : List UInt8) (most : Int) (e : Ending) : Prop := if 0 ≤ Tm.num l ∧ Tm.num l ≤ most then e = .returned (.int .i64 (Tm.num l)) else tells e 1

theorem numAns_bad {l : List UInt8} {most : Int} {e : Ending} (h : Tm.num l = -1) (he : tells e 1) : numAns l most e := by unfold numAns; rw [if_neg (by omega)]; exact he
theorem digits_range : ∀ (l : List UInt8) (n : Int), 0 ≤ n → Tm.digits l n = -1 ∨ 0 ≤ Tm.digits l n
  | [], n, h => .inr h
  | c :: r, n, h => by
    unfold Tm.digits
    cases hd : Tm.digit c with
    | none => exact .inl rfl
    | some d =>
      have h0 : 0 ≤ d := by
        unfold Tm.digit at hd
        split at hd
        · cases hd; omega
        · split at hd
          · cases hd; omega
          · cases hd
      exact digits_range r _ (by omega)

set_option maxRecDepth 100000 in
set_option maxHeartbeats 1000000 in
theorem readNumber_any (s : ByteArray) (most : Int) (w : World) (hs : s.size ≤ maxLen) :
    Calls Tryd.prog 119 #[.string s, .int .i64 most] w fun e w' => numAns s.data.toList most e ∧ w' = w := by
  unfold maxLen at hs
  by_cases h1 : s.size = 0
  · have HV := hide (Tm.num_bad (l := s.data.toList) (.inl (by rw [len_bytes]; omega)))
    have hb : ((s.size : Int) == 0) = true := by rw [beq_iff_eq]; omega
    clear h1
    go_enter Tryd.func119, Tryd.ntmps119
    go_wp2_with (go_at_call 87; refine (refuse_yes 1 _).mono ?_; rintro e w' ⟨rfl, rfl⟩)
    exact ⟨rfl, numAns_bad HV.out rfl, rfl⟩
  have hb1 : ((s.size : Int) == 0) = false := by rw [beq_eq_false_iff_ne]; omega
  by_cases h6 : 6 < s.size
  · have HV := hide (Tm.num_bad (l := s.data.toList) (.inr (.inl (by rw [len_bytes]; omega))))
    have hd : decide (6 < (s.size : Int)) = true := by simp; omega
    go_enter Tryd.func119, Tryd.ntmps119
    go_wp2_with (go_at_call 87; refine (refuse_yes 1 _).mono ?_; rintro e w' ⟨rfl, rfl⟩)
    exact ⟨rfl, numAns_bad HV.out rfl, rfl⟩
  have hd6 : decide (6 < (s.size : Int)) = false := by simp; omega
  have h0 : 0 < s.size := by omega
  by_cases hb : 1 < (s.size : Int) ∧ ((s[0].toNat : Int) == 48) = true
  · have HV := hide (num_bad1 s h0 hb.1 hb.2)
    obtain ⟨h2, h3⟩ := hb
    have hd2 : decide (1 < (s.size : Int)) = true := by simp; omega
    go_enter Tryd.func119, Tryd.ntmps119
    go_wp2_with fail
    refine (refuse_no 1 _).mono ?_
    rintro e w' ⟨rfl, rfl⟩
    go_wp2_with fail
    refine (refuse_yes 1 _).mono ?_
    rintro e w' ⟨rfl, rfl⟩
    go_wp2
    exact ⟨rfl, numAns_bad HV.out rfl, rfl⟩
  have hx : ((s[0].toNat : Int) == 48) = false ∨ (((s[0].toNat : Int) == 48) = true ∧ decide (1 < (s.size : Int)) = false) := by
    cases h : ((s[0].toNat : Int) == 48)
    · exact .inl rfl
    · right
      refine ⟨rfl, ?_⟩
      simp [h] at hb
      simp; omega
  have HV := hide (num_good1 s h0 (by omega) (by
    rcases hx with h | ⟨_, h⟩
    · exact .inl h
    · right; simp at h; omega))
  clear hb
  rcases hx with h3 | ⟨h3, h4⟩
  all_goals
    go_enter Tryd.func119, Tryd.ntmps119
    go_wp2_with fail
    refine (refuse_no 1 _).mono ?_
    rintro e w' ⟨rfl, rfl⟩
    go_wp2_with fail
    refine (refuse_no 1 _).mono ?_
    rintro e w' ⟨rfl, rfl⟩
    go_wp2_with fail
    go_loop [5, 27] (fun n i => ∃ k : Nat, k ≤ s.size ∧ i = .int .i64 k ∧ ∃ m : Int, 0 ≤ m ∧ m < 16 ^ k ∧ n = .int .i64 m ∧ Tm.digits (s.data.toList.drop k) m = Tm.digits s.data.toList 0) (fun _ i => s.size - (intOf i).toNat)
    case atStart => exact ⟨0, Nat.zero_le _, rfl, 0, by omega, by omega, rfl, rfl⟩
    case round =>
      obtain ⟨k, hk, rfl, m, hm0, hm1, rfl, hd⟩ := hrel
      by_cases hlt : k < s.size
      · have hc := Tm.drop_cons s k hlt
        rw [hc] at hd
        clear hc
        have hb16 : m < 16777216 := by
          have := Tm.pow16 k (by omega)
          omega
        cases hdg : Tm.digit s[k] with
        | none =>
          rw [Tm.digits_none hdg] at hd
          have HD := hide hd
          have HG := hide hdg
          clear hd hm1 hdg
          go_wp2_with fail
          refine (readDigit_none _ HG.out _).mono ?_
          rintro e w' ⟨rfl, rfl⟩
          go_wp2
          exact ⟨rfl, numAns_bad (by rw [HV.out, ← HD.out]) rfl, rfl⟩
        | some d =>
          rw [Tm.digits_some hdg] at hd
          have hd15 : 0 ≤ d ∧ d ≤ 15 := by
            unfold Tm.digit at hdg
            split at hdg
            · cases hdg; omega
            · split at hdg
              · cases hdg; omega
              · cases hdg
          obtain ⟨hd0, hd1⟩ := hd15
          have HD := hide hd
          have HG := hide hdg
          have HP := hide hm1
          clear hd hm1 hdg
          go_wp2_with fail
          refine (readDigit_some _ d HG.out _).mono ?_
          rintro e w' ⟨rfl, rfl⟩
          go_wp2
          go_round
          case rel => exact ⟨k + 1, by omega, by go_num, 16 * m + d, by omega, by have := HP.out; rw [Int.pow_succ]; omega, by go_num, HD.out⟩
          case measure => simp [intOf]; omega
      · rw [Tm.drop_all s k (by omega)] at hd
        have HD := hide (HV.out.trans hd.symm)
        clear hd hm1
        by_cases hle : m ≤ most
        · have hdm : decide (most < m) = false := by simp; omega
          go_wp2_with fail
          refine (refuse_no 1 _).mono ?_
          rintro e w' ⟨rfl, rfl⟩
          go_wp2
          go_ret
          refine ⟨?_, rfl⟩
          have e1 : Tm.num s.data.toList = m := HD.out
          unfold numAns
          rw [e1, if_pos ⟨hm0, hle⟩]; rfl
        · have hdm : decide (most < m) = true := by simp; omega
          go_wp2_with fail
          refine (refuse_yes 1 _).mono ?_
          rintro e w' ⟨rfl, rfl⟩
          go_wp2
          refine ⟨rfl, ?_, rfl⟩
          have e1 : Tm.num s.data.toList = m := HD.out
          unfold numAns
          rw [e1, if_neg (by omega)]; rfl
end Go.Proofs.YthaecjhnlpbfnaaDoor
