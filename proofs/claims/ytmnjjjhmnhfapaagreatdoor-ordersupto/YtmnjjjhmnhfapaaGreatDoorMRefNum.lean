import Derived.Test.YtmnjjjhmnhfapaaGreatDoorRows
import Derived.WalkKit
import Derived.WalkSpells
import Derived.WalkLawsBesides
import Derived.Test.YtmnjjjhmnhfapaaGreatDoorMPlain
/-
  What the walks of this family share: small facts on endings, hidden facts, bytes of a string.
-/
namespace Go.Proofs.YtmnjjjhmnhfapaaGreatDoor
open Go.RowKit

theorem hide {p : Prop} (h : p) : Hid p := h
theorem ret_int {k : IntKind} {a b : Int} (h : a = b) : Ending.returned (.int k a) = .returned (.int k b) := by rw [h]
theorem len_bytes (s : ByteArray) : s.data.toList.length = s.size := by simp
theorem head_of (s : ByteArray) (h : 0 < s.size) : s.data.toList.head? = some s[0] := by
  have := Tm.drop_cons s 0 h
  simp at this
  rw [this]; rfl
theorem extract_bytes (s : ByteArray) (m k : Nat) : (s.extract m k).data.toList = (s.data.toList.drop m).take (k - m) := by
  simp [ByteArray.data_extract, List.extract_eq_take_drop]
theorem bcell {W w1 : World} (hb : Below W.heap.size W w1) : (∀ b o, b < W.heap.size → w1.cell? ⟨b, o, none⟩ = W.cell? ⟨b, o, none⟩) ∧ (∀ b o, b < W.heap.size → w1.frozen? ⟨b, o, none⟩ = W.frozen? ⟨b, o, none⟩) :=
  ⟨fun b o h => hb.cell (p := ⟨b, o, none⟩) h, fun b o h => hb.frozen (p := ⟨b, o, none⟩) h⟩

/-- A slice value of n elements, 'size' cells each, that reads as the cells xs. -/
def Reads (w : World) (v : Value) (size n : Nat) (xs : List Value) : Prop :=
  xs.length = n * size ∧ (∀ g, v.ownBlock = some g → g < w.heap.size) ∧
  ∃ a cap, v = .slice a n cap ∧ (n ≤ cap ∧ cap ≤ maxLen) ∧ ∀ j u, xs[j]? = some u → ∃ g off, a = some ⟨g, off, none⟩ ∧ w.cell? ⟨g, off + j, none⟩ = some u

theorem Reads.of_owns {w : World} {base : Nat} {e : TypeId} {size : Nat} {v : Value} {n : Nat} {xs : List Value} (h : w.ownsRow base e size v n xs) : Reads w v size n xs := by
  refine ⟨h.1, fun g hg => (h.lt g hg).2, ?_⟩
  have hc := @World.ownsRow.cells _ _ _ _ _ _ _ h
  rcases h.2 with ⟨rfl, rfl⟩ | ⟨g, cap, cur, rfl, _, _, hc1, hc2, _⟩
  · have h0 := h.1
    simp at h0
    subst h0
    exact ⟨none, 0, rfl, ⟨Nat.le_refl _, Nat.zero_le _⟩, by simp⟩
  · refine ⟨_, cap, rfl, ⟨hc1, hc2⟩, fun j u hu => ⟨g, 0, rfl, ?_⟩⟩
    have hx := hc (g := g) rfl j u hu
    have hadd : (⟨g, 0, none⟩ : Addr).add j = ⟨g, 0 + j, none⟩ := by unfold Addr.add; split <;> simp_all
    rw [hadd] at hx
    exact hx

theorem Reads.form {w : World} {v : Value} {size n : Nat} {xs : List Value} (h : Reads w v size n xs) (hn : 0 < xs.length) :
    ∃ g off cap, v = .slice (some ⟨g, off, none⟩) n cap ∧ g < w.heap.size ∧ ∀ j u, xs[j]? = some u → w.cell? ⟨g, off + j, none⟩ = some u := by
  obtain ⟨_, hlt, a, cap, rfl, _, hc⟩ := h
  obtain ⟨g, off, rfl, _⟩ := hc 0 xs[0] (by simp [hn])
  refine ⟨g, off, cap, rfl, hlt g rfl, fun j u hu => ?_⟩
  obtain ⟨g', off', he, hcell⟩ := hc j u hu
  cases he
  exact hcell

theorem Reads.shape {w : World} {v : Value} {size n : Nat} {xs : List Value} (h : Reads w v size n xs) : ∃ a cap, v = .slice a n cap := by
  obtain ⟨_, _, a, cap, rfl, _⟩ := h
  exact ⟨a, cap, rfl⟩

theorem Reads.fits {w : World} {a : Option Addr} {m cap : Nat} {size n : Nat} {xs : List Value} (h : Reads w (.slice a m cap) size n xs) : m = n ∧ n ≤ cap ∧ cap ≤ maxLen := by
  obtain ⟨_, _, a, cap, he, hc, _⟩ := h
  cases he
  exact ⟨rfl, hc⟩

/-- All that is read lies in blocks that are as they were. -/
theorem Reads.of_blocks {w w' : World} {v : Value} {size n : Nat} {xs : List Value} (h : Reads w v size n xs) (hs : w.heap.size ≤ w'.heap.size) (hb : ∀ g, v.ownBlock = some g → w'.heap[g]? = w.heap[g]?) : Reads w' v size n xs := by
  obtain ⟨h1, hlt, a, cap, rfl, hcap, hc⟩ := h
  refine ⟨h1, fun g hg => Nat.lt_of_lt_of_le (hlt g hg) hs, a, cap, rfl, hcap, fun j u hu => ?_⟩
  obtain ⟨g, off, rfl, hcell⟩ := hc j u hu
  refine ⟨g, off, rfl, ?_⟩
  rw [World.cell?_of_block (w := w) (hb g rfl)]
  exact hcell

theorem Reads.below {w w' : World} {v : Value} {size n : Nat} {xs : List Value} (h : Reads w v size n xs) {B : Nat} (hb : Below B w w') (hB : ∀ g, v.ownBlock = some g → g < B) : Reads w' v size n xs :=
  h.of_blocks hb.size (fun g hg => hb.block g (hB g hg))

theorem Reads.kept {w w' : World} {v : Value} {size n : Nat} {xs : List Value} (h : Reads w v size n xs) {row : Option Nat} (hg : w.grownBy w' row) (hne : v.ownBlock = none ∨ v.ownBlock ≠ row) : Reads w' v size n xs := by
  refine h.of_blocks hg.size (fun g hg' => hg.block g (h.2.1 g hg') ?_)
  rw [← hg']
  rcases hne with hne | hne
  · rw [hg'] at hne; cases hne
  · exact hne
end Go.Proofs.YtmnjjjhmnhfapaaGreatDoor
namespace Go.Proofs.YtmnjjjhmnhfapaaGreatDoor
open Go.RowKit

theorem u8_eq_of {c : UInt8} {n : Nat} (h : ((c.toNat : Int) == (n : Int)) = true) (hn : n < 256) : c = UInt8.ofNat n := by
  have h1 : (c.toNat : Int) = n := by simpa using h
  apply UInt8.toNat_inj.1
  simp; omega
theorem u8_ne_of {c : UInt8} {n : Nat} (h : ((c.toNat : Int) == (n : Int)) = false) (hn : n < 256) : c ≠ UInt8.ofNat n := by
  rintro rfl
  simp at h; omega

theorem num_bad1 (s : ByteArray) (h0 : 0 < s.size) (h1 : 1 < (s.size : Int)) (h2 : ((s[0].toNat : Int) == 48) = true) : Tm.num s.data.toList = -1 := by
  refine Tm.num_bad (.inr (.inr ⟨by rw [len_bytes]; omega, ?_⟩))
  rw [head_of s h0, u8_eq_of (n := 48) h2 (by omega)]; rfl
theorem num_good1 (s : ByteArray) (h0 : 0 < s.size) (h1 : (s.size : Int) ≤ 6) (h2 : ((s[0].toNat : Int) == 48) = false ∨ (s.size : Int) ≤ 1) : Tm.num s.data.toList = Tm.digits s.data.toList 0 := by
  refine Tm.num_good ?_
  rintro (h | h | ⟨h, h'⟩)
  · rw [len_bytes] at h; omega
  · rw [len_bytes] at h; omega
  · rcases h2 with h2 | h2
    · rw [head_of s h0] at h'
      exact u8_ne_of (n := 48) h2 (by omega) (by simpa using h')
    · rw [len_bytes] at h; omega

set_option maxRecDepth 100000 in
set_option maxHeartbeats 1000000 in
theorem number_any (s : ByteArray) (w : World) (hs : s.size ≤ maxLen) :
    Calls Tryz.prog 78 #[.string s] w fun e w' => e = .returned (.int .i64 (Tm.num s.data.toList)) ∧ w' = w := by
  unfold maxLen at hs
  by_cases h1 : (s.size : Int) < 1
  · have HV := hide (Tm.num_bad (l := s.data.toList) (.inl (by rw [len_bytes]; omega)))
    go_enter Tryz.func78, Tryz.ntmps78
    go_wp2
    go_ret
    exact ⟨ret_int HV.out.symm, rfl⟩
  by_cases h6 : 6 < (s.size : Int)
  · have HV := hide (Tm.num_bad (l := s.data.toList) (.inr (.inl (by rw [len_bytes]; omega))))
    go_enter Tryz.func78, Tryz.ntmps78
    go_wp2
    go_ret
    exact ⟨ret_int HV.out.symm, rfl⟩
  have h0 : 0 < s.size := by omega
  by_cases hb : 1 < (s.size : Int) ∧ ((s[0].toNat : Int) == 48) = true
  · have HV := hide (num_bad1 s h0 hb.1 hb.2)
    obtain ⟨h2, h3⟩ := hb
    go_enter Tryz.func78, Tryz.ntmps78
    go_wp2
    go_ret
    exact ⟨ret_int HV.out.symm, rfl⟩
  have hb' : ((s[0].toNat : Int) == 48) = false ∨ (s.size : Int) ≤ 1 := by
    by_cases h : 1 < (s.size : Int)
    · left; simpa [h] using hb
    · right; omega
  have HV := hide (num_good1 s h0 (by omega) hb')
  clear hb
  have hx : (s.size : Int) ≤ 1 ∨ (1 < (s.size : Int) ∧ ((s[0].toNat : Int) == 48) = false) := by
    rcases hb' with h | h
    · by_cases h' : (s.size : Int) ≤ 1
      · exact .inl h'
      · exact .inr ⟨by omega, h⟩
    · exact .inl h
  clear hb'
  rcases hx with h3 | ⟨h3, h4⟩
  all_goals
    go_enter Tryz.func78, Tryz.ntmps78
    go_wp2
    go_loop [3, 4] (fun n i => ∃ k : Nat, k ≤ s.size ∧ i = .int .i64 k ∧ ∃ m : Int, 0 ≤ m ∧ m < 16 ^ k ∧ n = .int .i64 m ∧ Tm.digits (s.data.toList.drop k) m = Tm.digits s.data.toList 0) (fun _ i => s.size - (intOf i).toNat)
    case atStart => exact ⟨0, Nat.zero_le _, rfl, 0, by omega, by omega, rfl, rfl⟩
    case round =>
      obtain ⟨k, hk, rfl, m, hm0, hm1, rfl, hd⟩ := hrel
      by_cases hlt : k < s.size
      · have hc := Tm.drop_cons s k hlt
        rw [hc] at hd
        clear hc
        have hb16 : m < 16777216 := by
          have := Tm.pow16 k (by omega)
          omega
        have hu : (s[k].toNat : Int) < 256 := by have := s[k].toNat_lt; omega
        by_cases hlo : 48 ≤ (s[k].toNat : Int) ∧ (s[k].toNat : Int) ≤ 57
        · rw [Tm.digits_some (Tm.digit_low hlo)] at hd
          have HD := hide hd
          have HP := hide hm1
          obtain ⟨hl1, hl2⟩ := hlo
          clear hd hm1
          go_wp2
          go_round
          case rel => exact ⟨k + 1, by omega, by go_num, 16 * m + ((s[k].toNat : Int) - 48), by omega, by have := HP.out; rw [Int.pow_succ]; omega, by go_num, HD.out⟩
          case measure => simp [intOf]; omega
        by_cases hhi : 97 ≤ (s[k].toNat : Int) ∧ (s[k].toNat : Int) ≤ 102
        · rw [Tm.digits_some (Tm.digit_high hhi)] at hd
          have HD := hide hd
          have HP := hide hm1
          obtain ⟨hl1, hl2⟩ := hhi
          clear hd hm1 hlo
          go_wp2
          go_round
          case rel => exact ⟨k + 1, by omega, by go_num, 16 * m + ((s[k].toNat : Int) - 87), by omega, by have := HP.out; rw [Int.pow_succ]; omega, by go_num, HD.out⟩
          case measure => simp [intOf]; omega
        · rw [Tm.digits_none (Tm.digit_none hlo hhi)] at hd
          have HD := hide hd
          clear hd hm1
          go_wp2
          all_goals go_ret
          all_goals exact ⟨ret_int (by rw [HV.out, ← HD.out]), rfl⟩
      · rw [Tm.drop_all s k (by omega)] at hd
        have HD := hide hd
        clear hd
        go_wp2
        go_ret
        exact ⟨ret_int (by rw [HV.out, ← HD.out]; rfl), rfl⟩
end Go.Proofs.YtmnjjjhmnhfapaaGreatDoor
