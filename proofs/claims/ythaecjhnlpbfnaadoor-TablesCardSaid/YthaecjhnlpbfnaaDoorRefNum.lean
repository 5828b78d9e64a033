import Derived.Test.YthaecjhnlpbfnaaDoorBase
namespace Go.Proofs.YthaecjhnlpbfnaaDoor
open Go.RowKit

theorem u8_eq_of {c : UInt8} {n : Nat} (h : ((c.toNat : Int) == (n : Int)) = true) (hn : n < 256) : c = UInt8.ofNat n := by
  have h1 : (c.toNat : Int) = n := by simpa using h
  apply UInt8.toNat_inj.1
  simp; omega
theorem u8_ne_of {c : UInt8} {n : Nat} (h : ((c.toNat : Int) == (n : Int)) = false) (hn : n < 256) : c ≠ UInt8.ofNat n := by
  rintro rfl
  simp at h; omega

theorem num_bad1 (s : ByteArray) (h0 : 0 < s.size) (h1 : 1 < (s.size : Int)) (h2 : ((s[0].toNat : Int) == 48) = true) : Tm.num s.data.toList = -1 := by
  refine Tm.num_bad (.inr (.inr ⟨by rw [len_bytes]; omega, ?_⟩))
  rw [head_of s h0, u8_eq_of (n := 48) h2 (by omega)]; rfl
theorem num_good1 (s : ByteArray) (h0 : 0 < s.size) (h1 : (s.size : Int) ≤ 6) (h2 : ((s[0].toNat : Int) == 48) = false ∨ (s.size : Int) ≤ 1) : Tm.num s.data.toList = Tm.digits s.data.toList 0 := by
  refine Tm.num_good ?_
  rintro (h | h | ⟨h, h'⟩)
  · rw [len_bytes] at h; omega
  · rw [len_bytes] at h; omega
  · rcases h2 with h2 | h2
    · rw [head_of s h0] at h'
      exact u8_ne_of (n := 48) h2 (by omega) (by simpa using h')
    · rw [len_bytes] at h; omega

set_option maxRecDepth 100000 in
set_option maxHeartbeats 1000000 in
theorem number_any (s : ByteArray) (w : World) (hs : s.size ≤ maxLen) :
    Calls Tryd.prog 48 #[.string s] w fun e w' => e = .returned (.int .i64 (Tm.num s.data.toList)) ∧ w' = w := by
  unfold maxLen at hs
  by_cases h1 : (s.size : Int) < 1
  · have HV := hide (Tm.num_bad (l := s.data.toList) (.inl (by rw [len_bytes]; omega)))
    go_enter Tryd.func48, Tryd.ntmps48
    go_wp2
    go_ret
    exact ⟨ret_int HV.out.symm, rfl⟩
  by_cases h6 : 6 < (s.size : Int)
  · have HV := hide (Tm.num_bad (l := s.data.toList) (.inr (.inl (by rw [len_bytes]; omega))))
    go_enter Tryd.func48, Tryd.ntmps48
    go_wp2
    go_ret
    exact ⟨ret_int HV.out.symm, rfl⟩
  have h0 : 0 < s.size := by omega
  by_cases hb : 1 < (s.size : Int) ∧ ((s[0].toNat : Int) == 48) = true
  · have HV := hide (num_bad1 s h0 hb.1 hb.2)
    obtain ⟨h2, h3⟩ := hb
    go_enter Tryd.func48, Tryd.ntmps48
    go_wp2
    go_ret
    exact ⟨ret_int HV.out.symm, rfl⟩
  have hb' : ((s[0].toNat : Int) == 48) = false ∨ (s.size : Int) ≤ 1 := by
    by_cases h : 1 < (s.size : Int)
    · left; simpa [h] using hb
    · right; omega
  have HV := hide (num_good1 s h0 (by omega) hb')
  clear hb
  have hx : (s.size : Int) ≤ 1 ∨ (1 < (s.size : Int) ∧ ((s[0].toNat : Int) == 48) = false) := by
    rcases hb' with h | h
    · by_cases h' : (s.size : Int) ≤ 1
      · exact .inl h'
      · exact .inr ⟨by omega, h⟩
    · exact .inl h
  clear hb'
  rcases hx with h3 | ⟨h3, h4⟩
  all_goals
    go_enter Tryd.func48, Tryd.ntmps48
    go_wp2
    go_loop [3, 4] (fun n i => ∃ k : Nat, k ≤ s.size ∧ i = .int .i64 k ∧ ∃ m : Int, 0 ≤ m ∧ m < 16 ^ k ∧ n = .int .i64 m ∧ Tm.digits (s.data.toList.drop k) m = Tm.digits s.data.toList 0) (fun _ i => s.size - (intOf i).toNat)
    case atStart => exact ⟨0, Nat.zero_le _, rfl, 0, by omega, by omega, rfl, rfl⟩
    case round =>
      obtain ⟨k, hk, rfl, m, hm0, hm1, rfl, hd⟩ := hrel
      by_cases hlt : k < s.size
      · have hc := Tm.drop_cons s k hlt
        rw [hc] at hd
        clear hc
        have hb16 : m < 16777216 := by
          have := Tm.pow16 k (by omega)
          omega
        have hu : (s[k].toNat : Int) < 256 := by have := s[k].toNat_lt; omega
        by_cases hlo : 48 ≤ (s[k].toNat : Int) ∧ (s[k].toNat : Int) ≤ 57
        · rw [Tm.digits_some (Tm.digit_low hlo)] at hd
          have HD := hide hd
          have HP := hide hm1
          obtain ⟨hl1, hl2⟩ := hlo
          clear hd hm1
          go_wp2
          go_round
          case rel => exact ⟨k + 1, by omega, by go_num, 16 * m + ((s[k].toNat : Int) - 48), by omega, by have := HP.out; rw [Int.pow_succ]; omega, by go_num, HD.out⟩
          case measure => simp [intOf]; omega
        by_cases hhi : 97 ≤ (s[k].toNat : Int) ∧ (s[k].toNat : Int) ≤ 102
        · rw [Tm.digits_some (Tm.digit_high hhi)] at hd
          have HD := hide hd
          have HP := hide hm1
          obtain ⟨hl1, hl2⟩ := hhi
          clear hd hm1 hlo
          go_wp2
          go_round
          case rel => exact ⟨k + 1, by omega, by go_num, 16 * m + ((s[k].toNat : Int) - 87), by omega, by have := HP.out; rw [Int.pow_succ]; omega, by go_num, HD.out⟩
          case measure => simp [intOf]; omega
        · rw [Tm.digits_none (Tm.digit_none hlo hhi)] at hd
          have HD := hide hd
          clear hd hm1
          go_wp2
          all_goals go_ret
          all_goals exact ⟨ret_int (by rw [HV.out, ← HD.out]), rfl⟩
      · rw [Tm.drop_all s k (by omega)] at hd
        have HD := hide hd
        clear hd
        go_wp2
        go_ret
        exact ⟨ret_int (by rw [HV.out, ← HD.out]; rfl), rfl⟩
end Go.Proofs.YthaecjhnlpbfnaaDoor
