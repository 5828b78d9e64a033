import Derived.Test.YtmnjjjhmnhfapaaGreatDoorMCodeApi
namespace Go.Proofs.YtmnjjjhmnhfapaaGreatDoor
open Go.RowKit
set_option maxRecDepth 100000 in
set_option maxHeartbeats 2000000 in
theorem order_any (va vb : Value) (a b : List Int) (w : World) (ha : Reads w va 1 a.length (ints a)) (hb : Reads w vb 1 b.length (ints b)) (_hla : a.length ≤ 1000000) (_hlb : b.length ≤ 1000000) :
  Calls Tryz.prog 94 #[va, vb] w fun e w' => e = .returned (.int .i64 (Tm.cmpL a b)) ∧ ∃ q, w' = w.drewN q := by
 obtain ⟨aa, ca, rfl⟩ := ha.shape
 obtain ⟨ab, cb, rfl⟩ := hb.shape
 have HA := hide ha
 have HB := hide hb
 obtain ⟨n, hn⟩ : ∃ n, a.length = n := ⟨_, rfl⟩
 obtain ⟨m, hm⟩ : ∃ m, b.length = m := ⟨_, rfl⟩
 have HN := hide hn
 have HM := hide hm
 rw [hn] at _hla HA
 rw [hm] at HB
 rw [hn, hm]
 clear ha hb hn hm
 go_enter Tryz.func94, Tryz.ntmps94
 go_wp2_with fail
 go_loopw [5] (fun i wr => ∃ k : Nat, k ≤ n ∧ k ≤ m ∧ i = .int .i64 k ∧ Tm.cmpL a b = Tm.cmpL (a.drop k) (b.drop k) ∧ ∃ q, wr = w.drewN q) (fun i _ => n - (intOf i).toNat)
 case atStart => exact ⟨0, Nat.zero_le _, Nat.zero_le _, rfl, rfl, 0, rfl⟩
 case round =>
  obtain ⟨k, hk, hkm, rfl, hcm, q, rfl⟩ := hrel
  have HCM := hide hcm
  clear hcm
  by_cases hlt : k < n
  ·have hlt' : k < a.length := by rw [HN.out]; exact hlt
   obtain ⟨g, off, rfl, hg, ck⟩ := Reads.at (by rw [HN.out]; exact HA.out) hlt'
   have i1 : (0 : Int) ≤ (k : Int) := by omega
   have i2 : (k : Int) < (n : Int) := by omega
   by_cases hlm : k < m
   ·have hlm' : k < b.length := by rw [HM.out]; exact hlm
    obtain ⟨gb, ob, rfl, hgb, cbk⟩ := Reads.at (by rw [HM.out]; exact HB.out) hlm'
    have i3 : (k : Int) < (m : Int) := by omega
    have HST := hide (Tm.cmpL_step hlt' hlm')
    generalize a[k] = x at *
    generalize b[k] = y at *
    go_wp2
    go_quiet (fail)
    obtain ⟨q1, hq1⟩ : ∃ q1, w.drewN q1 = (w.drewN q).drewN nq := ⟨q + nq, by simp⟩
    rw [← hq1]
    by_cases h1 : x < y
    ·go_wp2
     go_ret
     exact ⟨ret_int (by rw [HCM.out, HST.out, if_pos h1]), q1, rfl⟩
    ·clear hq1
     go_wp2
     go_quiet (fail)
     by_cases h2 : y < x
     ·go_wp2
      go_ret
      exact ⟨ret_int (by rw [HCM.out, HST.out, if_neg (by omega), if_pos h2]), q1 + nq, by simp⟩
     ·go_wp2
      go_roundw
      case rel => exact ⟨k + 1, by omega, by omega, by go_num, by rw [HCM.out, HST.out, if_neg (by omega), if_neg (by omega)], q1 + nq, by simp⟩
      case measure => simp [intOf]; omega
   ·have HST := hide (Tm.cmpL_more hlt' (show b.length ≤ k by rw [HM.out]; omega))
    have hmn : m < n := by omega
    go_wp2
    go_ret
    exact ⟨ret_int (by rw [HCM.out, HST.out]), _, rfl⟩
  ·have HST := hide (Tm.cmpL_end (b := b) (show a.length ≤ k by rw [HN.out]; omega))
   rw [HM.out] at HST
   by_cases hnm : n < m
   ·go_wp2
    go_ret
    exact ⟨ret_int (by rw [HCM.out, HST.out, if_pos (by omega)]), _, rfl⟩
   ·have hmn : ¬ m < n := by omega
    go_wp2
    go_ret
    exact ⟨ret_int (by rw [HCM.out, HST.out, if_neg (by omega)]), _, rfl⟩
def byteAt (s : ByteArray) (k : Nat) : Nat := (s.get! k).toNat
theorem byteAt_get {s : ByteArray} {k : Nat} (h : k < s.size) : s[k].toNat = byteAt s k := by
 unfold byteAt
 rw [show s.get! k = s.get! (k + 0) from rfl, get_at s k h]
theorem byteAt_lt (s : ByteArray) (k : Nat) : byteAt s k < 256 := (s.get! k).toNat_lt
theorem byteAt_off {s : ByteArray} {k : Nat} (h : s.size ≤ k) : byteAt s k = 0 := by
 have h1 : s.data.size ≤ k := h
 show (s.data[k]!).toNat = 0
 rw [getElem!_neg _ _ (by omega)]
 rfl
def decB (n b0 b1 b2 b3 : Nat) : Nat × Nat :=
 if b0 < 128 then (b0, 1)
 else if b0 / 32 = 6 ∧ 1 < n ∧ b1 / 64 = 2 then
  if 128 ≤ b0 % 32 * 64 + b1 % 64 then (b0 % 32 * 64 + b1 % 64, 2) else (65533, 1)
 else if b0 / 16 = 14 ∧ (1 < n ∧ b1 / 64 = 2) ∧ 2 < n ∧ b2 / 64 = 2 then
  if 2048 ≤ b0 % 16 * 4096 + b1 % 64 * 64 + b2 % 64 ∧ (b0 % 16 * 4096 + b1 % 64 * 64 + b2 % 64 < 55296 ∨ 57344 ≤ b0 % 16 * 4096 + b1 % 64 * 64 + b2 % 64 ∧ b0 % 16 * 4096 + b1 % 64 * 64 + b2 % 64 ≤ 1114111) then (b0 % 16 * 4096 + b1 % 64 * 64 + b2 % 64, 3) else (65533, 1)
 else if b0 / 8 = 30 ∧ (1 < n ∧ b1 / 64 = 2) ∧ (2 < n ∧ b2 / 64 = 2) ∧ 3 < n ∧ b3 / 64 = 2 then
  if 65536 ≤ b0 % 8 * 262144 + b1 % 64 * 4096 + b2 % 64 * 64 + b3 % 64 ∧ (b0 % 8 * 262144 + b1 % 64 * 4096 + b2 % 64 * 64 + b3 % 64 < 55296 ∨ 57344 ≤ b0 % 8 * 262144 + b1 % 64 * 4096 + b2 % 64 * 64 + b3 % 64 ∧ b0 % 8 * 262144 + b1 % 64 * 4096 + b2 % 64 * 64 + b3 % 64 ≤ 1114111) then (b0 % 8 * 262144 + b1 % 64 * 4096 + b2 % 64 * 64 + b3 % 64, 4) else (65533, 1)
 else (65533, 1)
theorem decode_decB (s : ByteArray) (i : Nat) : Utf8.decode s i = decB (s.size - i) (byteAt s i) (byteAt s (i + 1)) (byteAt s (i + 2)) (byteAt s (i + 3)) := by
 have e : ∀ k, (s.get! k).toNat = byteAt s k := fun k => rfl
 have e1 : ∀ k, i + k < s.size ↔ k < s.size - i := fun k => by omega
 simp only [Utf8.decode, e, e1, Utf8.valid, Utf8.runeError, Nat.add_zero]
 generalize byteAt s i = b0
 generalize byteAt s (i + 1) = b1
 generalize byteAt s (i + 2) = b2
 generalize byteAt s (i + 3) = b3
 generalize s.size - i = n
 unfold decB
 by_cases h0 : b0 < 128
 ·rw [if_pos h0, if_pos h0]
 rw [if_neg h0, if_neg h0]
 by_cases h1 : b0 / 32 = 6 ∧ 1 < n ∧ b1 / 64 = 2
 ·rw [if_pos h1, if_pos (by simp [h1])]
 rw [if_neg h1, if_neg (by simpa using h1)]
 by_cases h2 : b0 / 16 = 14 ∧ (1 < n ∧ b1 / 64 = 2) ∧ 2 < n ∧ b2 / 64 = 2
 ·rw [if_pos h2, if_pos (by simp [h2])]
  generalize b0 % 16 * 4096 + b1 % 64 * 64 + b2 % 64 = c
  by_cases h3 : 2048 ≤ c ∧ (c < 55296 ∨ 57344 ≤ c ∧ c ≤ 1114111)
  ·rw [if_pos h3, if_pos (by simp; omega)]
  ·rw [if_neg h3, if_neg (by simp; omega)]
 rw [if_neg h2, if_neg (by simp; omega)]
 by_cases h3 : b0 / 8 = 30 ∧ (1 < n ∧ b1 / 64 = 2) ∧ (2 < n ∧ b2 / 64 = 2) ∧ 3 < n ∧ b3 / 64 = 2
 ·rw [if_pos h3, if_pos (by simp [h3])]
  generalize b0 % 8 * 262144 + b1 % 64 * 4096 + b2 % 64 * 64 + b3 % 64 = c
  by_cases h3 : 65536 ≤ c ∧ (c < 55296 ∨ 57344 ≤ c ∧ c ≤ 1114111)
  ·rw [if_pos h3, if_pos (by simp; omega)]
  ·rw [if_neg h3, if_neg (by simp; omega)]
 rw [if_neg h3, if_neg (by simp; omega)]
theorem extract_size (s : ByteArray) {i : Nat} (_ : i ≤ s.size) : (s.extract i s.size).size = s.size - i := by simp [ByteArray.size_extract]
theorem byteAt_extract (s : ByteArray) {i : Nat} (h : i ≤ s.size) (k : Nat) : byteAt (s.extract i s.size) k = byteAt s (i + k) := by
 by_cases hk : i + k < s.size
 ·have h1 : k < (s.extract i s.size).size := by rw [extract_size s h]; omega
  rw [← byteAt_get h1, ← byteAt_get hk]
  congr 1
  simp [ByteArray.getElem_extract]
 ·rw [byteAt_off (by rw [extract_size s h]; omega), byteAt_off (by omega)]
theorem decode_extract (s : ByteArray) {i : Nat} (h : i ≤ s.size) : Utf8.decode (s.extract i s.size) 0 = Utf8.decode s i := by
 rw [decode_decB, decode_decB, extract_size s h]
 simp only [byteAt_extract s h, Nat.sub_zero, Nat.zero_add, Nat.add_zero]
def foldR (s : ByteArray) (r0 : Int) : Nat → Int
 | 0 => r0
 | 1 => r0
 | k + 2 => 64 * foldR s r0 (k + 1) + (byteAt s (k + 1) : Int) - 128
theorem foldR_step (s : ByteArray) (r0 : Int) {k : Nat} (h : 1 ≤ k) : foldR s r0 (k + 1) = 64 * foldR s r0 k + (byteAt s k : Int) - 128 := by
 cases k with
 | zero => omega
 | succ k => rfl
theorem foldR1 (s : ByteArray) (r0 : Int) : foldR s r0 1 = r0 := rfl
theorem foldR2 (s : ByteArray) (r0 : Int) : foldR s r0 2 = 64 * r0 + (byteAt s 1 : Int) - 128 := rfl
theorem foldR3 (s : ByteArray) (r0 : Int) : foldR s r0 3 = 64 * (64 * r0 + (byteAt s 1 : Int) - 128) + (byteAt s 2 : Int) - 128 := rfl
theorem foldR4 (s : ByteArray) (r0 : Int) : foldR s r0 4 = 64 * (64 * (64 * r0 + (byteAt s 1 : Int) - 128) + (byteAt s 2 : Int) - 128) + (byteAt s 3 : Int) - 128 := rfl
def Lead (s : ByteArray) (n : Nat) (least r0 : Int) : Prop :=
 (n = 2 ∧ least = 128 ∧ 192 ≤ byteAt s 0 ∧ byteAt s 0 < 224 ∧ r0 = (byteAt s 0 : Int) - 192) ∨
 (n = 3 ∧ least = 2048 ∧ 224 ≤ byteAt s 0 ∧ byteAt s 0 < 240 ∧ r0 = (byteAt s 0 : Int) - 224) ∨
 (n = 4 ∧ least = 65536 ∧ 240 ≤ byteAt s 0 ∧ byteAt s 0 < 248 ∧ r0 = (byteAt s 0 : Int) - 240)
theorem Lead.bound {s : ByteArray} {n : Nat} {least r0 : Int} (h : Lead s n least r0) (k : Nat) (hk : k ≤ n) (hc : ∀ j, 1 ≤ j → j < k → 128 ≤ byteAt s j ∧ byteAt s j < 192) : 0 ≤ foldR s r0 k ∧ foldR s r0 k ≤ 8388607 := by
 have b0 : 0 ≤ r0 ∧ r0 ≤ 31 := by unfold Lead at h; omega
 have hn : n ≤ 4 := by unfold Lead at h; omega
 clear h
 rcases (by omega : k = 0 ∨ k = 1 ∨ k = 2 ∨ k = 3 ∨ k = 4) with rfl | rfl | rfl | rfl | rfl
 ·rw [show foldR s r0 0 = r0 from rfl]; omega
 ·rw [foldR1]; omega
 ·have := hc 1 (by omega) (by omega)
  rw [foldR2]; omega
 ·have := hc 1 (by omega) (by omega)
  have := hc 2 (by omega) (by omega)
  rw [foldR3]; omega
 ·have := hc 1 (by omega) (by omega)
  have := hc 2 (by omega) (by omega)
  have := hc 3 (by omega) (by omega)
  rw [foldR4]; omega
theorem Lead.yes {s : ByteArray} {n : Nat} {least r0 : Int} (h : Lead s n least r0) (hs : n ≤ s.size) (hc : ∀ j, 1 ≤ j → j < n → 128 ≤ byteAt s j ∧ byteAt s j < 192) (h1 : least ≤ foldR s r0 n) (h2 : foldR s r0 n ≤ 1114111) (h3 : foldR s r0 n < 55296 ∨ 57344 ≤ foldR s r0 n) :
  ((Utf8.decode s 0).1 : Int) = foldR s r0 n ∧ ((Utf8.decode s 0).2 : Int) = n := by
 rw [decode_decB]
 simp only [Nat.zero_add, Nat.sub_zero]
 rcases h with ⟨rfl, rfl, h4, h5, rfl⟩ | ⟨rfl, rfl, h4, h5, rfl⟩ | ⟨rfl, rfl, h4, h5, rfl⟩
 ·have c1 := hc 1 (by omega) (by omega)
  rw [foldR2] at h1 h2 h3 ⊢
  unfold decB
  rw [if_neg (by omega), if_pos (by omega), if_pos (by omega)]
  refine ⟨?_, rfl⟩
  show ((byteAt s 0 % 32 * 64 + byteAt s 1 % 64 : Nat) : Int) = _
  omega
 ·have c1 := hc 1 (by omega) (by omega)
  have c2 := hc 2 (by omega) (by omega)
  rw [foldR3] at h1 h2 h3 ⊢
  unfold decB
  rw [if_neg (by omega), if_neg (by omega), if_pos (by omega), if_pos (by omega)]
  refine ⟨?_, rfl⟩
  show ((byteAt s 0 % 16 * 4096 + byteAt s 1 % 64 * 64 + byteAt s 2 % 64 : Nat) : Int) = _
  omega
 ·have c1 := hc 1 (by omega) (by omega)
  have c2 := hc 2 (by omega) (by omega)
  have c3 := hc 3 (by omega) (by omega)
  rw [foldR4] at h1 h2 h3 ⊢
  unfold decB
  rw [if_neg (by omega), if_neg (by omega), if_neg (by omega), if_pos (by omega), if_pos (by omega)]
  refine ⟨?_, rfl⟩
  show ((byteAt s 0 % 8 * 262144 + byteAt s 1 % 64 * 4096 + byteAt s 2 % 64 * 64 + byteAt s 3 % 64 : Nat) : Int) = _
  omega
theorem Lead.short {s : ByteArray} {n : Nat} {least r0 : Int} (h : Lead s n least r0) (hs : s.size < n) : Utf8.decode s 0 = (65533, 1) := by
 rw [decode_decB]
 simp only [Nat.zero_add, Nat.sub_zero]
 unfold decB
 unfold Lead at h
 rw [if_neg (by omega), if_neg (by omega), if_neg (by omega), if_neg (by omega)]
theorem Lead.odd {s : ByteArray} {n : Nat} {least r0 : Int} (h : Lead s n least r0) {j : Nat} (h1 : 1 ≤ j) (h2 : j < n) (h3 : byteAt s j < 128 ∨ 192 ≤ byteAt s j) : Utf8.decode s 0 = (65533, 1) := by
 rw [decode_decB]
 simp only [Nat.zero_add, Nat.sub_zero]
 unfold decB
 unfold Lead at h
 have hj : j = 1 ∨ j = 2 ∨ j = 3 := by omega
 have := byteAt_lt s j
 rcases hj with rfl | rfl | rfl
 all_goals rw [if_neg (by omega), if_neg (by omega), if_neg (by omega), if_neg (by omega)]
theorem Lead.no {s : ByteArray} {n : Nat} {least r0 : Int} (h : Lead s n least r0) (hs : n ≤ s.size) (hc : ∀ j, 1 ≤ j → j < n → 128 ≤ byteAt s j ∧ byteAt s j < 192) (h1 : foldR s r0 n < least ∨ 1114111 < foldR s r0 n ∨ (55296 ≤ foldR s r0 n ∧ foldR s r0 n < 57344)) : Utf8.decode s 0 = (65533, 1) := by
 rw [decode_decB]
 simp only [Nat.zero_add, Nat.sub_zero]
 rcases h with ⟨rfl, rfl, h4, h5, rfl⟩ | ⟨rfl, rfl, h4, h5, rfl⟩ | ⟨rfl, rfl, h4, h5, rfl⟩
 ·have c1 := hc 1 (by omega) (by omega)
  rw [foldR2] at h1
  unfold decB
  rw [if_neg (by omega), if_pos (by omega), if_neg (by omega)]
 ·have c1 := hc 1 (by omega) (by omega)
  have c2 := hc 2 (by omega) (by omega)
  rw [foldR3] at h1
  unfold decB
  rw [if_neg (by omega), if_neg (by omega), if_pos (by omega), if_neg (by omega)]
 ·have c1 := hc 1 (by omega) (by omega)
  have c2 := hc 2 (by omega) (by omega)
  have c3 := hc 3 (by omega) (by omega)
  rw [foldR4] at h1
  unfold decB
  rw [if_neg (by omega), if_neg (by omega), if_neg (by omega), if_pos (by omega), if_neg (by omega)]
theorem decode_default {s : ByteArray} (h : (128 ≤ byteAt s 0 ∧ byteAt s 0 < 192) ∨ 248 ≤ byteAt s 0) : Utf8.decode s 0 = (65533, 1) := by
 rw [decode_decB]
 simp only [Nat.zero_add, Nat.sub_zero]
 unfold decB
 have := byteAt_lt s 0
 rw [if_neg (by omega), if_neg (by omega), if_neg (by omega), if_neg (by omega)]
theorem decode_small {s : ByteArray} (h : byteAt s 0 < 128) : Utf8.decode s 0 = (byteAt s 0, 1) := by
 rw [decode_decB]
 unfold decB
 rw [if_pos h]
theorem decode_fits (s : ByteArray) (pos : Nat) (h : pos < s.size) : pos + (Utf8.decode s pos).2 ≤ s.size := by
 rw [decode_decB]
 unfold decB
 repeat' split
 all_goals (simp only; omega)
end Go.Proofs.YtmnjjjhmnhfapaaGreatDoor
