import Derived.Laws.RangeAny
import Derived.Test.YtmnjjjhmnhfapaaGreatDoorMRefNum
namespace Go.Proofs.YtmnjjjhmnhfapaaGreatDoor
open Go.RowKit
def byteAt (s : ByteArray) (k : Nat) : Nat := (s.get! k).toNat
theorem byteAt_get {s : ByteArray} {k : Nat} (h : k < s.size) : s[k].toNat = byteAt s k := by
 unfold byteAt
 rw [show s.get! k = s.get! (k + 0) from rfl, get_at s k h]
theorem byteAt_lt (s : ByteArray) (k : Nat) : byteAt s k < 256 := (s.get! k).toNat_lt
theorem byteAt_off {s : ByteArray} {k : Nat} (h : s.size ≤ k) : byteAt s k = 0 := by
 have h1 : s.data.size ≤ k := h
 show (s.data[k]!).toNat = 0
 rw [getElem!_neg _ _ (by omega)]
 rfl
def decB (n b0 b1 b2 b3 : Nat) : Nat × Nat :=
 if b0 < 128 then (b0, 1)
 else if b0 / 32 = 6 ∧ 1 < n ∧ b1 / 64 = 2 then
  if 128 ≤ b0 % 32 * 64 + b1 % 64 then (b0 % 32 * 64 + b1 % 64, 2) else (65533, 1)
 else if b0 / 16 = 14 ∧ (1 < n ∧ b1 / 64 = 2) ∧ 2 < n ∧ b2 / 64 = 2 then
  if 2048 ≤ b0 % 16 * 4096 + b1 % 64 * 64 + b2 % 64 ∧ (b0 % 16 * 4096 + b1 % 64 * 64 + b2 % 64 < 55296 ∨ 57344 ≤ b0 % 16 * 4096 + b1 % 64 * 64 + b2 % 64 ∧ b0 % 16 * 4096 + b1 % 64 * 64 + b2 % 64 ≤ 1114111) then (b0 % 16 * 4096 + b1 % 64 * 64 + b2 % 64, 3) else (65533, 1)
 else if b0 / 8 = 30 ∧ (1 < n ∧ b1 / 64 = 2) ∧ (2 < n ∧ b2 / 64 = 2) ∧ 3 < n ∧ b3 / 64 = 2 then
  if 65536 ≤ b0 % 8 * 262144 + b1 % 64 * 4096 + b2 % 64 * 64 + b3 % 64 ∧ (b0 % 8 * 262144 + b1 % 64 * 4096 + b2 % 64 * 64 + b3 % 64 < 55296 ∨ 57344 ≤ b0 % 8 * 262144 + b1 % 64 * 4096 + b2 % 64 * 64 + b3 % 64 ∧ b0 % 8 * 262144 + b1 % 64 * 4096 + b2 % 64 * 64 + b3 % 64 ≤ 1114111) then (b0 % 8 * 262144 + b1 % 64 * 4096 + b2 % 64 * 64 + b3 % 64, 4) else (65533, 1)
 else (65533, 1)
theorem decode_decB (s : ByteArray) (i : Nat) : Utf8.decode s i = decB (s.size - i) (byteAt s i) (byteAt s (i + 1)) (byteAt s (i + 2)) (byteAt s (i + 3)) := by
 have e : ∀ k, (s.get! k).toNat = byteAt s k := fun k => rfl
 have e1 : ∀ k, i + k < s.size ↔ k < s.size - i := fun k => by omega
 simp only [Utf8.decode, e, e1, Utf8.valid, Utf8.runeError, Nat.add_zero]
 generalize byteAt s i = b0
 generalize byteAt s (i + 1) = b1
 generalize byteAt s (i + 2) = b2
 generalize byteAt s (i + 3) = b3
 generalize s.size - i = n
 unfold decB
 by_cases h0 : b0 < 128
 ·rw [if_pos h0, if_pos h0]
 rw [if_neg h0, if_neg h0]
 by_cases h1 : b0 / 32 = 6 ∧ 1 < n ∧ b1 / 64 = 2
 ·rw [if_pos h1, if_pos (by simp [h1])]
 rw [if_neg h1, if_neg (by simpa using h1)]
 by_cases h2 : b0 / 16 = 14 ∧ (1 < n ∧ b1 / 64 = 2) ∧ 2 < n ∧ b2 / 64 = 2
 ·rw [if_pos h2, if_pos (by simp [h2])]
  generalize b0 % 16 * 4096 + b1 % 64 * 64 + b2 % 64 = c
  by_cases h3 : 2048 ≤ c ∧ (c < 55296 ∨ 57344 ≤ c ∧ c ≤ 1114111)
  ·rw [if_pos h3, if_pos (by simp; omega)]
  ·rw [if_neg h3, if_neg (by simp; omega)]
 rw [if_neg h2, if_neg (by simp; omega)]
 by_cases h3 : b0 / 8 = 30 ∧ (1 < n ∧ b1 / 64 = 2) ∧ (2 < n ∧ b2 / 64 = 2) ∧ 3 < n ∧ b3 / 64 = 2
 ·rw [if_pos h3, if_pos (by simp [h3])]
  generalize b0 % 8 * 262144 + b1 % 64 * 4096 + b2 % 64 * 64 + b3 % 64 = c
  by_cases h3 : 65536 ≤ c ∧ (c < 55296 ∨ 57344 ≤ c ∧ c ≤ 1114111)
  ·rw [if_pos h3, if_pos (by simp; omega)]
  ·rw [if_neg h3, if_neg (by simp; omega)]
 rw [if_neg h3, if_neg (by simp; omega)]
theorem extract_size (s : ByteArray) {i : Nat} (_ : i ≤ s.size) : (s.extract i s.size).size = s.size - i := by simp [ByteArray.size_extract]
theorem byteAt_extract (s : ByteArray) {i : Nat} (h : i ≤ s.size) (k : Nat) : byteAt (s.extract i s.size) k = byteAt s (i + k) := by
 by_cases hk : i + k < s.size
 ·have h1 : k < (s.extract i s.size).size := by rw [extract_size s h]; omega
  rw [← byteAt_get h1, ← byteAt_get hk]
  congr 1
  simp [ByteArray.getElem_extract]
 ·rw [byteAt_off (by rw [extract_size s h]; omega), byteAt_off (by omega)]
theorem decode_extract (s : ByteArray) {i : Nat} (h : i ≤ s.size) : Utf8.decode (s.extract i s.size) 0 = Utf8.decode s i := by
 rw [decode_decB, decode_decB, extract_size s h]
 simp only [byteAt_extract s h, Nat.sub_zero, Nat.zero_add, Nat.add_zero]
def foldR (s : ByteArray) (r0 : Int) : Nat → Int
 | 0 => r0
 | 1 => r0
 | k + 2 => 64 * foldR s r0 (k + 1) + (byteAt s (k + 1) : Int) - 128
theorem foldR_step (s : ByteArray) (r0 : Int) {k : Nat} (h : 1 ≤ k) : foldR s r0 (k + 1) = 64 * foldR s r0 k + (byteAt s k : Int) - 128 := by
 cases k with
 | zero => omega
 | succ k => rfl
theorem foldR1 (s : ByteArray) (r0 : Int) : foldR s r0 1 = r0 := rfl
theorem foldR2 (s : ByteArray) (r0 : Int) : foldR s r0 2 = 64 * r0 + (byteAt s 1 : Int) - 128 := rfl
theorem foldR3 (s : ByteArray) (r0 : Int) : foldR s r0 3 = 64 * (64 * r0 + (byteAt s 1 : Int) - 128) + (byteAt s 2 : Int) - 128 := rfl
theorem foldR4 (s : ByteArray) (r0 : Int) : foldR s r0 4 = 64 * (64 * (64 * r0 + (byteAt s 1 : Int) - 128) + (byteAt s 2 : Int) - 128) + (byteAt s 3 : Int) - 128 := rfl
def Lead (s : ByteArray) (n : Nat) (least r0 : Int) : Prop :=
 (n = 2 ∧ least = 128 ∧ 192 ≤ byteAt s 0 ∧ byteAt s 0 < 224 ∧ r0 = (byteAt s 0 : Int) - 192) ∨
 (n = 3 ∧ least = 2048 ∧ 224 ≤ byteAt s 0 ∧ byteAt s 0 < 240 ∧ r0 = (byteAt s 0 : Int) - 224) ∨
 (n = 4 ∧ least = 65536 ∧ 240 ≤ byteAt s 0 ∧ byteAt s 0 < 248 ∧ r0 = (byteAt s 0 : Int) - 240)
theorem Lead.bound {s : ByteArray} {n : Nat} {least r0 : Int} (h : Lead s n least r0) (k : Nat) (hk : k ≤ n) (hc : ∀ j, 1 ≤ j → j < k → 128 ≤ byteAt s j ∧ byteAt s j < 192) : 0 ≤ foldR s r0 k ∧ foldR s r0 k ≤ 8388607 := by
 have b0 : 0 ≤ r0 ∧ r0 ≤ 31 := by unfold Lead at h; omega
 have hn : n ≤ 4 := by unfold Lead at h; omega
 clear h
 rcases (by omega : k = 0 ∨ k = 1 ∨ k = 2 ∨ k = 3 ∨ k = 4) with rfl | rfl | rfl | rfl | rfl
 ·rw [show foldR s r0 0 = r0 from rfl]; omega
 ·rw [foldR1]; omega
 ·have := hc 1 (by omega) (by omega)
  rw [foldR2]; omega
 ·have := hc 1 (by omega) (by omega)
  have := hc 2 (by omega) (by omega)
  rw [foldR3]; omega
 ·have := hc 1 (by omega) (by omega)
  have := hc 2 (by omega) (by omega)
  have := hc 3 (by omega) (by omega)
  rw [foldR4]; omega
theorem Lead.yes {s : ByteArray} {n : Nat} {least r0 : Int} (h : Lead s n least r0) (hs : n ≤ s.size) (hc : ∀ j, 1 ≤ j → j < n → 128 ≤ byteAt s j ∧ byteAt s j < 192) (h1 : least ≤ foldR s r0 n) (h2 : foldR s r0 n ≤ 1114111) (h3 : foldR s r0 n < 55296 ∨ 57344 ≤ foldR s r0 n) :
  ((Utf8.decode s 0).1 : Int) = foldR s r0 n ∧ ((Utf8.decode s 0).2 : Int) = n := by
 rw [decode_decB]
 simp only [Nat.zero_add, Nat.sub_zero]
 rcases h with ⟨rfl, rfl, h4, h5, rfl⟩ | ⟨rfl, rfl, h4, h5, rfl⟩ | ⟨rfl, rfl, h4, h5, rfl⟩
 ·have c1 := hc 1 (by omega) (by omega)
  rw [foldR2] at h1 h2 h3 ⊢
  unfold decB
  rw [if_neg (by omega), if_pos (by omega), if_pos (by omega)]
  refine ⟨?_, rfl⟩
  show ((byteAt s 0 % 32 * 64 + byteAt s 1 % 64 : Nat) : Int) = _
  omega
 ·have c1 := hc 1 (by omega) (by omega)
  have c2 := hc 2 (by omega) (by omega)
  rw [foldR3] at h1 h2 h3 ⊢
  unfold decB
  rw [if_neg (by omega), if_neg (by omega), if_pos (by omega), if_pos (by omega)]
  refine ⟨?_, rfl⟩
  show ((byteAt s 0 % 16 * 4096 + byteAt s 1 % 64 * 64 + byteAt s 2 % 64 : Nat) : Int) = _
  omega
 ·have c1 := hc 1 (by omega) (by omega)
  have c2 := hc 2 (by omega) (by omega)
  have c3 := hc 3 (by omega) (by omega)
  rw [foldR4] at h1 h2 h3 ⊢
  unfold decB
  rw [if_neg (by omega), if_neg (by omega), if_neg (by omega), if_pos (by omega), if_pos (by omega)]
  refine ⟨?_, rfl⟩
  show ((byteAt s 0 % 8 * 262144 + byteAt s 1 % 64 * 4096 + byteAt s 2 % 64 * 64 + byteAt s 3 % 64 : Nat) : Int) = _
  omega
theorem Lead.short {s : ByteArray} {n : Nat} {least r0 : Int} (h : Lead s n least r0) (hs : s.size < n) : Utf8.decode s 0 = (65533, 1) := by
 rw [decode_decB]
 simp only [Nat.zero_add, Nat.sub_zero]
 unfold decB
 unfold Lead at h
 rw [if_neg (by omega), if_neg (by omega), if_neg (by omega), if_neg (by omega)]
theorem Lead.odd {s : ByteArray} {n : Nat} {least r0 : Int} (h : Lead s n least r0) {j : Nat} (h1 : 1 ≤ j) (h2 : j < n) (h3 : byteAt s j < 128 ∨ 192 ≤ byteAt s j) : Utf8.decode s 0 = (65533, 1) := by
 rw [decode_decB]
 simp only [Nat.zero_add, Nat.sub_zero]
 unfold decB
 unfold Lead at h
 have hj : j = 1 ∨ j = 2 ∨ j = 3 := by omega
 have := byteAt_lt s j
 rcases hj with rfl | rfl | rfl
 all_goals rw [if_neg (by omega), if_neg (by omega), if_neg (by omega), if_neg (by omega)]
theorem Lead.no {s : ByteArray} {n : Nat} {least r0 : Int} (h : Lead s n least r0) (hs : n ≤ s.size) (hc : ∀ j, 1 ≤ j → j < n → 128 ≤ byteAt s j ∧ byteAt s j < 192) (h1 : foldR s r0 n < least ∨ 1114111 < foldR s r0 n ∨ (55296 ≤ foldR s r0 n ∧ foldR s r0 n < 57344)) : Utf8.decode s 0 = (65533, 1) := by
 rw [decode_decB]
 simp only [Nat.zero_add, Nat.sub_zero]
 rcases h with ⟨rfl, rfl, h4, h5, rfl⟩ | ⟨rfl, rfl, h4, h5, rfl⟩ | ⟨rfl, rfl, h4, h5, rfl⟩
 ·have c1 := hc 1 (by omega) (by omega)
  rw [foldR2] at h1
  unfold decB
  rw [if_neg (by omega), if_pos (by omega), if_neg (by omega)]
 ·have c1 := hc 1 (by omega) (by omega)
  have c2 := hc 2 (by omega) (by omega)
  rw [foldR3] at h1
  unfold decB
  rw [if_neg (by omega), if_neg (by omega), if_pos (by omega), if_neg (by omega)]
 ·have c1 := hc 1 (by omega) (by omega)
  have c2 := hc 2 (by omega) (by omega)
  have c3 := hc 3 (by omega) (by omega)
  rw [foldR4] at h1
  unfold decB
  rw [if_neg (by omega), if_neg (by omega), if_neg (by omega), if_pos (by omega), if_neg (by omega)]
theorem decode_default {s : ByteArray} (h : (128 ≤ byteAt s 0 ∧ byteAt s 0 < 192) ∨ 248 ≤ byteAt s 0) : Utf8.decode s 0 = (65533, 1) := by
 rw [decode_decB]
 simp only [Nat.zero_add, Nat.sub_zero]
 unfold decB
 have := byteAt_lt s 0
 rw [if_neg (by omega), if_neg (by omega), if_neg (by omega), if_neg (by omega)]
theorem decode_small {s : ByteArray} (h : byteAt s 0 < 128) : Utf8.decode s 0 = (byteAt s 0, 1) := by
 rw [decode_decB]
 unfold decB
 rw [if_pos h]
theorem decode_fits (s : ByteArray) (pos : Nat) (h : pos < s.size) : pos + (Utf8.decode s pos).2 ≤ s.size := by
 rw [decode_decB]
 unfold decB
 repeat' split
 all_goals (simp only; omega)
def oneAns (s : ByteArray) : Value := .tuple #[.int .i64 ((Utf8.decode s 0).1 : Int), .int .i64 ((Utf8.decode s 0).2 : Int)]
theorem oneAns_err {s : ByteArray} (h : Utf8.decode s 0 = (65533, 1)) : oneAns s = .tuple #[.int .i64 65533, .int .i64 1] := by unfold oneAns; rw [h]; rfl
theorem oneAns_of {s : ByteArray} {a b : Int} (h : ((Utf8.decode s 0).1 : Int) = a ∧ ((Utf8.decode s 0).2 : Int) = b) : oneAns s = .tuple #[.int .i64 a, .int .i64 b] := by unfold oneAns; rw [h.1, h.2]
set_option maxRecDepth 100000 in
set_option maxHeartbeats 2000000 in
theorem one_any (s : ByteArray) (w : World) (hs : s.size ≤ maxLen) (h0 : 0 < s.size) :
  Calls Tryz.prog 131 #[.string s] w fun e w' => e = .returned (oneAns s) ∧ w' = w := by
 unfold maxLen at hs
 have hb := byteAt_get h0
 have hu := byteAt_lt s 0
 by_cases h1 : byteAt s 0 < 128
 ·have HV : Hid (oneAns s = .tuple #[.int .i64 (s[0].toNat : Int), .int .i64 1]) := by unfold Hid; rw [oneAns, decode_small h1, hb]; rfl
  have h2 : (s[0].toNat : Int) < 128 := by omega
  clear hb hu h1
  go_enter Tryz.func131, Tryz.ntmps131
  go_wp2
  go_ret2
  exact ⟨by rw [HV.out]; rfl, rfl⟩
 by_cases h2 : byteAt s 0 < 192 ∨ 248 ≤ byteAt s 0
 ·have HV := hide (oneAns_err (decode_default (s := s) (by omega)))
  have h3 : ¬ (s[0].toNat : Int) < 128 := by omega
  rcases h2 with h2 | h2
  ·have h4 : (s[0].toNat : Int) < 192 := by omega
   clear hb hu h1 h2
   go_enter Tryz.func131, Tryz.ntmps131
   go_wp2
   go_ret2
   exact ⟨by rw [HV.out]; rfl, rfl⟩
  ·have h4 : 248 ≤ (s[0].toNat : Int) := by omega
   have h5 : (s[0].toNat : Int) < 256 := by omega
   clear hb hu h1 h2
   go_enter Tryz.func131, Tryz.ntmps131
   go_wp2
   go_ret2
   exact ⟨by rw [HV.out]; rfl, rfl⟩
 have hl : (∃ n least r0, Lead s n least r0 ∧ n = 2 ∧ least = 128 ∧ r0 = (s[0].toNat : Int) - 192 ∧ 192 ≤ (s[0].toNat : Int) ∧ (s[0].toNat : Int) < 224) ∨
   (∃ n least r0, Lead s n least r0 ∧ n = 3 ∧ least = 2048 ∧ r0 = (s[0].toNat : Int) - 224 ∧ 224 ≤ (s[0].toNat : Int) ∧ (s[0].toNat : Int) < 240) ∨
   (∃ n least r0, Lead s n least r0 ∧ n = 4 ∧ least = 65536 ∧ r0 = (s[0].toNat : Int) - 240 ∧ 240 ≤ (s[0].toNat : Int) ∧ (s[0].toNat : Int) < 248) := by
  by_cases h3 : byteAt s 0 < 224
  ·exact .inl ⟨2, 128, _, .inl ⟨rfl, rfl, by omega, by omega, rfl⟩, rfl, rfl, by omega, by omega, by omega⟩
  by_cases h4 : byteAt s 0 < 240
  ·exact .inr (.inl ⟨3, 2048, _, .inr (.inl ⟨rfl, rfl, by omega, by omega, rfl⟩), rfl, rfl, by omega, by omega, by omega⟩)
  ·exact .inr (.inr ⟨4, 65536, _, .inr (.inr ⟨rfl, rfl, by omega, by omega, rfl⟩), rfl, rfl, by omega, by omega, by omega⟩)
 clear hb hu h1 h2
 rcases hl with ⟨n, least, r0, hl, rfl, rfl, rfl, h1, h2⟩ | ⟨n, least, r0, hl, rfl, rfl, rfl, h1, h2⟩ | ⟨n, least, r0, hl, rfl, rfl, rfl, h1, h2⟩
 all_goals
  have HL := hide hl
  clear hl
 ·by_cases hz : s.size < 2
  ·have HV := hide (oneAns_err (HL.out.short hz))
   go_enter Tryz.func131, Tryz.ntmps131
   go_wp2
   go_ret2
   exact ⟨by rw [HV.out]; rfl, rfl⟩
  go_enter Tryz.func131, Tryz.ntmps131
  go_wp2
  go_loop [7, 8] (fun r i => ∃ k : Nat, 1 ≤ k ∧ k ≤ 2 ∧ i = .int .i64 k ∧ (∀ j, 1 ≤ j → j < k → 128 ≤ byteAt s j ∧ byteAt s j < 192) ∧ r = .int .i64 (foldR s ((s[0].toNat : Int) - 192) k)) (fun _ i => 2 - (intOf i).toNat)
  case atStart => exact ⟨1, by omega, by omega, rfl, fun j h h' => by omega, rfl⟩
  case round =>
   obtain ⟨k, hk1, hk2, rfl, hc, rfl⟩ := hrel
   have hbd := HL.out.bound k hk2 hc
   have HC := hide hc
   clear hc
   by_cases hlt : k < 2
   ·have hks : k < s.size := by omega
    have hbk := byteAt_get hks
    have hbl := byteAt_lt s k
    have HST := hide (foldR_step s ((s[0].toNat : Int) - 192) hk1)
    rw [← hbk] at HST
    obtain ⟨x, hx⟩ : ∃ x, foldR s ((s[0].toNat : Int) - 192) k = x := ⟨_, rfl⟩
    rw [hx] at hbd HST
    simp only [hx]
    by_cases hlo : (s[k].toNat : Int) < 128
    ·have HV := hide (oneAns_err (HL.out.odd hk1 hlt (.inl (by omega))))
     have hup : (s[k].toNat : Int) < 256 := by omega
     clear hbk hbl
     go_wp2
     go_ret2
     exact ⟨by rw [HV.out]; rfl, rfl⟩
    by_cases hhi : 192 ≤ (s[k].toNat : Int)
    ·have HV := hide (oneAns_err (HL.out.odd hk1 hlt (.inr (by omega))))
     have hup : (s[k].toNat : Int) < 256 := by omega
     clear hbk hbl
     go_wp2
     go_ret2
     exact ⟨by rw [HV.out]; rfl, rfl⟩
    have HC' : Hid (∀ j, 1 ≤ j → j < k + 1 → 128 ≤ byteAt s j ∧ byteAt s j < 192) := fun j h h' => by
     by_cases e : j = k
     ·subst e; omega
     ·exact HC.out j h (by omega)
    clear hbk hbl
    go_wp2
    go_round
    case rel => exact ⟨k + 1, by omega, by omega, by go_num, HC'.out, by rw [HST.out]⟩
    case measure => simp [intOf]; omega
   ·have hk : k = 2 := by omega
    subst hk
    have HY := hide (fun h1 h2 h3 => oneAns_of (HL.out.yes (by omega) HC.out h1 h2 h3))
    have HN := hide (fun h1 => oneAns_err (HL.out.no (by omega) HC.out h1))
    obtain ⟨x, hx⟩ : ∃ x, foldR s ((s[0].toNat : Int) - 192) 2 = x := ⟨_, rfl⟩
    rw [hx] at hbd HY HN
    simp only [hx]
    by_cases hx1 : x < 128
    ·have HV := hide (HN.out (.inl hx1))
     go_wp2
     go_ret2
     exact ⟨by rw [HV.out]; rfl, rfl⟩
    by_cases hx2 : 1114111 < x
    ·have HV := hide (HN.out (.inr (.inl hx2)))
     go_wp2
     go_ret2
     exact ⟨by rw [HV.out]; rfl, rfl⟩
    by_cases hx3 : x < 55296
    ·have HV := hide (HY.out (by omega) (by omega) (.inl hx3))
     go_wp2
     go_ret2
     exact ⟨by rw [HV.out]; rfl, rfl⟩
    by_cases hx4 : x < 57344
    ·have HV := hide (HN.out (.inr (.inr ⟨by omega, hx4⟩)))
     go_wp2
     go_ret2
     exact ⟨by rw [HV.out]; rfl, rfl⟩
    ·have HV := hide (HY.out (by omega) (by omega) (.inr (by omega)))
     go_wp2
     go_ret2
     exact ⟨by rw [HV.out]; rfl, rfl⟩
 ·by_cases hz : s.size < 3
  ·have HV := hide (oneAns_err (HL.out.short hz))
   go_enter Tryz.func131, Tryz.ntmps131
   go_wp2
   go_ret2
   exact ⟨by rw [HV.out]; rfl, rfl⟩
  go_enter Tryz.func131, Tryz.ntmps131
  go_wp2
  go_loop [7, 8] (fun r i => ∃ k : Nat, 1 ≤ k ∧ k ≤ 3 ∧ i = .int .i64 k ∧ (∀ j, 1 ≤ j → j < k → 128 ≤ byteAt s j ∧ byteAt s j < 192) ∧ r = .int .i64 (foldR s ((s[0].toNat : Int) - 224) k)) (fun _ i => 3 - (intOf i).toNat)
  case atStart => exact ⟨1, by omega, by omega, rfl, fun j h h' => by omega, rfl⟩
  case round =>
   obtain ⟨k, hk1, hk2, rfl, hc, rfl⟩ := hrel
   have hbd := HL.out.bound k hk2 hc
   have HC := hide hc
   clear hc
   by_cases hlt : k < 3
   ·have hks : k < s.size := by omega
    have hbk := byteAt_get hks
    have hbl := byteAt_lt s k
    have HST := hide (foldR_step s ((s[0].toNat : Int) - 224) hk1)
    rw [← hbk] at HST
    obtain ⟨x, hx⟩ : ∃ x, foldR s ((s[0].toNat : Int) - 224) k = x := ⟨_, rfl⟩
    rw [hx] at hbd HST
    simp only [hx]
    by_cases hlo : (s[k].toNat : Int) < 128
    ·have HV := hide (oneAns_err (HL.out.odd hk1 hlt (.inl (by omega))))
     have hup : (s[k].toNat : Int) < 256 := by omega
     clear hbk hbl
     go_wp2
     go_ret2
     exact ⟨by rw [HV.out]; rfl, rfl⟩
    by_cases hhi : 192 ≤ (s[k].toNat : Int)
    ·have HV := hide (oneAns_err (HL.out.odd hk1 hlt (.inr (by omega))))
     have hup : (s[k].toNat : Int) < 256 := by omega
     clear hbk hbl
     go_wp2
     go_ret2
     exact ⟨by rw [HV.out]; rfl, rfl⟩
    have HC' : Hid (∀ j, 1 ≤ j → j < k + 1 → 128 ≤ byteAt s j ∧ byteAt s j < 192) := fun j h h' => by
     by_cases e : j = k
     ·subst e; omega
     ·exact HC.out j h (by omega)
    clear hbk hbl
    go_wp2
    go_round
    case rel => exact ⟨k + 1, by omega, by omega, by go_num, HC'.out, by rw [HST.out]⟩
    case measure => simp [intOf]; omega
   ·have hk : k = 3 := by omega
    subst hk
    have HY := hide (fun h1 h2 h3 => oneAns_of (HL.out.yes (by omega) HC.out h1 h2 h3))
    have HN := hide (fun h1 => oneAns_err (HL.out.no (by omega) HC.out h1))
    obtain ⟨x, hx⟩ : ∃ x, foldR s ((s[0].toNat : Int) - 224) 3 = x := ⟨_, rfl⟩
    rw [hx] at hbd HY HN
    simp only [hx]
    by_cases hx1 : x < 2048
    ·have HV := hide (HN.out (.inl hx1))
     go_wp2
     go_ret2
     exact ⟨by rw [HV.out]; rfl, rfl⟩
    by_cases hx2 : 1114111 < x
    ·have HV := hide (HN.out (.inr (.inl hx2)))
     go_wp2
     go_ret2
     exact ⟨by rw [HV.out]; rfl, rfl⟩
    by_cases hx3 : x < 55296
    ·have HV := hide (HY.out (by omega) (by omega) (.inl hx3))
     go_wp2
     go_ret2
     exact ⟨by rw [HV.out]; rfl, rfl⟩
    by_cases hx4 : x < 57344
    ·have HV := hide (HN.out (.inr (.inr ⟨by omega, hx4⟩)))
     go_wp2
     go_ret2
     exact ⟨by rw [HV.out]; rfl, rfl⟩
    ·have HV := hide (HY.out (by omega) (by omega) (.inr (by omega)))
     go_wp2
     go_ret2
     exact ⟨by rw [HV.out]; rfl, rfl⟩
 ·by_cases hz : s.size < 4
  ·have HV := hide (oneAns_err (HL.out.short hz))
   go_enter Tryz.func131, Tryz.ntmps131
   go_wp2
   go_ret2
   exact ⟨by rw [HV.out]; rfl, rfl⟩
  go_enter Tryz.func131, Tryz.ntmps131
  go_wp2
  go_loop [7, 8] (fun r i => ∃ k : Nat, 1 ≤ k ∧ k ≤ 4 ∧ i = .int .i64 k ∧ (∀ j, 1 ≤ j → j < k → 128 ≤ byteAt s j ∧ byteAt s j < 192) ∧ r = .int .i64 (foldR s ((s[0].toNat : Int) - 240) k)) (fun _ i => 4 - (intOf i).toNat)
  case atStart => exact ⟨1, by omega, by omega, rfl, fun j h h' => by omega, rfl⟩
  case round =>
   obtain ⟨k, hk1, hk2, rfl, hc, rfl⟩ := hrel
   have hbd := HL.out.bound k hk2 hc
   have HC := hide hc
   clear hc
   by_cases hlt : k < 4
   ·have hks : k < s.size := by omega
    have hbk := byteAt_get hks
    have hbl := byteAt_lt s k
    have HST := hide (foldR_step s ((s[0].toNat : Int) - 240) hk1)
    rw [← hbk] at HST
    obtain ⟨x, hx⟩ : ∃ x, foldR s ((s[0].toNat : Int) - 240) k = x := ⟨_, rfl⟩
    rw [hx] at hbd HST
    simp only [hx]
    by_cases hlo : (s[k].toNat : Int) < 128
    ·have HV := hide (oneAns_err (HL.out.odd hk1 hlt (.inl (by omega))))
     have hup : (s[k].toNat : Int) < 256 := by omega
     clear hbk hbl
     go_wp2
     go_ret2
     exact ⟨by rw [HV.out]; rfl, rfl⟩
    by_cases hhi : 192 ≤ (s[k].toNat : Int)
    ·have HV := hide (oneAns_err (HL.out.odd hk1 hlt (.inr (by omega))))
     have hup : (s[k].toNat : Int) < 256 := by omega
     clear hbk hbl
     go_wp2
     go_ret2
     exact ⟨by rw [HV.out]; rfl, rfl⟩
    have HC' : Hid (∀ j, 1 ≤ j → j < k + 1 → 128 ≤ byteAt s j ∧ byteAt s j < 192) := fun j h h' => by
     by_cases e : j = k
     ·subst e; omega
     ·exact HC.out j h (by omega)
    clear hbk hbl
    go_wp2
    go_round
    case rel => exact ⟨k + 1, by omega, by omega, by go_num, HC'.out, by rw [HST.out]⟩
    case measure => simp [intOf]; omega
   ·have hk : k = 4 := by omega
    subst hk
    have HY := hide (fun h1 h2 h3 => oneAns_of (HL.out.yes (by omega) HC.out h1 h2 h3))
    have HN := hide (fun h1 => oneAns_err (HL.out.no (by omega) HC.out h1))
    obtain ⟨x, hx⟩ : ∃ x, foldR s ((s[0].toNat : Int) - 240) 4 = x := ⟨_, rfl⟩
    rw [hx] at hbd HY HN
    simp only [hx]
    by_cases hx1 : x < 65536
    ·have HV := hide (HN.out (.inl hx1))
     go_wp2
     go_ret2
     exact ⟨by rw [HV.out]; rfl, rfl⟩
    by_cases hx2 : 1114111 < x
    ·have HV := hide (HN.out (.inr (.inl hx2)))
     go_wp2
     go_ret2
     exact ⟨by rw [HV.out]; rfl, rfl⟩
    by_cases hx3 : x < 55296
    ·omega
    by_cases hx4 : x < 57344
    ·omega
    ·have HV := hide (HY.out (by omega) (by omega) (.inr (by omega)))
     go_wp2
     go_ret2
     exact ⟨by rw [HV.out]; rfl, rfl⟩
end Go.Proofs.YtmnjjjhmnhfapaaGreatDoor
