import Derived.Test.YtmnjjjhmnhfapaaGreatDoorMRefOne
namespace Go.Proofs.YtmnjjjhmnhfapaaGreatDoor
open Go.RowKit
def oneAns (s : ByteArray) : Value := .tuple #[.int .i64 ((Utf8.decode s 0).1 : Int), .int .i64 ((Utf8.decode s 0).2 : Int)]
theorem oneAns_err {s : ByteArray} (h : Utf8.decode s 0 = (65533, 1)) : oneAns s = .tuple #[.int .i64 65533, .int .i64 1] := by unfold oneAns; rw [h]; rfl
theorem oneAns_of {s : ByteArray} {a b : Int} (h : ((Utf8.decode s 0).1 : Int) = a ∧ ((Utf8.decode s 0).2 : Int) = b) : oneAns s = .tuple #[.int .i64 a, .int .i64 b] := by unfold oneAns; rw [h.1, h.2]
set_option maxRecDepth 100000 in
set_option maxHeartbeats 2000000 in
theorem one_any (s : ByteArray) (w : World) (hs : s.size ≤ maxLen) (h0 : 0 < s.size) :
  Calls Tryz.prog 131 #[.string s] w fun e w' => e = .returned (oneAns s) ∧ w' = w := by
 unfold maxLen at hs
 have hb := byteAt_get h0
 have hu := byteAt_lt s 0
 by_cases h1 : byteAt s 0 < 128
 ·have HV : Hid (oneAns s = .tuple #[.int .i64 (s[0].toNat : Int), .int .i64 1]) := by unfold Hid; rw [oneAns, decode_small h1, hb]; rfl
  have h2 : (s[0].toNat : Int) < 128 := by omega
  clear hb hu h1
  go_enter Tryz.func131, Tryz.ntmps131
  go_wp2
  go_ret2
  exact ⟨by rw [HV.out]; rfl, rfl⟩
 by_cases h2 : byteAt s 0 < 192 ∨ 248 ≤ byteAt s 0
 ·have HV := hide (oneAns_err (decode_default (s := s) (by omega)))
  have h3 : ¬ (s[0].toNat : Int) < 128 := by omega
  rcases h2 with h2 | h2
  ·have h4 : (s[0].toNat : Int) < 192 := by omega
   clear hb hu h1 h2
   go_enter Tryz.func131, Tryz.ntmps131
   go_wp2
   go_ret2
   exact ⟨by rw [HV.out]; rfl, rfl⟩
  ·have h4 : 248 ≤ (s[0].toNat : Int) := by omega
   have h5 : (s[0].toNat : Int) < 256 := by omega
   clear hb hu h1 h2
   go_enter Tryz.func131, Tryz.ntmps131
   go_wp2
   go_ret2
   exact ⟨by rw [HV.out]; rfl, rfl⟩
 have hl : (∃ n least r0, Lead s n least r0 ∧ n = 2 ∧ least = 128 ∧ r0 = (s[0].toNat : Int) - 192 ∧ 192 ≤ (s[0].toNat : Int) ∧ (s[0].toNat : Int) < 224) ∨
   (∃ n least r0, Lead s n least r0 ∧ n = 3 ∧ least = 2048 ∧ r0 = (s[0].toNat : Int) - 224 ∧ 224 ≤ (s[0].toNat : Int) ∧ (s[0].toNat : Int) < 240) ∨
   (∃ n least r0, Lead s n least r0 ∧ n = 4 ∧ least = 65536 ∧ r0 = (s[0].toNat : Int) - 240 ∧ 240 ≤ (s[0].toNat : Int) ∧ (s[0].toNat : Int) < 248) := by
  by_cases h3 : byteAt s 0 < 224
  ·exact .inl ⟨2, 128, _, .inl ⟨rfl, rfl, by omega, by omega, rfl⟩, rfl, rfl, by omega, by omega, by omega⟩
  by_cases h4 : byteAt s 0 < 240
  ·exact .inr (.inl ⟨3, 2048, _, .inr (.inl ⟨rfl, rfl, by omega, by omega, rfl⟩), rfl, rfl, by omega, by omega, by omega⟩)
  ·exact .inr (.inr ⟨4, 65536, _, .inr (.inr ⟨rfl, rfl, by omega, by omega, rfl⟩), rfl, rfl, by omega, by omega, by omega⟩)
 clear hb hu h1 h2
 rcases hl with ⟨n, least, r0, hl, rfl, rfl, rfl, h1, h2⟩ | ⟨n, least, r0, hl, rfl, rfl, rfl, h1, h2⟩ | ⟨n, least, r0, hl, rfl, rfl, rfl, h1, h2⟩
 all_goals
  have HL := hide hl
  clear hl
 ·by_cases hz : s.size < 2
  ·have HV := hide (oneAns_err (HL.out.short hz))
   go_enter Tryz.func131, Tryz.ntmps131
   go_wp2
   go_ret2
   exact ⟨by rw [HV.out]; rfl, rfl⟩
  go_enter Tryz.func131, Tryz.ntmps131
  go_wp2
  go_loop [7, 8] (fun r i => ∃ k : Nat, 1 ≤ k ∧ k ≤ 2 ∧ i = .int .i64 k ∧ (∀ j, 1 ≤ j → j < k → 128 ≤ byteAt s j ∧ byteAt s j < 192) ∧ r = .int .i64 (foldR s ((s[0].toNat : Int) - 192) k)) (fun _ i => 2 - (intOf i).toNat)
  case atStart => exact ⟨1, by omega, by omega, rfl, fun j h h' => by omega, rfl⟩
  case round =>
   obtain ⟨k, hk1, hk2, rfl, hc, rfl⟩ := hrel
   have hbd := HL.out.bound k hk2 hc
   have HC := hide hc
   clear hc
   by_cases hlt : k < 2
   ·have hks : k < s.size := by omega
    have hbk := byteAt_get hks
    have hbl := byteAt_lt s k
    have HST := hide (foldR_step s ((s[0].toNat : Int) - 192) hk1)
    rw [← hbk] at HST
    obtain ⟨x, hx⟩ : ∃ x, foldR s ((s[0].toNat : Int) - 192) k = x := ⟨_, rfl⟩
    rw [hx] at hbd HST
    simp only [hx]
    by_cases hlo : (s[k].toNat : Int) < 128
    ·have HV := hide (oneAns_err (HL.out.odd hk1 hlt (.inl (by omega))))
     have hup : (s[k].toNat : Int) < 256 := by omega
     clear hbk hbl
     go_wp2
     go_ret2
     exact ⟨by rw [HV.out]; rfl, rfl⟩
    by_cases hhi : 192 ≤ (s[k].toNat : Int)
    ·have HV := hide (oneAns_err (HL.out.odd hk1 hlt (.inr (by omega))))
     have hup : (s[k].toNat : Int) < 256 := by omega
     clear hbk hbl
     go_wp2
     go_ret2
     exact ⟨by rw [HV.out]; rfl, rfl⟩
    have HC' : Hid (∀ j, 1 ≤ j → j < k + 1 → 128 ≤ byteAt s j ∧ byteAt s j < 192) := fun j h h' => by
     by_cases e : j = k
     ·subst e; omega
     ·exact HC.out j h (by omega)
    clear hbk hbl
    go_wp2
    go_round
    case rel => exact ⟨k + 1, by omega, by omega, by go_num, HC'.out, by rw [HST.out]⟩
    case measure => simp [intOf]; omega
   ·have hk : k = 2 := by omega
    subst hk
    have HY := hide (fun h1 h2 h3 => oneAns_of (HL.out.yes (by omega) HC.out h1 h2 h3))
    have HN := hide (fun h1 => oneAns_err (HL.out.no (by omega) HC.out h1))
    obtain ⟨x, hx⟩ : ∃ x, foldR s ((s[0].toNat : Int) - 192) 2 = x := ⟨_, rfl⟩
    rw [hx] at hbd HY HN
    simp only [hx]
    by_cases hx1 : x < 128
    ·have HV := hide (HN.out (.inl hx1))
     go_wp2
     go_ret2
     exact ⟨by rw [HV.out]; rfl, rfl⟩
    by_cases hx2 : 1114111 < x
    ·have HV := hide (HN.out (.inr (.inl hx2)))
     go_wp2
     go_ret2
     exact ⟨by rw [HV.out]; rfl, rfl⟩
    by_cases hx3 : x < 55296
    ·have HV := hide (HY.out (by omega) (by omega) (.inl hx3))
     go_wp2
     go_ret2
     exact ⟨by rw [HV.out]; rfl, rfl⟩
    by_cases hx4 : x < 57344
    ·have HV := hide (HN.out (.inr (.inr ⟨by omega, hx4⟩)))
     go_wp2
     go_ret2
     exact ⟨by rw [HV.out]; rfl, rfl⟩
    ·have HV := hide (HY.out (by omega) (by omega) (.inr (by omega)))
     go_wp2
     go_ret2
     exact ⟨by rw [HV.out]; rfl, rfl⟩
 ·by_cases hz : s.size < 3
  ·have HV := hide (oneAns_err (HL.out.short hz))
   go_enter Tryz.func131, Tryz.ntmps131
   go_wp2
   go_ret2
   exact ⟨by rw [HV.out]; rfl, rfl⟩
  go_enter Tryz.func131, Tryz.ntmps131
  go_wp2
  go_loop [7, 8] (fun r i => ∃ k : Nat, 1 ≤ k ∧ k ≤ 3 ∧ i = .int .i64 k ∧ (∀ j, 1 ≤ j → j < k → 128 ≤ byteAt s j ∧ byteAt s j < 192) ∧ r = .int .i64 (foldR s ((s[0].toNat : Int) - 224) k)) (fun _ i => 3 - (intOf i).toNat)
  case atStart => exact ⟨1, by omega, by omega, rfl, fun j h h' => by omega, rfl⟩
  case round =>
   obtain ⟨k, hk1, hk2, rfl, hc, rfl⟩ := hrel
   have hbd := HL.out.bound k hk2 hc
   have HC := hide hc
   clear hc
   by_cases hlt : k < 3
   ·have hks : k < s.size := by omega
    have hbk := byteAt_get hks
    have hbl := byteAt_lt s k
    have HST := hide (foldR_step s ((s[0].toNat : Int) - 224) hk1)
    rw [← hbk] at HST
    obtain ⟨x, hx⟩ : ∃ x, foldR s ((s[0].toNat : Int) - 224) k = x := ⟨_, rfl⟩
    rw [hx] at hbd HST
    simp only [hx]
    by_cases hlo : (s[k].toNat : Int) < 128
    ·have HV := hide (oneAns_err (HL.out.odd hk1 hlt (.inl (by omega))))
     have hup : (s[k].toNat : Int) < 256 := by omega
     clear hbk hbl
     go_wp2
     go_ret2
     exact ⟨by rw [HV.out]; rfl, rfl⟩
    by_cases hhi : 192 ≤ (s[k].toNat : Int)
    ·have HV := hide (oneAns_err (HL.out.odd hk1 hlt (.inr (by omega))))
     have hup : (s[k].toNat : Int) < 256 := by omega
     clear hbk hbl
     go_wp2
     go_ret2
     exact ⟨by rw [HV.out]; rfl, rfl⟩
    have HC' : Hid (∀ j, 1 ≤ j → j < k + 1 → 128 ≤ byteAt s j ∧ byteAt s j < 192) := fun j h h' => by
     by_cases e : j = k
     ·subst e; omega
     ·exact HC.out j h (by omega)
    clear hbk hbl
    go_wp2
    go_round
    case rel => exact ⟨k + 1, by omega, by omega, by go_num, HC'.out, by rw [HST.out]⟩
    case measure => simp [intOf]; omega
   ·have hk : k = 3 := by omega
    subst hk
    have HY := hide (fun h1 h2 h3 => oneAns_of (HL.out.yes (by omega) HC.out h1 h2 h3))
    have HN := hide (fun h1 => oneAns_err (HL.out.no (by omega) HC.out h1))
    obtain ⟨x, hx⟩ : ∃ x, foldR s ((s[0].toNat : Int) - 224) 3 = x := ⟨_, rfl⟩
    rw [hx] at hbd HY HN
    simp only [hx]
    by_cases hx1 : x < 2048
    ·have HV := hide (HN.out (.inl hx1))
     go_wp2
     go_ret2
     exact ⟨by rw [HV.out]; rfl, rfl⟩
    by_cases hx2 : 1114111 < x
    ·have HV := hide (HN.out (.inr (.inl hx2)))
     go_wp2
     go_ret2
     exact ⟨by rw [HV.out]; rfl, rfl⟩
    by_cases hx3 : x < 55296
    ·have HV := hide (HY.out (by omega) (by omega) (.inl hx3))
     go_wp2
     go_ret2
     exact ⟨by rw [HV.out]; rfl, rfl⟩
    by_cases hx4 : x < 57344
    ·have HV := hide (HN.out (.inr (.inr ⟨by omega, hx4⟩)))
     go_wp2
     go_ret2
     exact ⟨by rw [HV.out]; rfl, rfl⟩
    ·have HV := hide (HY.out (by omega) (by omega) (.inr (by omega)))
     go_wp2
     go_ret2
     exact ⟨by rw [HV.out]; rfl, rfl⟩
 ·by_cases hz : s.size < 4
  ·have HV := hide (oneAns_err (HL.out.short hz))
   go_enter Tryz.func131, Tryz.ntmps131
   go_wp2
   go_ret2
   exact ⟨by rw [HV.out]; rfl, rfl⟩
  go_enter Tryz.func131, Tryz.ntmps131
  go_wp2
  go_loop [7, 8] (fun r i => ∃ k : Nat, 1 ≤ k ∧ k ≤ 4 ∧ i = .int .i64 k ∧ (∀ j, 1 ≤ j → j < k → 128 ≤ byteAt s j ∧ byteAt s j < 192) ∧ r = .int .i64 (foldR s ((s[0].toNat : Int) - 240) k)) (fun _ i => 4 - (intOf i).toNat)
  case atStart => exact ⟨1, by omega, by omega, rfl, fun j h h' => by omega, rfl⟩
  case round =>
   obtain ⟨k, hk1, hk2, rfl, hc, rfl⟩ := hrel
   have hbd := HL.out.bound k hk2 hc
   have HC := hide hc
   clear hc
   by_cases hlt : k < 4
   ·have hks : k < s.size := by omega
    have hbk := byteAt_get hks
    have hbl := byteAt_lt s k
    have HST := hide (foldR_step s ((s[0].toNat : Int) - 240) hk1)
    rw [← hbk] at HST
    obtain ⟨x, hx⟩ : ∃ x, foldR s ((s[0].toNat : Int) - 240) k = x := ⟨_, rfl⟩
    rw [hx] at hbd HST
    simp only [hx]
    by_cases hlo : (s[k].toNat : Int) < 128
    ·have HV := hide (oneAns_err (HL.out.odd hk1 hlt (.inl (by omega))))
     have hup : (s[k].toNat : Int) < 256 := by omega
     clear hbk hbl
     go_wp2
     go_ret2
     exact ⟨by rw [HV.out]; rfl, rfl⟩
    by_cases hhi : 192 ≤ (s[k].toNat : Int)
    ·have HV := hide (oneAns_err (HL.out.odd hk1 hlt (.inr (by omega))))
     have hup : (s[k].toNat : Int) < 256 := by omega
     clear hbk hbl
     go_wp2
     go_ret2
     exact ⟨by rw [HV.out]; rfl, rfl⟩
    have HC' : Hid (∀ j, 1 ≤ j → j < k + 1 → 128 ≤ byteAt s j ∧ byteAt s j < 192) := fun j h h' => by
     by_cases e : j = k
     ·subst e; omega
     ·exact HC.out j h (by omega)
    clear hbk hbl
    go_wp2
    go_round
    case rel => exact ⟨k + 1, by omega, by omega, by go_num, HC'.out, by rw [HST.out]⟩
    case measure => simp [intOf]; omega
   ·have hk : k = 4 := by omega
    subst hk
    have HY := hide (fun h1 h2 h3 => oneAns_of (HL.out.yes (by omega) HC.out h1 h2 h3))
    have HN := hide (fun h1 => oneAns_err (HL.out.no (by omega) HC.out h1))
    obtain ⟨x, hx⟩ : ∃ x, foldR s ((s[0].toNat : Int) - 240) 4 = x := ⟨_, rfl⟩
    rw [hx] at hbd HY HN
    simp only [hx]
    by_cases hx1 : x < 65536
    ·have HV := hide (HN.out (.inl hx1))
     go_wp2
     go_ret2
     exact ⟨by rw [HV.out]; rfl, rfl⟩
    by_cases hx2 : 1114111 < x
    ·have HV := hide (HN.out (.inr (.inl hx2)))
     go_wp2
     go_ret2
     exact ⟨by rw [HV.out]; rfl, rfl⟩
    by_cases hx3 : x < 55296
    ·omega
    by_cases hx4 : x < 57344
    ·omega
    ·have HV := hide (HY.out (by omega) (by omega) (.inr (by omega)))
     go_wp2
     go_ret2
     exact ⟨by rw [HV.out]; rfl, rfl⟩
end Go.Proofs.YtmnjjjhmnhfapaaGreatDoor
