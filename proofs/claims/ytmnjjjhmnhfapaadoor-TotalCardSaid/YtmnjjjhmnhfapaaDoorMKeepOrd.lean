import Derived.Laws.IdiomStrings
import Derived.Test.YtmnjjjhmnhfapaaDoorMCodeStandW
import Derived.Test.YtmnjjjhmnhfapaaDoorMCodeGrow
import Derived.Test.YtmnjjjhmnhfapaaDoorMCodeNew
import Derived.Test.YtmnjjjhmnhfapaaDoorMRefNormalW
import Derived.Test.YtmnjjjhmnhfapaaDoorMLawFormsW
namespace Go.Proofs.YtmnjjjhmnhfapaaDoor
open Go.RowKit

namespace Tm
theorem cmpL_step {a b : List Int} {k : Nat} (ha : k < a.length) (hb : k < b.length) : cmpL (a.drop k) (b.drop k) = if a[k] < b[k] then -1 else if b[k] < a[k] then 1 else cmpL (a.drop (k + 1)) (b.drop (k + 1)) := by
  rw [List.drop_eq_getElem_cons ha, List.drop_eq_getElem_cons hb, cmpL]
theorem cmpL_more {a b : List Int} {k : Nat} (ha : k < a.length) (hb : b.length ≤ k) : cmpL (a.drop k) (b.drop k) = 1 := by
  rw [List.drop_eq_getElem_cons ha, List.drop_of_length_le hb, cmpL]
theorem cmpL_end {a b : List Int} {k : Nat} (ha : a.length ≤ k) : cmpL (a.drop k) (b.drop k) = if k < b.length then -1 else 0 := by
  rw [List.drop_of_length_le ha]
  split
  · rename_i h; rw [List.drop_eq_getElem_cons h, cmpL]
  · rename_i h; rw [List.drop_of_length_le (by omega), cmpL]
theorem cmpLL_step {a b : List (List Int)} {k : Nat} (ha : k < a.length) (hb : k < b.length) : cmpLL (a.drop k) (b.drop k) = if cmpL a[k] b[k] = 0 then cmpLL (a.drop (k + 1)) (b.drop (k + 1)) else cmpL a[k] b[k] := by
  rw [List.drop_eq_getElem_cons ha, List.drop_eq_getElem_cons hb, cmpLL]
theorem cmpLL_more {a b : List (List Int)} {k : Nat} (ha : k < a.length) (hb : b.length ≤ k) : cmpLL (a.drop k) (b.drop k) = 1 := by
  rw [List.drop_eq_getElem_cons ha, List.drop_of_length_le hb, cmpLL]
theorem cmpLL_end {a b : List (List Int)} {k : Nat} (ha : a.length ≤ k) : cmpLL (a.drop k) (b.drop k) = if k < b.length then -1 else 0 := by
  rw [List.drop_of_length_le ha]
  split
  · rename_i h; rw [List.drop_eq_getElem_cons h, cmpLL]
  · rename_i h; rw [List.drop_of_length_le (by omega), cmpLL]
end Tm

set_option maxRecDepth 100000 in
set_option maxHeartbeats 2000000 in
theorem SliceCompare_any (va vb : Value) (a b : List Int) (w : World) (ha : Reads w va 1 a.length (ints a)) (hb : Reads w vb 1 b.length (ints b)) (_hla : a.length ≤ 1000000) (_hlb : b.length ≤ 1000000) :
    Calls Tryd.prog 43 #[va, vb] w fun e w' => e = .returned (.int .i64 (Tm.cmpL a b)) ∧ w' = w := by
  obtain ⟨aa, ca, rfl⟩ := ha.shape
  obtain ⟨ab, cb, rfl⟩ := hb.shape
  have HA := hide ha
  have HB := hide hb
  obtain ⟨n, hn⟩ : ∃ n, a.length = n := ⟨_, rfl⟩
  obtain ⟨m, hm⟩ : ∃ m, b.length = m := ⟨_, rfl⟩
  have HN := hide hn
  have HM := hide hm
  rw [hn] at _hla HA
  rw [hm] at HB
  rw [hn, hm]
  clear ha hb hn hm
  go_enter Tryd.func43, Tryd.ntmps43
  go_wp2_with fail
  go_loopw [11] (fun i wr => ∃ k : Nat, k ≤ n ∧ k ≤ m ∧ i = .int .i64 k ∧ Tm.cmpL a b = Tm.cmpL (a.drop k) (b.drop k) ∧ wr = w) (fun i _ => n - (intOf i).toNat)
  case atStart => exact ⟨0, Nat.zero_le _, Nat.zero_le _, rfl, rfl, rfl⟩
  case round =>
    obtain ⟨k, hk, hkm, rfl, hcm, rfl⟩ := hrel
    have HCM := hide hcm
    clear hcm
    by_cases hlt : k < n
    · have hlt' : k < a.length := by rw [HN.out]; exact hlt
      obtain ⟨g, off, rfl, hg, ck⟩ := Reads.at (by rw [HN.out]; exact HA.out) hlt'
      have i1 : (0 : Int) ≤ (k : Int) := by omega
      have i2 : (k : Int) < (n : Int) := by omega
      by_cases hlm : k < m
      · have hlm' : k < b.length := by rw [HM.out]; exact hlm
        obtain ⟨gb, ob, rfl, hgb, cbk⟩ := Reads.at (by rw [HM.out]; exact HB.out) hlm'
        have i3 : (k : Int) < (m : Int) := by omega
        have HST := hide (Tm.cmpL_step hlt' hlm')
        generalize a[k] = x at *
        generalize b[k] = y at *
        go_wp2_with fail
        refine (Compare_any x y _).mono ?_
        rintro e w1 ⟨rfl, rfl⟩
        by_cases h1 : x < y
        · have hc : cmpInt x y = -1 := by unfold cmpInt; rw [if_pos h1]
          rw [hc]
          clear hc
          go_wp2
          go_ret
          exact ⟨ret_int (by rw [HCM.out, HST.out, if_pos h1]), rfl⟩
        · by_cases h2 : y < x
          · have hc : cmpInt x y = 1 := by unfold cmpInt; rw [if_neg h1, if_pos h2]
            rw [hc]
            clear hc
            go_wp2
            go_ret
            exact ⟨ret_int (by rw [HCM.out, HST.out, if_neg (by omega), if_pos h2]), rfl⟩
          · have hc : cmpInt x y = 0 := by unfold cmpInt; rw [if_neg h1, if_neg h2]
            rw [hc]
            clear hc
            go_wp2
            go_roundw
            case rel => exact ⟨k + 1, by omega, by omega, by go_num, by rw [HCM.out, HST.out, if_neg (by omega), if_neg (by omega)], by first | rfl | trivial⟩
            case measure => simp [intOf]; omega
      · have HST := hide (Tm.cmpL_more hlt' (show b.length ≤ k by rw [HM.out]; omega))
        go_wp2
        go_ret
        exact ⟨ret_int (by rw [HCM.out, HST.out]), rfl⟩
    · have HST := hide (Tm.cmpL_end (b := b) (show a.length ≤ k by rw [HN.out]; omega))
      rw [HM.out] at HST
      by_cases hnm : n < m
      · go_wp2
        go_ret
        exact ⟨ret_int (by rw [HCM.out, HST.out, if_pos (by omega)]), rfl⟩
      · go_wp2
        go_ret
        exact ⟨ret_int (by rw [HCM.out, HST.out, if_neg (by omega)]), rfl⟩
theorem ListsRd.shape {w : World} {v : Value} {ls : List (List Int)} (h : ListsRd w v ls) : ∃ a cap, v = .slice a ls.length cap := by
  obtain ⟨vs, _, h2, _⟩ := h
  exact h2.shape
theorem ListsRd.at {w : World} {a : Option Addr} {m cap : Nat} {ls : List (List Int)} (h : ListsRd w (.slice a m cap) ls) {k : Nat} (hk : k < ls.length) : ∃ g off x, a = some ⟨g, off, none⟩ ∧ g < w.heap.size ∧ w.cell? ⟨g, off + k, none⟩ = some x ∧ Reads w x 1 ls[k].length (ints ls[k]) := by
  obtain ⟨vs, h1, h2, h3⟩ := h
  obtain ⟨g, off, cap', he, hg, hc⟩ := h2.form (by omega)
  cases he
  exact ⟨g, off, vs[k]'(by omega), rfl, hg, hc k _ (by simp [h1, hk]), h3 k _ _ (by simp [h1, hk]) (by simp [hk])⟩

set_option maxRecDepth 100000 in
set_option maxHeartbeats 2000000 in
theorem CompareFunc_any (va vb : Value) (a b : List (List Int)) (w : World) (ha : ListsRd w va a) (hb : ListsRd w vb b) (_hla : a.length ≤ 1000) (_hlb : b.length ≤ 1000) (hea : ∀ l ∈ a, l.length ≤ 1000000) (heb : ∀ l ∈ b, l.length ≤ 1000000) :
    Calls Tryd.prog 41 #[va, vb, .func (.func 43) #[] #[]] w fun e w' => e = .returned (.int .i64 (Tm.cmpLL a b)) ∧ w' = w := by
  obtain ⟨aa, ca, rfl⟩ := ha.shape
  obtain ⟨ab, cb, rfl⟩ := hb.shape
  have HA := hide ha
  have HB := hide hb
  have HEA := hide hea
  have HEB := hide heb
  obtain ⟨n, hn⟩ : ∃ n, a.length = n := ⟨_, rfl⟩
  obtain ⟨m, hm⟩ : ∃ m, b.length = m := ⟨_, rfl⟩
  have HN := hide hn
  have HM := hide hm
  rw [hn] at _hla HA
  rw [hm] at HB
  rw [hn, hm]
  clear ha hb hn hm hea heb
  go_enter Tryd.func41, Tryd.ntmps41
  go_wp2_with fail
  go_loopw [13] (fun i wr => ∃ k : Nat, k ≤ n ∧ k ≤ m ∧ i = .int .i64 k ∧ Tm.cmpLL a b = Tm.cmpLL (a.drop k) (b.drop k) ∧ wr = w) (fun i _ => n - (intOf i).toNat)
  case atStart => exact ⟨0, Nat.zero_le _, Nat.zero_le _, rfl, rfl, rfl⟩
  case round =>
    obtain ⟨k, hk, hkm, rfl, hcm, rfl⟩ := hrel
    have HCM := hide hcm
    clear hcm
    by_cases hlt : k < n
    · have hlt' : k < a.length := by rw [HN.out]; exact hlt
      obtain ⟨g, off, xa, rfl, hg, ck, hra⟩ := HA.out.at hlt'
      have HRA := hide hra
      have hlx := HEA.out _ (List.getElem_mem hlt')
      obtain ⟨a1, c1, rfl⟩ := hra.shape
      have i1 : (0 : Int) ≤ (k : Int) := by omega
      have i2 : (k : Int) < (n : Int) := by omega
      clear hra
      by_cases hlm : k < m
      · have hlm' : k < b.length := by rw [HM.out]; exact hlm
        obtain ⟨gb, ob, xb, rfl, hgb, cbk, hrb⟩ := HB.out.at hlm'
        have HRB := hide hrb
        have hly := HEB.out _ (List.getElem_mem hlm')
        obtain ⟨a2, c2, rfl⟩ := hrb.shape
        have i3 : (k : Int) < (m : Int) := by omega
        have HST := hide (Tm.cmpLL_step hlt' hlm')
        have HRG := hide (Tm.cmpL_range a[k] b[k])
        clear hrb
        generalize a[k] = x at *
        generalize b[k] = y at *
        go_wp2_with fail
        refine (SliceCompare_any _ _ x y _ HRA.out HRB.out hlx hly).mono ?_
        rintro e w1 ⟨rfl, rfl⟩
        generalize Tm.cmpL x y = c at *
        cases hc : (c != 0)
        · have hc0 : c = 0 := by simpa using hc
          subst hc0
          go_wp2
          go_roundw
          case rel => exact ⟨k + 1, by omega, by omega, by go_num, by rw [HCM.out, HST.out]; simp, by first | rfl | trivial⟩
          case measure => simp [intOf]; omega
        · have hc0 : c ≠ 0 := by simpa using hc
          have HC0 := hide hc0
          clear hc0
          go_wp2
          go_ret
          exact ⟨ret_int (by rw [HCM.out, HST.out, if_neg HC0.out]), rfl⟩
      · have HST := hide (Tm.cmpLL_more hlt' (show b.length ≤ k by rw [HM.out]; omega))
        go_wp2
        go_ret
        exact ⟨ret_int (by rw [HCM.out, HST.out]), rfl⟩
    · have HST := hide (Tm.cmpLL_end (b := b) (show a.length ≤ k by rw [HN.out]; omega))
      rw [HM.out] at HST
      by_cases hnm : n < m
      · go_wp2
        go_ret
        exact ⟨ret_int (by rw [HCM.out, HST.out, if_pos (by omega)]), rfl⟩
      · go_wp2
        go_ret
        exact ⟨ret_int (by rw [HCM.out, HST.out, if_neg (by omega)]), rfl⟩
end Go.Proofs.YtmnjjjhmnhfapaaDoor
namespace Go.Proofs.YtmnjjjhmnhfapaaDoor
open Go.RowKit

/-- Bytes as cells. -/
def byteCells (l : List UInt8) : List Value := l.map fun c => .int .u8 (c.toNat : Int)
theorem byteCells_length (l : List UInt8) : (byteCells l).length = l.length := by simp [byteCells]
theorem byteCells_append (a b : List UInt8) : byteCells (a ++ b) = byteCells a ++ byteCells b := by simp [byteCells]

theorem num3_cells {x : Int} (h1 : 0 ≤ x) (h2 : x < 16777216) : byteCells (Tm.num3 x) = [.int .u8 (x / 65536), .int .u8 (x / 256 % 256), .int .u8 (x % 256)] := by
  obtain ⟨n, rfl⟩ : ∃ n : Nat, x = n := ⟨x.toNat, by omega⟩
  have hn : n < 16777216 := by omega
  have e1 : (n / 65536) % 256 = n / 65536 := Nat.mod_eq_of_lt (by omega)
  simp only [Tm.num3, byteCells, List.map_cons, List.map_nil, Int.toNat_natCast, UInt8.toNat_ofNat', Nat.reducePow]
  rw [e1]
  simp

set_option maxRecDepth 100000 in
set_option maxHeartbeats 2000000 in
theorem appendNumber_any (v : Value) (l : List UInt8) (x : Int) (B : Nat) (w : World) (hown : w.ownsRow B 5 1 v l.length (byteCells l)) (hB : B ≤ w.heap.size) (hx : 0 ≤ x ∧ x < 16777216) (hl : l.length ≤ 100000000) :
    Calls Tryd.prog 60 #[v, .int .i64 x] w fun e w' => ∃ v', e = .returned v' ∧ w'.ownsRow B 5 1 v' (l ++ Tm.num3 x).length (byteCells (l ++ Tm.num3 x)) ∧ Below B w w' := by
  obtain ⟨i0, hi, hz0, hz1, hz2⟩ := info_parts (show (Tryd.prog.info? 5).map (fun i => (i.zero, i.size, i.bytes)) = some (some (.int .u8 0), 1, 1) by kernel_rfl)
  obtain ⟨av, cv, rfl⟩ := (Reads.of_owns hown).shape
  have HO := hide hown
  obtain ⟨h1, h2⟩ := hx
  clear hown
  go_enter Tryd.func60, Tryd.ntmps60
  have HN3 := hide (num3_cells h1 h2)
  go_wp2_with (at_builtin; go_must (refine wpList_append_own_at _ rfl _ _ 109 rfl B 5 i0 (.int .u8 0) 1 1 Tryd.underlying109 hi hz0 hz1 hz2 rfl (by decide) _ _ _ rfl (HO.out.alloc _) ⟨w.heap.size, 0, none⟩ 3 3 [.int .u8 (x / 65536), .int .u8 (x / 256 % 256), .int .u8 (x % 256)] rfl rfl (news_three rfl) (by intro u hu; simp at hu; rcases hu with rfl | rfl | rfl <;> rfl) (by unfold maxLen; omega) (by omega) (by simp; omega) ?_))
  intro v' w' hown' hgr' _ _
  have HO' : Hid (w'.ownsRow B 5 1 v' (l ++ Tm.num3 x).length (byteCells (l ++ Tm.num3 x))) := by
    unfold Hid
    rw [byteCells_append, HN3.out, List.length_append]
    exact hown'
  have HB' : Hid (Below B w w') := ((Below.refl _ _).alloc hB _).grown hgr' (by simp; omega) (fun k hk => (HO.out.lt k hk).1)
  obtain ⟨a', c', rfl⟩ := (Reads.of_owns hown').shape
  clear hown' hgr'
  go_wp2
  go_ret
  exact ⟨_, rfl, HO'.out, HB'.out⟩

namespace Tm
theorem num3_length (x : Int) : (num3 x).length = 3 := rfl
theorem flat3_length (l : List Int) : (l.flatMap num3).length = 3 * l.length := by
  induction l with
  | nil => rfl
  | cons x r ih => simp only [List.flatMap_cons, List.length_append, ih, num3_length, List.length_cons]; omega
theorem keyLL_short : ∀ {ls : List (List Int)}, (∀ l ∈ ls, l.length ≤ 10000) → (keyLL ls).length ≤ 30003 * ls.length
  | [], _ => by simp [keyLL]
  | l :: r, h => by
    have ih := keyLL_short (ls := r) (fun l hl => h l (by simp [hl]))
    have h1 := h l (by simp)
    simp only [keyLL, List.flatMap_cons, List.length_append, List.length_cons] at ih ⊢
    simp only [keyL, List.length_append, flat3_length, num3_length]
    omega
theorem keyLL_snoc {ls : List (List Int)} {k : Nat} (h : k < ls.length) : keyLL (ls.take (k + 1)) = keyLL (ls.take k) ++ keyL ls[k] := by
  rw [List.take_succ_eq_append_getElem h, keyLL, List.flatMap_append]
  simp only [List.flatMap_cons, List.flatMap_nil, List.append_nil, keyLL]
theorem flat3_snoc {l : List Int} {k : Nat} (h : k < l.length) : (l.take (k + 1)).flatMap num3 = (l.take k).flatMap num3 ++ num3 l[k] := by
  rw [List.take_succ_eq_append_getElem h, List.flatMap_append]
  simp only [List.flatMap_cons, List.flatMap_nil, List.append_nil]
end Tm

set_option maxRecDepth 100000 in
set_option maxHeartbeats 4000000 in
theorem keyOf_any (v : Value) (ls : List (List Int)) (w : World) (hr : ListsRd w v ls) (hl : ls.length ≤ 100) (hlen : ∀ l ∈ ls, l.length ≤ 10000) (hsm : ∀ l ∈ ls, Tm.Small l) (hne : ls ≠ []) :
    Calls Tryd.prog 44 #[v] w fun e w' => ∃ s : ByteArray, s.data.toList = Tm.keyLL ls ∧ e = .returned (.string s) ∧ Below w.heap.size w w' := by
  obtain ⟨a, cap, rfl⟩ := hr.shape
  have HR := hide hr
  have HLEN := hide hlen
  have HSM := hide hsm
  obtain ⟨n, hn⟩ : ∃ n, ls.length = n := ⟨_, rfl⟩
  have HN := hide hn
  rw [hn] at hl HR
  rw [hn]
  have HKL : Hid (∀ k, (Tm.keyLL (ls.take k)).length ≤ 3000300) := fun k => by
    have h1 := Tm.keyLL_short (ls := ls.take k) (fun l hl => hlen l (List.mem_of_mem_take hl))
    have h2 : (ls.take k).length ≤ n := by rw [List.length_take, HN.out]; omega
    have h3 := Nat.mul_le_mul_left 30003 h2
    omega
  have HPOS : Hid (0 < (Tm.keyLL ls).length) := by
    cases ls with
    | nil => exact absurd rfl hne
    | cons x r => unfold Hid; simp only [Tm.keyLL, List.flatMap_cons, Tm.keyL, List.length_append, Tm.num3_length]; omega
  clear hr hlen hsm hn hne
  go_enter Tryd.func44, Tryd.ntmps44
  go_wp2_with fail
  go_loopw [3, 10] (fun vk i wr => ∃ k : Nat, k ≤ n ∧ i = .int .i64 k ∧ wr.ownsRow w.heap.size 5 1 vk (Tm.keyLL (ls.take k)).length (byteCells (Tm.keyLL (ls.take k))) ∧ Below w.heap.size w wr) (fun _ i _ => n - (intOf i).toNat)
  case atStart => exact ⟨0, Nat.zero_le _, rfl, World.ownsRow_nil _ _ _ _, Below.refl _ _⟩
  case round =>
    obtain ⟨k, hk, rfl, hown, hb⟩ := hrel
    have HO := hide hown
    have HB := hide hb
    have hz := hb.size
    clear hown hb
    by_cases hlt : k < n
    · have hlt' : k < ls.length := by rw [HN.out]; exact hlt
      obtain ⟨g, off, x, rfl, hg, ck, hx⟩ := HR.out.at hlt'
      rw [← HB.out.cell (p := ⟨g, off + k, none⟩) hg] at ck
      have hxl := HLEN.out _ (List.getElem_mem hlt')
      have hxs := HSM.out _ (List.getElem_mem hlt')
      have HSN := hide (Tm.keyLL_snoc hlt')
      obtain ⟨l, hl'⟩ : ∃ l, ls[k] = l := ⟨_, rfl⟩
      rw [hl'] at hx hxl hxs HSN
      obtain ⟨ax, cx, rfl⟩ := hx.shape
      have HX := hide hx
      have HXS := hide hxs
      have hkl := HKL.out k
      obtain ⟨m, hm⟩ : ∃ m, l.length = m := ⟨_, rfl⟩
      have HM := hide hm
      rw [hm] at hxl ck HX
      obtain ⟨K, hK⟩ : ∃ K, Tm.keyLL (ls.take k) = K := ⟨_, rfl⟩
      rw [hK] at HO HSN hkl
      have i1 : (0 : Int) ≤ (k : Int) := by omega
      have i2 : (k : Int) < (n : Int) := by omega
      obtain ⟨wo, hwo⟩ : ∃ wo : World, wo = wr := ⟨_, rfl⟩
      rw [← hwo] at HO HB hz ck ⊢
      clear hx hxs hl' hm hK hwo
      go_wp2_with fail
      go_loopw [3, 16] (fun vk i wr => ∃ j : Nat, j ≤ m ∧ i = .int .i64 j ∧ wr.ownsRow w.heap.size 5 1 vk (K ++ (l.take j).flatMap Tm.num3).length (byteCells (K ++ (l.take j).flatMap Tm.num3)) ∧ Below w.heap.size wo wr) (fun _ i _ => m - (intOf i).toNat)
      case atStart => exact ⟨0, Nat.zero_le _, rfl, by simpa using HO.out, Below.refl _ _⟩
      case round =>
        obtain ⟨j, hj, rfl, hown2, hb2⟩ := hrel
        have HO2 := hide hown2
        have HB2 := hide hb2
        have hz2 := hb2.size
        clear hown2 hb2
        have HB2' : Hid (Below w.heap.size w wr) := HB.out.trans HB2.out
        have hfl : ((l.take j).flatMap Tm.num3).length ≤ 30000 := by rw [Tm.flat3_length, List.length_take, HM.out]; omega
        have hll : (K ++ (l.take j).flatMap Tm.num3).length ≤ 100000000 := by rw [List.length_append]; omega
        by_cases hjl : j < m
        · have hjl' : j < l.length := by rw [HM.out]; exact hjl
          obtain ⟨gx, ox, rfl, hgx, cx'⟩ := Reads.at (by rw [HM.out]; exact HX.out.below HB2'.out HX.out.2.1) hjl'
          have hyr := HXS.out _ (List.getElem_mem hjl')
          have HFS := hide (Tm.flat3_snoc hjl')
          have i3 : (0 : Int) ≤ (j : Int) := by omega
          have i4 : (j : Int) < (m : Int) := by omega
          generalize l[j] = y at *
          go_wp2_with fail
          refine (appendNumber_any _ (K ++ (l.take j).flatMap Tm.num3) y w.heap.size _ HO2.out (by omega) hyr hll).mono ?_
          rintro e w3 ⟨v3, rfl, hown3, hb3⟩
          have HO3 : Hid (w3.ownsRow w.heap.size 5 1 v3 (K ++ (l.take (j + 1)).flatMap Tm.num3).length (byteCells (K ++ (l.take (j + 1)).flatMap Tm.num3))) := by
            unfold Hid; rw [HFS.out, ← List.append_assoc]; exact hown3
          have HB3 := hide (HB2.out.trans hb3)
          clear hown3 hb3
          go_wp2
          go_roundw
          case rel => exact ⟨j + 1, by omega, by go_num, HO3.out, HB3.out⟩
          case measure => simp [intOf]; omega
        · have hfull : l.take j = l := List.take_of_length_le (by rw [HM.out]; omega)
          rw [hfull] at HO2 hll
          clear hfull
          go_wp2_with fail
          refine (appendNumber_any _ (K ++ l.flatMap Tm.num3) 0 w.heap.size _ HO2.out (by omega) ⟨by omega, by omega⟩ hll).mono ?_
          rintro e w3 ⟨v3, rfl, hown3, hb3⟩
          have HO3 : Hid (w3.ownsRow w.heap.size 5 1 v3 (Tm.keyLL (ls.take (k + 1))).length (byteCells (Tm.keyLL (ls.take (k + 1))))) := by
            unfold Hid; rw [HSN.out, Tm.keyL, ← List.append_assoc]; exact hown3
          have HB3 : Hid (Below w.heap.size w w3) := HB.out.trans (HB2.out.trans hb3)
          clear hown3 hb3
          go_wp2
          go_roundw
          case rel => exact ⟨k + 1, by omega, by go_num, HO3.out, HB3.out⟩
          case measure => simp [intOf]; omega
    · have HE : Hid (Tm.keyLL (ls.take k) = Tm.keyLL ls) := by unfold Hid; rw [List.take_of_length_le (by rw [HN.out]; omega)]
      rw [HE.out] at HO
      obtain ⟨a2, c2, h2⟩ := (Reads.of_owns HO.out).shape
      subst h2
      obtain ⟨g2, o2, c3, he, hg2, hc2⟩ := (Reads.of_owns HO.out).form (by rw [byteCells_length]; exact HPOS.out)
      cases he
      have hconv := run_convert_bytes_back (P := Tryd.prog) wr 109 9 5 ⟨g2, o2, none⟩ c2 (Tm.keyLL ls) Tryd.underlying109 Tryd.underlying5 Tryd.underlying9 (fun j hj => by rw [addr_add]; exact hc2 j _ (by simp [byteCells, hj]))
      clear hc2
      go_wp2
      go_ret
      exact ⟨_, by simp, rfl, HB.out⟩
end Go.Proofs.YtmnjjjhmnhfapaaDoor
namespace Go.Proofs.YtmnjjjhmnhfapaaDoor
open Go.RowKit

/-- What a collator of a table that is one has. -/
structure TableOk (st : Int) (lns : List Tm.Ln) : Prop where
  ends : ∀ r, Tm.ends lns 4 r = true
  heavy : Tm.Heavy lns
  st : 1 ≤ st ∧ st ≤ 4
theorem TableOk.of {s : List UInt8} {st : Int} {lns : List Tm.Ln} (h : Tm.newTable s st = (lns, 0, 0)) (he : ∀ r, Tm.ends lns 4 r = true) : TableOk st lns := ⟨he, (Tm.newTable_heavy h).1, (Tm.newTable_heavy h).2⟩

theorem stands_short {lns : List Tm.Ln} (hf : ∀ o ∈ lns, Tm.Fit o) {st : Int} {sh : Bool} {s : ByteArray} (hs : s.size ≤ 64) : ∀ l ∈ stands lns st sh (normOf lns s), l.length ≤ 10000 := by
  have h1 := norm_short' hf hs
  have h2 := Tm.elements_length hf (normOf lns s)
  intro l hl
  rcases List.mem_append.1 hl with hl | hl
  · obtain ⟨k, _, rfl⟩ := List.mem_map.1 (List.mem_of_mem_take hl)
    have : (Tm.level sh (Tm.elements lns (normOf lns s)) k).length ≤ (Tm.elements lns (normOf lns s)).length := Tm.lev_length sh k _ _
    omega
  · rw [List.mem_singleton.1 hl]; omega
theorem stands_length {lns : List Tm.Ln} {st : Int} {sh : Bool} {n : List Int} (h : 1 ≤ st ∧ st ≤ 4) : (stands lns st sh n).length ≤ 5 := by
  unfold stands; rw [List.length_append, levels_length h]; simp; omega
theorem stands_small {lns : List Tm.Ln} (hf : ∀ o ∈ lns, Tm.Fit o) {st : Int} {sh : Bool} {s : ByteArray} : ∀ l ∈ stands lns st sh (normOf lns s), Tm.Small l := by
  intro l hl
  rcases List.mem_append.1 hl with hl | hl
  · exact (levels_weights hf (norm_range hf s) l hl).small
  · rw [List.mem_singleton.1 hl]
    intro x hx
    have := norm_range hf s x hx
    omega
theorem stands_ne {lns : List Tm.Ln} {st : Int} {sh : Bool} {n : List Int} : stands lns st sh n ≠ [] := by simp [stands]

/-- How two texts compare. -/
def cmpOf (lns : List Tm.Ln) (st : Int) (sh : Bool) (a b : ByteArray) : Int := Tm.cmpLL (stands lns st sh (normOf lns a)) (stands lns st sh (normOf lns b))
/-- The bytes of a text's key. -/
def keyBytes (lns : List Tm.Ln) (st : Int) (sh : Bool) (s : ByteArray) : List UInt8 := Tm.keyLL (stands lns st sh (normOf lns s))

set_option maxRecDepth 100000 in
set_option maxHeartbeats 2000000 in
theorem CodeCompare_any (lns : List Tm.Ln) (bc bm : Nat) (st : Int) (sh : Bool) (a b : ByteArray) (w : World) (hc : Coll w bc bm st sh lns) (hok : TableOk st lns) :
    Calls Tryd.prog 19 #[.pointer (some ⟨bc, 0, none⟩), .string a, .string b] w fun e w' => e = .returned (if a.size ≤ 64 ∧ b.size ≤ 64 then .tuple #[.int .i64 (cmpOf lns st sh a b), .int .i64 0] else .tuple #[.int .i64 0, .int .i64 7]) ∧ Below w.heap.size w w' := by
  have HC := hide hc
  have HOK := hide hok
  have HF := hide hc.fit
  clear hc hok
  by_cases ha : a.size ≤ 64
  · have hda : decide (64 < (a.size : Int)) = false := by simp <;> omega
    by_cases hb : b.size ≤ 64
    · have hdb : decide (64 < (b.size : Int)) = false := by simp <;> omega
      rw [if_pos ⟨ha, hb⟩]
      go_enter Tryd.func19, Tryd.ntmps19
      go_wp2_with fail
      refine (isLong_any a _).mono ?_
      rintro e w0 ⟨rfl, rfl⟩
      rw [hda]
      go_wp2_with fail
      refine (isLong_any b _).mono ?_
      rintro e w0 ⟨rfl, rfl⟩
      rw [hdb]
      go_wp2_with fail
      refine (standing_any lns bc bm st sh a _ HC.out HOK.out.ends HOK.out.heavy HOK.out.st ha).mono ?_
      rintro e w1 ⟨v1, rfl, hr1, hb1⟩
      have HR1 := hide hr1
      have HB1 := hide hb1
      have hz1 := hb1.size
      clear hr1 hb1
      go_wp2_with fail
      refine (standing_any lns bc bm st sh b _ (HC.out.below HB1.out) HOK.out.ends HOK.out.heavy HOK.out.st hb).mono ?_
      rintro e w2 ⟨v2, rfl, hr2, hb2⟩
      have HR2 := hide hr2
      have HR12 := hide (HR1.out.below hb2)
      have HB2 := hide (HB1.out.trans (hb2.mono hz1))
      clear hr2 hb2
      go_wp2_with fail
      refine (CompareFunc_any _ _ _ _ _ HR12.out HR2.out (by have := stands_length (lns := lns) (sh := sh) (n := normOf lns a) HOK.out.st; omega) (by have := stands_length (lns := lns) (sh := sh) (n := normOf lns b) HOK.out.st; omega) (fun l hl => by have := stands_short HF.out ha l hl; omega) (fun l hl => by have := stands_short HF.out hb l hl; omega)).mono ?_
      rintro e w3 ⟨rfl, rfl⟩
      go_wp2
      go_ret2
      exact ⟨rfl, HB2.out⟩
    · have hdb : decide (64 < (b.size : Int)) = true := by simp <;> omega
      rw [if_neg (fun h => hb h.2)]
      go_enter Tryd.func19, Tryd.ntmps19
      go_wp2_with fail
      refine (isLong_any a _).mono ?_
      rintro e w0 ⟨rfl, rfl⟩
      rw [hda]
      go_wp2_with fail
      refine (isLong_any b _).mono ?_
      rintro e w0 ⟨rfl, rfl⟩
      rw [hdb]
      go_wp2
      go_ret2
      exact ⟨rfl, Below.refl _ _⟩
  · have hda : decide (64 < (a.size : Int)) = true := by simp <;> omega
    rw [if_neg (fun h => ha h.1)]
    go_enter Tryd.func19, Tryd.ntmps19
    go_wp2_with fail
    refine (isLong_any a _).mono ?_
    rintro e w0 ⟨rfl, rfl⟩
    rw [hda]
    go_wp2
    go_ret2
    exact ⟨rfl, Below.refl _ _⟩

set_option maxRecDepth 100000 in
set_option maxHeartbeats 2000000 in
theorem CodeKey_any (lns : List Tm.Ln) (bc bm : Nat) (st : Int) (sh : Bool) (s : ByteArray) (w : World) (hc : Coll w bc bm st sh lns) (hok : TableOk st lns) :
    Calls Tryd.prog 20 #[.pointer (some ⟨bc, 0, none⟩), .string s] w fun e w' => e = .returned (if s.size ≤ 64 then .tuple #[.string ⟨(keyBytes lns st sh s).toArray⟩, .int .i64 0] else .tuple #[.string ⟨#[]⟩, .int .i64 7]) ∧ Below w.heap.size w w' := by
  have HC := hide hc
  have HOK := hide hok
  have HF := hide hc.fit
  clear hc hok
  by_cases hs : s.size ≤ 64
  · have hd : decide (64 < (s.size : Int)) = false := by simp <;> omega
    rw [if_pos hs]
    go_enter Tryd.func20, Tryd.ntmps20
    go_wp2_with fail
    refine (isLong_any s _).mono ?_
    rintro e w0 ⟨rfl, rfl⟩
    rw [hd]
    go_wp2_with fail
    refine (standing_any lns bc bm st sh s _ HC.out HOK.out.ends HOK.out.heavy HOK.out.st hs).mono ?_
    rintro e w1 ⟨v1, rfl, hr1, hb1⟩
    have HR1 := hide hr1
    have HB1 := hide hb1
    have hz1 := hb1.size
    clear hr1 hb1
    go_wp2_with fail
    refine (keyOf_any _ _ _ HR1.out (by have := stands_length (lns := lns) (sh := sh) (n := normOf lns s) HOK.out.st; omega) (stands_short HF.out hs) (stands_small HF.out) stands_ne).mono ?_
    rintro e w2 ⟨k, hk, rfl, hb2⟩
    have HK : Hid (k = ⟨(keyBytes lns st sh s).toArray⟩) := by
      unfold Hid keyBytes
      rw [← hk]
    have HB2 := hide (HB1.out.trans (hb2.mono hz1))
    clear hk hb2
    go_wp2
    go_ret2
    exact ⟨by rw [HK.out]; rfl, HB2.out⟩
  · have hd : decide (64 < (s.size : Int)) = true := by simp <;> omega
    rw [if_neg hs]
    go_enter Tryd.func20, Tryd.ntmps20
    go_wp2_with fail
    refine (isLong_any s _).mono ?_
    rintro e w0 ⟨rfl, rfl⟩
    rw [hd]
    go_wp2
    go_ret2
    exact ⟨rfl, Below.refl _ _⟩

/-- What Elements answers. -/
def partsOfAns (lns : List Tm.Ln) (s : ByteArray) (w : World) (e : Ending) (w' : World) : Prop :=
  if s.size ≤ 64 then ∃ v, e = .returned (.tuple #[v, .int .i64 0]) ∧ w'.ownsRow w.heap.size 64 4 v (Tm.elements lns (normOf lns s)).length (elsCells (Tm.elements lns (normOf lns s))) ∧ Below w.heap.size w w'
  else e = .returned (.tuple #[.slice none 0 0, .int .i64 7]) ∧ w' = w

set_option maxRecDepth 100000 in
set_option maxHeartbeats 2000000 in
theorem CodeElements_any (lns : List Tm.Ln) (bc bm : Nat) (st : Int) (sh : Bool) (s : ByteArray) (w : World) (hc : Coll w bc bm st sh lns) (hok : TableOk st lns) :
    Calls Tryd.prog 21 #[.pointer (some ⟨bc, 0, none⟩), .string s] w fun e w' => partsOfAns lns s w e w' := by
  have HC := hide hc
  have HOK := hide hok
  have HF := hide hc.fit
  have hlt := hc.lt
  have c0 := hc.c0
  have hfew := hc.few
  clear hc hok
  by_cases hs : s.size ≤ 64
  · have hd : decide (64 < (s.size : Int)) = false := by simp <;> omega
    have hnl := norm_short' HF.out hs
    go_enter Tryd.func21, Tryd.ntmps21
    go_wp2_with fail
    refine (isLong_any s _).mono ?_
    rintro e w0 ⟨rfl, rfl⟩
    rw [hd]
    go_wp2_with fail
    go_region_with (first | (go_at_call 46; refine (normalForm_any lns HF.out HOK.out.ends bm s _ hs (HC.out.below (Below.refl _ _).drew).rd).mono ?_; rintro e w1 ⟨v1, rfl, hown1, hb1⟩; have HR1 := hide (Reads.of_owns hown1); have HB1 := hide hb1; have hz1 := hb1.size; have c01 := (hb1.cell (p := ⟨bc, 0, none⟩) (by exact hlt)).trans c0; have HC1 := hide ((HC.out.below (Below.refl _ _).drew).below hb1); clear hown1 hb1) | (go_at_call 45; refine (elements_any lns bm _ (normOf lns s) _ HC1.out.rd HR1.out (norm_calm lns s) (norm_range HF.out s) (by omega) hfew HF.out).mono ?_; rintro e w2 ⟨v2, rfl, hown2, hb2⟩))
    all_goals
      have HANS : Hid (partsOfAns lns s w0 (.returned (.tuple #[v2, .int .i64 0])) w2) := by
        unfold Hid partsOfAns
        rw [if_pos hs]
        exact ⟨v2, rfl, owns_mono hown2 (by exact hz1), ((Below.refl _ _).drew.trans HB1.out).trans (hb2.mono (by exact hz1))⟩
      clear hown2 hb2
      go_wp2
      go_ret2
      exact HANS.out
  · have hd : decide (64 < (s.size : Int)) = true := by simp <;> omega
    go_enter Tryd.func21, Tryd.ntmps21
    go_wp2_with fail
    refine (isLong_any s _).mono ?_
    rintro e w0 ⟨rfl, rfl⟩
    rw [hd]
    go_wp2
    go_ret2
    unfold partsOfAns
    rw [if_neg hs]
    exact ⟨rfl, rfl⟩
end Go.Proofs.YtmnjjjhmnhfapaaDoor
namespace Go.Proofs.YtmnjjjhmnhfapaaDoor
open Go.RowKit

theorem bytesLess_eq : ∀ (a b : List UInt8), Op.bytesLess a b = Tm.lessB a b
  | [], [] => rfl
  | [], _ :: _ => rfl
  | _ :: _, [] => rfl
  | a :: x, b :: y => by
    rw [Op.bytesLess, Tm.lessB, bytesLess_eq x y]
    by_cases h1 : a < b
    · simp [h1]
    · by_cases h2 : b < a
      · have : a ≠ b := fun h => by subst h; exact h1 h2
        simp [h1, h2, this]
      · have : a = b := UInt8.le_antisymm (UInt8.not_lt.1 h2) (UInt8.not_lt.1 h1)
        subst this
        simp [UInt8.lt_irrefl]
theorem lessB_asymm : ∀ {a b : List UInt8}, Tm.lessB a b = true → Tm.lessB b a = false
  | [], [], h => by simp [Tm.lessB] at h
  | [], _ :: _, _ => rfl
  | _ :: _, [], h => by simp [Tm.lessB] at h
  | a :: x, b :: y, h => by
    unfold Tm.lessB at h ⊢
    by_cases h1 : a < b
    · rw [if_neg (UInt8.not_lt.2 (UInt8.le_of_lt h1)), if_pos h1]
    · rw [if_neg h1] at h
      by_cases h2 : b < a
      · rw [if_pos h2] at h; cases h
      · rw [if_neg h2] at h
        rw [if_neg h2, if_neg h1]
        exact lessB_asymm h
theorem lessB_none : ∀ {a b : List UInt8}, Tm.lessB a b = false → Tm.lessB b a = false → a = b
  | [], [], _, _ => rfl
  | [], _ :: _, h, _ => by simp [Tm.lessB] at h
  | _ :: _, [], _, h => by simp [Tm.lessB] at h
  | a :: x, b :: y, h, k => by
    unfold Tm.lessB at h k
    by_cases h1 : a < b
    · rw [if_pos h1] at h; cases h
    · rw [if_neg h1] at h
      by_cases h2 : b < a
      · rw [if_pos h2] at k; cases k
      · rw [if_neg h2] at h
        rw [if_neg h2, if_neg h1] at k
        have : a = b := UInt8.le_antisymm (UInt8.not_lt.1 h2) (UInt8.not_lt.1 h1)
        rw [this, lessB_none h k]

/-- Which of n things. -/
def pickN (c n : Int) : Int := if c < 0 then (-(c + 1)) % n else c % n
theorem pickN_range {c n : Int} (hn : 0 < n) : 0 ≤ pickN c n ∧ pickN c n < n := by
  unfold pickN
  split
  · exact ⟨Int.emod_nonneg _ (by omega), Int.emod_lt_of_pos _ hn⟩
  · exact ⟨Int.emod_nonneg _ (by omega), Int.emod_lt_of_pos _ hn⟩

set_option maxRecDepth 100000 in
set_option maxHeartbeats 1000000 in
theorem pick_any (c n : Int) (w : World) (hc : -9223372036854775808 ≤ c ∧ c ≤ 9223372036854775807) (hn : 0 < n ∧ n ≤ 1000000) :
    Calls Tryd.prog 18 #[.int .i64 c, .int .i64 n] w fun e w' => e = .returned (.int .i64 (pickN c n)) ∧ w' = w := by
  obtain ⟨hc1, hc2⟩ := hc
  obtain ⟨hn1, hn2⟩ := hn
  have hn0 : (n == 0) = false := by simp; omega
  have hn9 : (n == -1) = false := by simp; omega
  by_cases h : c < 0
  · have HP : Hid (pickN c n = (-(c + 1)).tmod n) := by unfold Hid pickN; rw [if_pos h, Int.tmod_eq_emod_of_nonneg (by omega)]
    go_enter Tryd.func18, Tryd.ntmps18
    go_wp2
    go_ret
    exact ⟨ret_int (by rw [HP.out, Int.neg_tmod]), rfl⟩
  · have HP : Hid (pickN c n = c.tmod n) := by unfold Hid pickN; rw [if_neg h, Int.tmod_eq_emod_of_nonneg (by omega)]
    go_enter Tryd.func18, Tryd.ntmps18
    go_wp2
    go_ret
    exact ⟨ret_int (by rw [HP.out, Int.tmod_eq_emod_of_nonneg h]), rfl⟩

/-- A text that is not too long. -/
def cutB (s : ByteArray) : ByteArray := if 64 < s.size then s.extract 0 64 else s
theorem cutB_size (s : ByteArray) : (cutB s).size ≤ 64 := by
  unfold cutB
  split
  · simp [ByteArray.size_extract]; omega
  · omega
set_option maxRecDepth 100000 in
set_option maxHeartbeats 1000000 in
theorem cut_any (s : ByteArray) (w : World) : Calls Tryd.prog 16 #[.string s] w fun e w' => e = .returned (.string (cutB s)) ∧ w' = w := by
  by_cases h : 64 < s.size
  · have hd : decide (64 < (s.size : Int)) = true := by simp; omega
    have hc : cutB s = s.extract 0 64 := by unfold cutB; rw [if_pos h]
    have HC := hide hc
    clear hc
    go_enter Tryd.func16, Tryd.ntmps16
    go_wp2
    go_ret
    exact ⟨by rw [HC.out]; rfl, rfl⟩
  · have hd : decide (64 < (s.size : Int)) = false := by simp; omega
    have HC : Hid (cutB s = s) := by unfold Hid cutB; rw [if_neg h]
    go_enter Tryd.func16, Tryd.ntmps16
    go_wp2
    go_ret
    exact ⟨by rw [HC.out]; rfl, rfl⟩

end Go.Proofs.YtmnjjjhmnhfapaaDoor
namespace Go.Proofs.YtmnjjjhmnhfapaaDoor
open Go.RowKit

theorem keepText_set {n k : Nat} (h : n / 2 ^ k % 2 = 1) : Tm.keepText n (k + 1) = Tm.keepText n k ++ [10] ++ Tm.keepMore.getD k [] := by rw [Tm.keepText, if_pos h]
theorem keepText_not {n k : Nat} (h : ¬ n / 2 ^ k % 2 = 1) : Tm.keepText n (k + 1) = Tm.keepText n k := by rw [Tm.keepText, if_neg h]

theorem keepMore_len : ∀ k, k < 8 → (Tm.keepMore.getD k []).length ≤ 60 := by decide
theorem keepText_len (n : Nat) : ∀ k, k ≤ 8 → (Tm.keepText n k).length ≤ 300 + 70 * k
  | 0, _ => by show Tm.keepBase.length ≤ 300; decide +kernel
  | k + 1, h => by
    have ih := keepText_len n k (by omega)
    have h2 := keepMore_len k (by omega)
    rw [Tm.keepText]
    split
    · simp only [List.length_append, List.length_cons, List.length_nil]; omega
    · omega
theorem keep_bits : ∀ n : Nat, n < 256 → ∀ k, k < 8 → (bits BinOp.and IntKind.i64 ((n : Int) / 2 ^ k) 1 == 1) = decide (n / 2 ^ k % 2 = 1) := by decide +kernel

set_option maxRecDepth 100000 in
set_option maxHeartbeats 4000000 in
theorem table_any (n : Nat) (w : World) (hn : n < 256) :
    Calls Tryd.prog 37 #[.int .i64 n] w fun e w' => ∃ s : ByteArray, e = .returned (.string s) ∧ s.data.toList = Tm.keepTable n ∧ Below w.heap.size w w' := by
  obtain ⟨W, hW⟩ : ∃ W, w.alloc (.cells #[.string ⟨#[119, 32, 54, 51, 32, 54, 56, 32, 61, 32, 49, 53, 46, 50, 48, 46, 50]⟩, .string ⟨#[119, 32, 54, 49, 32, 51, 48, 49, 32, 61, 32, 49, 54, 46, 50, 48, 46, 50]⟩, .string ⟨#[119, 32, 54, 49, 32, 51, 50, 51, 32, 61, 32, 49, 55, 46, 50, 48, 46, 50, 10, 119, 32, 54, 49, 32, 51, 50, 51, 32, 51, 48, 49, 32, 61, 32, 49, 56, 46, 50, 48, 46, 50]⟩, .string ⟨#[119, 32, 50, 101, 32, 61, 32, 42, 52, 46, 50, 48, 46, 50, 32, 42, 53, 46, 50, 48, 46, 51]⟩, .string ⟨#[119, 32, 51, 48, 48, 32, 61, 32, 48, 46, 48, 46, 53, 10, 99, 32, 51, 48, 48, 32, 101, 54]⟩, .string ⟨#[119, 32, 51, 48, 50, 32, 61, 32, 48, 46, 48, 46, 48, 10, 99, 32, 51, 48, 50, 32, 101, 54]⟩, .string ⟨#[100, 32, 99, 53, 32, 52, 49, 32, 51, 48, 97, 10, 99, 32, 51, 48, 97, 32, 101, 54]⟩, .string ⟨#[119, 32, 48, 32, 61, 32, 48, 46, 48, 46, 48]⟩] 9) = W := ⟨_, rfl⟩
  have hb0 : Below w.heap.size w W := by rw [← hW]; exact (Below.refl _ _).alloc (Nat.le_refl _) _
  have HB0 := hide hb0
  have HCELL : Hid (∀ k, k < 8 → ∃ s : ByteArray, W.cell? ⟨w.heap.size, k, none⟩ = some (.string s) ∧ s.data.toList = Tm.keepMore.getD k []) := by
    intro k hk
    rw [← hW, cell_new rfl]
    rcases (show k = 0 ∨ k = 1 ∨ k = 2 ∨ k = 3 ∨ k = 4 ∨ k = 5 ∨ k = 6 ∨ k = 7 by omega) with rfl | rfl | rfl | rfl | rfl | rfl | rfl | rfl <;> exact ⟨_, rfl, rfl⟩
  clear hb0
  go_enter Tryd.func37, Tryd.ntmps37
  go_wp2_with fail
  go_loopw [3, 5] (fun vs i wr => ∃ (k : Nat) (s : ByteArray), k ≤ 8 ∧ i = .int .i64 k ∧ vs = .string s ∧ s.data.toList = Tm.keepText n k ∧ wr = W) (fun _ i _ => 8 - (intOf i).toNat)
  case atStart => exact ⟨0, _, by omega, rfl, rfl, rfl, rfl⟩
  case round =>
    obtain ⟨k, s, hk, rfl, rfl, hs, rfl⟩ := hrel
    have HS := hide hs
    clear hs
    by_cases hlt : k < 8
    · obtain ⟨m, hm, hmm⟩ := HCELL.out k hlt
      have HMM := hide hmm
      have i1 : (0 : Int) ≤ (k : Int) := by omega
      have i2 : (k : Int) < 8 := by omega
      clear hmm
      have hbb := keep_bits n hn k hlt
      have hsz : s.size ≤ 1000 := by have h1 := keepText_len n k hk; rw [← HS.out] at h1; simp at h1; omega
      have hmz : m.size ≤ 60 := by have h1 := keepMore_len k hlt; rw [← HMM.out] at h1; simpa using h1
      have z1 : ¬ 9223372036854775807 < s.size + 1 := by omega
      have z2 : ¬ 9223372036854775807 < s.size + 1 + m.size := by omega
      by_cases hbit : n / 2 ^ k % 2 = 1
      · rw [decide_eq_true hbit] at hbb
        have HT : Hid ((s ++ ⟨#[10]⟩ ++ m).data.toList = Tm.keepText n (k + 1)) := by
          unfold Hid
          rw [keepText_set hbit, ← HS.out, ← HMM.out]
          simp
        clear hbit
        go_wp2
        go_roundw
        case rel => exact ⟨k + 1, _, by omega, by go_num, rfl, HT.out, by first | rfl | trivial⟩
        case measure => simp [intOf]; omega
      · rw [decide_eq_false hbit] at hbb
        have HT : Hid (s.data.toList = Tm.keepText n (k + 1)) := by
          unfold Hid
          rw [keepText_not hbit]; exact HS.out
        clear hbit
        go_wp2
        go_roundw
        case rel => exact ⟨k + 1, s, by omega, by go_num, rfl, HT.out, by first | rfl | trivial⟩
        case measure => simp [intOf]; omega
    · have hk8 : k = 8 := by omega
      subst hk8
      go_wp2
      go_ret
      exact ⟨s, rfl, HS.out, HB0.out⟩

namespace Tm
theorem keep_good {n : Nat} (h : n < 256) : keepGood n = true := by
  by_cases h1 : n < 128
  · exact List.all_eq_true.1 keep_good_a n (List.mem_range.2 h1)
  · have := List.all_eq_true.1 keep_good_b (n - 128) (List.mem_range.2 (by omega))
    simpa [show n - 128 + 128 = n by omega] using this
theorem sole_some {p s t : Int} {o : Option (List El)} (h : sole p s t o = true) : o = some [⟨p, s, t, false⟩] := by
  unfold sole at h
  split at h
  · rename_i e
    simp at h
    obtain ⟨⟨⟨h1, h2⟩, h3⟩, h4⟩ := h
    obtain ⟨a, b, c, d⟩ := e
    simp at h1 h2 h3 h4
    subst h1 h2 h3 h4
    rfl
  · cases h
/-- What each of these tables is. -/
structure KeepTab (lns : List Ln) : Prop where
  a : seqOf lns [97] = some [⟨16, 32, 2, false⟩]
  b : seqOf lns [98] = some [⟨17, 32, 2, false⟩]
  pa : parts lns 97 = []
  pb : parts lns 98 = []
theorem keep_tab {n : Nat} (h : n < 256) {st : Int} (hst : 1 ≤ st ∧ st ≤ 4) : ∃ lns, newTable (keepTable n) st = (lns, 0, 0) ∧ KeepTab lns := by
  have hg := keep_good h
  unfold keepGood at hg
  simp only [Bool.and_eq_true, decide_eq_true_eq] at hg
  obtain ⟨⟨⟨⟨⟨h1, h2⟩, h3⟩, h4⟩, h5⟩, h6⟩ := hg
  refine ⟨keepLines n, ?_, sole_some h2, sole_some h3, h4, h5⟩
  unfold newTable at h1 ⊢
  rw [if_neg (by omega), if_neg (by omega)] at h1 ⊢
  unfold keepLines
  generalize readLines [] 1 (split 10 (keepTable n)) = p at h1 ⊢
  obtain ⟨l, o⟩ := p
  cases o with
  | none => simp only at h1 ⊢; rw [← h1]
  | some q => obtain ⟨m, e⟩ := q; simp only at h1 ⊢; rw [h1]
end Tm

/-- A collator of one of these tables. -/
def OpenedAns (n : Nat) (st : Int) (sh : Bool) (w : World) (e : Ending) (w' : World) : Prop :=
  ∃ bc bm lns, e = .returned (.pointer (some ⟨bc, 0, none⟩)) ∧ Coll w' bc bm st sh lns ∧ TableOk st lns ∧ Tm.KeepTab lns ∧ Tm.newTable (Tm.keepTable n) st = (lns, 0, 0) ∧ Below w.heap.size w w'

set_option maxRecDepth 100000 in
set_option maxHeartbeats 2000000 in
theorem opened_any (n st : Int) (sh : Bool) (w : World) (hn : -9223372036854775808 ≤ n ∧ n ≤ 9223372036854775807) (hst : -9223372036854775808 ≤ st ∧ st ≤ 9223372036854775807) :
    Calls Tryd.prog 14 #[.int .i64 n, .int .i64 st, .bool sh] w fun e w' => ∃ k st', k < 256 ∧ OpenedAns k st' sh w e w' := by
  obtain ⟨n1, n2⟩ := hn
  obtain ⟨s1, s2⟩ := hst
  go_enter Tryd.func14, Tryd.ntmps14
  go_wp2_with fail
  refine (pick_any n 256 _ ⟨n1, n2⟩ (by omega)).mono ?_
  rintro e w1 ⟨rfl, rfl⟩
  have hp := pickN_range (c := n) (n := 256) (by omega)
  obtain ⟨k, hk⟩ : ∃ k : Nat, pickN n 256 = k := ⟨(pickN n 256).toNat, by omega⟩
  rw [hk] at hp ⊢
  have hk256 : k < 256 := by omega
  clear hp hk
  go_wp2_with fail
  refine (table_any k _ hk256).mono ?_
  rintro e w2 ⟨s, rfl, hs, hb2⟩
  have HS := hide hs
  have HB2 := hide hb2
  have hz2 := hb2.size
  clear hs hb2
  go_wp2_with fail
  refine (pick_any st 4 _ ⟨s1, s2⟩ (by omega)).mono ?_
  rintro e w3 ⟨rfl, rfl⟩
  have hp := pickN_range (c := st) (n := 4) (by omega)
  obtain ⟨t, ht⟩ : ∃ t : Int, pickN st 4 = t := ⟨_, rfl⟩
  rw [ht] at hp ⊢
  obtain ⟨p1, p2⟩ := hp
  have hsz : s.size ≤ maxLen := by
    have h1 := keepText_len k 8 (by omega)
    have h2 : s.data.toList.length ≤ 860 := by rw [HS.out]; exact h1
    simp at h2
    unfold maxLen
    omega
  obtain ⟨lns, hl1, hl2⟩ := Tm.keep_tab hk256 (st := 1 + t) (by omega)
  have HL1 := hide hl1
  have HL2 := hide hl2
  clear ht hl1 hl2
  go_wp2_with fail
  refine (new_said.2 s (1 + t) sh _ hsz).mono ?_
  rintro e w4 ⟨c, rfl, hc, hK, hb4⟩
  rw [HS.out, HL1.out] at hc
  obtain ⟨a, rfl⟩ : ∃ a, c = some a := by
    cases c with
    | none => exact absurd rfl (hc.1 rfl)
    | some a => exact ⟨a, rfl⟩
  obtain ⟨bc, bm, lns', rfl, hco, hnt⟩ := hK _ rfl
  rw [HS.out, HL1.out] at hnt
  injection hnt with hnt _
  subst hnt
  have HC := hide hco.here
  have HOK : Hid (TableOk (1 + t) lns) := TableOk.of HL1.out (newTable_ends HL1.out)
  have HB4 := hide (HB2.out.trans (hb4.mono hz2))
  rw [HS.out, HL1.out]
  clear hc hK hco hb4
  go_wp2
  go_ret
  exact ⟨k, 1 + t, hk256, bc, bm, lns, rfl, HC.out, HOK.out, HL2.out, HL1.out, HB4.out⟩
end Go.Proofs.YtmnjjjhmnhfapaaDoor
namespace Go.Proofs.YtmnjjjhmnhfapaaDoor
open Go.RowKit

theorem runes_a : runesOf ⟨#[97]⟩ = [97] := by decide +kernel
theorem runes_b : runesOf ⟨#[98]⟩ = [98] := by decide +kernel
theorem norm_one {lns : List Tm.Ln} {s : ByteArray} {r : Int} (hr : runesOf s = [r]) (hp : Tm.parts lns r = []) : normOf lns s = [r] := by
  unfold normOf
  rw [hr]
  simp only [List.flatMap_cons, List.flatMap_nil, List.append_nil]
  rw [Tm.expand_leaf (by rw [hp]; rfl)]
  rfl
theorem elements_one {lns : List Tm.Ln} {r : Int} {e : List Tm.El} (h : Tm.seqOf lns [r] = some e) : Tm.elements lns [r] = e := by
  rw [Tm.elements_step (by simp)]
  have hl : Tm.lead lns [r] = 1 := by
    unfold Tm.lead
    rw [if_neg (fun h => by simp at h), if_neg (fun h => by simp at h)]
  rw [hl]
  simp only [List.take_succ_cons, List.take_zero, List.drop_succ_cons, List.drop_zero, Tm.grow]
  rw [Tm.elements_nil, List.append_nil, Tm.weigh, h]
theorem keep_norm_a {lns : List Tm.Ln} (h : Tm.KeepTab lns) : normOf lns ⟨#[97]⟩ = [97] := norm_one runes_a h.pa
theorem keep_norm_b {lns : List Tm.Ln} (h : Tm.KeepTab lns) : normOf lns ⟨#[98]⟩ = [98] := norm_one runes_b h.pb
theorem keep_cmp_ab {lns : List Tm.Ln} (h : Tm.KeepTab lns) {st : Int} {sh : Bool} (hst : 1 ≤ st ∧ st ≤ 4) : cmpOf lns st sh ⟨#[97]⟩ ⟨#[98]⟩ = -1 := by
  unfold cmpOf stands levels
  rw [keep_norm_a h, keep_norm_b h, elements_one h.a, elements_one h.b]
  obtain ⟨t, ht⟩ : ∃ t : Nat, st.toNat = t + 1 := ⟨st.toNat - 1, by omega⟩
  rw [ht]
  simp only [List.map_cons, List.take_succ_cons, List.cons_append, Tm.cmpLL]
  have : Tm.cmpL (Tm.level sh [⟨16, 32, 2, false⟩] 0) (Tm.level sh [⟨17, 32, 2, false⟩] 0) = -1 := by cases sh <;> decide
  rw [this]
  rfl
theorem cmpOf_self (lns : List Tm.Ln) (st : Int) (sh : Bool) (a : ByteArray) : cmpOf lns st sh a a = 0 := Tm.cmpLL_self _
theorem cmpOf_neg (lns : List Tm.Ln) (st : Int) (sh : Bool) (a b : ByteArray) : cmpOf lns st sh b a = - cmpOf lns st sh a b := Tm.cmpLL_neg _ _
theorem cmpOf_range (lns : List Tm.Ln) (st : Int) (sh : Bool) (a b : ByteArray) : cmpOf lns st sh a b = -1 ∨ cmpOf lns st sh a b = 0 ∨ cmpOf lns st sh a b = 1 := Tm.cmpLL_range _ _
theorem cmpOf_zero {lns : List Tm.Ln} {st : Int} {sh : Bool} {a b : ByteArray} : cmpOf lns st sh a b = 0 ↔ normOf lns a = normOf lns b :=
  ⟨fun h => stands_eq.1 (Tm.cmpLL_zero h), fun h => by unfold cmpOf; rw [h]; exact Tm.cmpLL_self _⟩
theorem cmpOf_trans {lns : List Tm.Ln} {st : Int} {sh : Bool} {a b c : ByteArray} (h : cmpOf lns st sh a b ≤ 0) (k : cmpOf lns st sh b c ≤ 0) : cmpOf lns st sh a c ≤ 0 := Tm.cmpLL_trans h k
theorem cmpOf_trans' {lns : List Tm.Ln} {st : Int} {sh : Bool} {a b c : ByteArray} (h : 0 ≤ cmpOf lns st sh a b) (k : 0 ≤ cmpOf lns st sh b c) : 0 ≤ cmpOf lns st sh a c := by
  have h1 := cmpOf_neg lns st sh a b
  have h2 := cmpOf_neg lns st sh b c
  have h3 := cmpOf_neg lns st sh a c
  have := cmpOf_trans (lns := lns) (st := st) (sh := sh) (a := c) (b := b) (c := a) (by omega) (by omega)
  omega
theorem key_cmp {lns : List Tm.Ln} (hf : ∀ o ∈ lns, Tm.Fit o) {st : Int} {sh : Bool} (hst : 1 ≤ st ∧ st ≤ 4) (a b : ByteArray) : Tm.cmpB (keyBytes lns st sh a) (keyBytes lns st sh b) = cmpOf lns st sh a b :=
  key_order hf hst (norm_range hf a) (norm_range hf b)

set_option maxRecDepth 100000 in
set_option maxHeartbeats 4000000 in
theorem works_any (lns : List Tm.Ln) (bc bm : Nat) (st : Int) (sh : Bool) (w : World) (hc : Coll w bc bm st sh lns) (hok : TableOk st lns) (hk : Tm.KeepTab lns) :
    Calls Tryd.prog 15 #[.pointer (some ⟨bc, 0, none⟩)] w fun e w' => e = .returned (.bool true) ∧ Below w.heap.size w w' := by
  have HC := hide hc
  have HOK := hide hok
  have HK := hide hk
  have HF := hide hc.fit
  clear hc hok hk
  go_enter Tryd.func15, Tryd.ntmps15
  go_wp2_with fail
  refine (Normal_any lns HF.out HOK.out.ends bc bm ⟨#[97]⟩ _ HC.out.c0 HC.out.rd).mono ?_
  rintro e w1 hans
  rw [normAns, if_pos (by decide), keep_norm_a HK.out] at hans
  obtain ⟨v1, rfl, hown1, hb1⟩ := hans
  obtain ⟨g1, o1, c1, rfl, hg1, hc1⟩ := (Reads.of_owns hown1).form (by simp [ints])
  have hx := hc1 0 (.int .i64 97) rfl
  rw [Nat.add_zero] at hx
  have HB1 := hide hb1
  have hz1 := hb1.size
  have HC1 := hide (HC.out.below hb1)
  clear hown1 hb1 hc1
  simp only [List.length_cons, List.length_nil, Nat.zero_add]
  go_wp2_with fail
  refine (CodeCompare_any lns bc bm st sh ⟨#[97]⟩ ⟨#[98]⟩ _ HC1.out HOK.out).mono ?_
  rw [if_pos (by decide), keep_cmp_ab HK.out HOK.out.st]
  rintro e w2 ⟨rfl, hb2⟩
  have hx2 : w2.cell? ⟨g1, o1, none⟩ = some (.int .i64 97) := by rw [hb2.cell (p := ⟨g1, o1, none⟩) hg1]; exact hx
  have hz2 := hb2.size
  have HB2 := hide (HB1.out.trans (hb2.mono hz1))
  have HC2 := hide (HC1.out.below hb2)
  clear hb2 hx
  go_wp2_with fail
  refine (CodeCompare_any lns bc bm st sh ⟨#[97]⟩ ⟨#[97]⟩ _ HC2.out HOK.out).mono ?_
  rw [if_pos (by decide), cmpOf_self]
  rintro e w3 ⟨rfl, hb3⟩
  have hx3 : w3.cell? ⟨g1, o1, none⟩ = some (.int .i64 97) := by rw [hb3.cell (p := ⟨g1, o1, none⟩) (by simp only; omega)]; exact hx2
  have hz3 := hb3.size
  have HB3 := hide (HB2.out.trans (hb3.mono (by omega)))
  have HC3 := hide (HC2.out.below hb3)
  clear hb3 hx2
  go_wp2_with fail
  refine (CodeKey_any lns bc bm st sh ⟨#[97]⟩ _ HC3.out HOK.out).mono ?_
  rw [if_pos (by decide)]
  rintro e w4 ⟨rfl, hb4⟩
  have hx4 : w4.cell? ⟨g1, o1, none⟩ = some (.int .i64 97) := by rw [hb4.cell (p := ⟨g1, o1, none⟩) (by simp only; omega)]; exact hx3
  have hz4 := hb4.size
  have HB4 := hide (HB3.out.trans (hb4.mono (by omega)))
  have HC4 := hide (HC3.out.below hb4)
  clear hb4 hx3
  go_wp2_with fail
  refine (CodeKey_any lns bc bm st sh ⟨#[98]⟩ _ HC4.out HOK.out).mono ?_
  rw [if_pos (by decide)]
  rintro e w5 ⟨rfl, hb5⟩
  have hx5 : w5.cell? ⟨g1, o1, none⟩ = some (.int .i64 97) := by rw [hb5.cell (p := ⟨g1, o1, none⟩) (by simp only; omega)]; exact hx4
  have hz5 := hb5.size
  have HB5 := hide (HB4.out.trans (hb5.mono (by omega)))
  have HC5 := hide (HC4.out.below hb5)
  clear hb5 hx4
  go_wp2_with fail
  refine (CodeElements_any lns bc bm st sh ⟨#[97]⟩ _ HC5.out HOK.out).mono ?_
  rintro e w6 hans
  rw [partsOfAns, if_pos (by decide), keep_norm_a HK.out, elements_one HK.out.a] at hans
  obtain ⟨v6, rfl, hown6, hb6⟩ := hans
  obtain ⟨g6, o6, c6, rfl, hg6, hc6⟩ := (Reads.of_owns hown6).form (by simp [elsCells, elCells])
  have hy := hc6 0 (.int .i64 16) rfl
  rw [Nat.add_zero] at hy
  have hx6 : w6.cell? ⟨g1, o1, none⟩ = some (.int .i64 97) := by rw [hb6.cell (p := ⟨g1, o1, none⟩) (by simp only; omega)]; exact hx5
  have HB6 := hide (HB5.out.trans (hb6.mono (by omega)))
  simp only [List.length_cons, List.length_nil, Nat.zero_add]
  have hlt : Op.bytesLess (ByteArray.mk (keyBytes lns st sh ⟨#[97]⟩).toArray).toList (ByteArray.mk (keyBytes lns st sh ⟨#[98]⟩).toArray).toList = true := by
    rw [bytesLess_eq, Go.ByteArray.toList_eq, Go.ByteArray.toList_eq]
    have h := (key_cmp HF.out (sh := sh) HOK.out.st ⟨#[97]⟩ ⟨#[98]⟩).trans (keep_cmp_ab HK.out HOK.out.st)
    unfold Tm.cmpB at h
    split at h
    · rename_i h1; simpa using h1
    · split at h <;> simp at h
  generalize (keyBytes lns st sh ⟨#[97]⟩).toArray = ka at *
  generalize (keyBytes lns st sh ⟨#[98]⟩).toArray = kb at *
  clear hown6 hb6 hc6 hx5
  go_wp2
  go_ret
  exact ⟨rfl, HB6.out⟩
end Go.Proofs.YtmnjjjhmnhfapaaDoor
