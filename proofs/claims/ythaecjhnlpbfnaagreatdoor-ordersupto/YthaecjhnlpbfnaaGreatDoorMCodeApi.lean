import Derived.Laws.IdiomStrings
import Derived.Test.YthaecjhnlpbfnaaGreatDoorMCodeStandW
namespace Go.Proofs.YthaecjhnlpbfnaaGreatDoor
open Go.RowKit

namespace Tm
theorem cmpL_step {a b : List Int} {k : Nat} (ha : k < a.length) (hb : k < b.length) : cmpL (a.drop k) (b.drop k) = if a[k] < b[k] then -1 else if b[k] < a[k] then 1 else cmpL (a.drop (k + 1)) (b.drop (k + 1)) := by
  rw [List.drop_eq_getElem_cons ha, List.drop_eq_getElem_cons hb, cmpL]
theorem cmpL_more {a b : List Int} {k : Nat} (ha : k < a.length) (hb : b.length ≤ k) : cmpL (a.drop k) (b.drop k) = 1 := by
  rw [List.drop_eq_getElem_cons ha, List.drop_of_length_le hb, cmpL]
theorem cmpL_end {a b : List Int} {k : Nat} (ha : a.length ≤ k) : cmpL (a.drop k) (b.drop k) = if k < b.length then -1 else 0 := by
  rw [List.drop_of_length_le ha]
  split
  · rename_i h; rw [List.drop_eq_getElem_cons h, cmpL]
  · rename_i h; rw [List.drop_of_length_le (by omega), cmpL]
theorem cmpLL_step {a b : List (List Int)} {k : Nat} (ha : k < a.length) (hb : k < b.length) : cmpLL (a.drop k) (b.drop k) = if cmpL a[k] b[k] = 0 then cmpLL (a.drop (k + 1)) (b.drop (k + 1)) else cmpL a[k] b[k] := by
  rw [List.drop_eq_getElem_cons ha, List.drop_eq_getElem_cons hb, cmpLL]
theorem cmpLL_more {a b : List (List Int)} {k : Nat} (ha : k < a.length) (hb : b.length ≤ k) : cmpLL (a.drop k) (b.drop k) = 1 := by
  rw [List.drop_eq_getElem_cons ha, List.drop_of_length_le hb, cmpLL]
theorem cmpLL_end {a b : List (List Int)} {k : Nat} (ha : a.length ≤ k) : cmpLL (a.drop k) (b.drop k) = if k < b.length then -1 else 0 := by
  rw [List.drop_of_length_le ha]
  split
  · rename_i h; rw [List.drop_eq_getElem_cons h, cmpLL]
  · rename_i h; rw [List.drop_of_length_le (by omega), cmpLL]
end Tm

set_option maxRecDepth 100000 in
set_option maxHeartbeats 2000000 in
theorem SliceCompare_any (va vb : Value) (a b : List Int) (w : World) (ha : Reads w va 1 a.length (ints a)) (hb : Reads w vb 1 b.length (ints b)) (_hla : a.length ≤ 1000000) (_hlb : b.length ≤ 1000000) :
    Calls Tryz.prog 46 #[va, vb] w fun e w' => e = .returned (.int .i64 (Tm.cmpL a b)) ∧ w' = w := by
  obtain ⟨aa, ca, rfl⟩ := ha.shape
  obtain ⟨ab, cb, rfl⟩ := hb.shape
  have HA := hide ha
  have HB := hide hb
  obtain ⟨n, hn⟩ : ∃ n, a.length = n := ⟨_, rfl⟩
  obtain ⟨m, hm⟩ : ∃ m, b.length = m := ⟨_, rfl⟩
  have HN := hide hn
  have HM := hide hm
  rw [hn] at _hla HA
  rw [hm] at HB
  rw [hn, hm]
  clear ha hb hn hm
  go_enter Tryz.func46, Tryz.ntmps46
  go_wp2_with fail
  go_loopw [11] (fun i wr => ∃ k : Nat, k ≤ n ∧ k ≤ m ∧ i = .int .i64 k ∧ Tm.cmpL a b = Tm.cmpL (a.drop k) (b.drop k) ∧ wr = w) (fun i _ => n - (intOf i).toNat)
  case atStart => exact ⟨0, Nat.zero_le _, Nat.zero_le _, rfl, rfl, rfl⟩
  case round =>
    obtain ⟨k, hk, hkm, rfl, hcm, rfl⟩ := hrel
    have HCM := hide hcm
    clear hcm
    by_cases hlt : k < n
    · have hlt' : k < a.length := by rw [HN.out]; exact hlt
      obtain ⟨g, off, rfl, hg, ck⟩ := Reads.at (by rw [HN.out]; exact HA.out) hlt'
      have i1 : (0 : Int) ≤ (k : Int) := by omega
      have i2 : (k : Int) < (n : Int) := by omega
      by_cases hlm : k < m
      · have hlm' : k < b.length := by rw [HM.out]; exact hlm
        obtain ⟨gb, ob, rfl, hgb, cbk⟩ := Reads.at (by rw [HM.out]; exact HB.out) hlm'
        have i3 : (k : Int) < (m : Int) := by omega
        have HST := hide (Tm.cmpL_step hlt' hlm')
        generalize a[k] = x at *
        generalize b[k] = y at *
        go_wp2_with fail
        refine (Compare_any x y _).mono ?_
        rintro e w1 ⟨rfl, rfl⟩
        by_cases h1 : x < y
        · have hc : cmpInt x y = -1 := by unfold cmpInt; rw [if_pos h1]
          rw [hc]
          clear hc
          go_wp2
          go_ret
          exact ⟨ret_int (by rw [HCM.out, HST.out, if_pos h1]), rfl⟩
        · by_cases h2 : y < x
          · have hc : cmpInt x y = 1 := by unfold cmpInt; rw [if_neg h1, if_pos h2]
            rw [hc]
            clear hc
            go_wp2
            go_ret
            exact ⟨ret_int (by rw [HCM.out, HST.out, if_neg (by omega), if_pos h2]), rfl⟩
          · have hc : cmpInt x y = 0 := by unfold cmpInt; rw [if_neg h1, if_neg h2]
            rw [hc]
            clear hc
            go_wp2
            go_roundw
            case rel => exact ⟨k + 1, by omega, by omega, by go_num, by rw [HCM.out, HST.out, if_neg (by omega), if_neg (by omega)], by first | rfl | trivial⟩
            case measure => simp [intOf]; omega
      · have HST := hide (Tm.cmpL_more hlt' (show b.length ≤ k by rw [HM.out]; omega))
        go_wp2
        go_ret
        exact ⟨ret_int (by rw [HCM.out, HST.out]), rfl⟩
    · have HST := hide (Tm.cmpL_end (b := b) (show a.length ≤ k by rw [HN.out]; omega))
      rw [HM.out] at HST
      by_cases hnm : n < m
      · go_wp2
        go_ret
        exact ⟨ret_int (by rw [HCM.out, HST.out, if_pos (by omega)]), rfl⟩
      · go_wp2
        go_ret
        exact ⟨ret_int (by rw [HCM.out, HST.out, if_neg (by omega)]), rfl⟩
theorem ListsRd.shape {w : World} {v : Value} {ls : List (List Int)} (h : ListsRd w v ls) : ∃ a cap, v = .slice a ls.length cap := by
  obtain ⟨vs, _, h2, _⟩ := h
  exact h2.shape
theorem ListsRd.at {w : World} {a : Option Addr} {m cap : Nat} {ls : List (List Int)} (h : ListsRd w (.slice a m cap) ls) {k : Nat} (hk : k < ls.length) : ∃ g off x, a = some ⟨g, off, none⟩ ∧ g < w.heap.size ∧ w.cell? ⟨g, off + k, none⟩ = some x ∧ Reads w x 1 ls[k].length (ints ls[k]) := by
  obtain ⟨vs, h1, h2, h3⟩ := h
  obtain ⟨g, off, cap', he, hg, hc⟩ := h2.form (by omega)
  cases he
  exact ⟨g, off, vs[k]'(by omega), rfl, hg, hc k _ (by simp [h1, hk]), h3 k _ _ (by simp [h1, hk]) (by simp [hk])⟩

set_option maxRecDepth 100000 in
set_option maxHeartbeats 2000000 in
theorem CompareFunc_any (va vb : Value) (a b : List (List Int)) (w : World) (ha : ListsRd w va a) (hb : ListsRd w vb b) (_hla : a.length ≤ 1000) (_hlb : b.length ≤ 1000) (hea : ∀ l ∈ a, l.length ≤ 1000000) (heb : ∀ l ∈ b, l.length ≤ 1000000) :
    Calls Tryz.prog 44 #[va, vb, .func (.func 46) #[] #[]] w fun e w' => e = .returned (.int .i64 (Tm.cmpLL a b)) ∧ w' = w := by
  obtain ⟨aa, ca, rfl⟩ := ha.shape
  obtain ⟨ab, cb, rfl⟩ := hb.shape
  have HA := hide ha
  have HB := hide hb
  have HEA := hide hea
  have HEB := hide heb
  obtain ⟨n, hn⟩ : ∃ n, a.length = n := ⟨_, rfl⟩
  obtain ⟨m, hm⟩ : ∃ m, b.length = m := ⟨_, rfl⟩
  have HN := hide hn
  have HM := hide hm
  rw [hn] at _hla HA
  rw [hm] at HB
  rw [hn, hm]
  clear ha hb hn hm hea heb
  go_enter Tryz.func44, Tryz.ntmps44
  go_wp2_with fail
  go_loopw [13] (fun i wr => ∃ k : Nat, k ≤ n ∧ k ≤ m ∧ i = .int .i64 k ∧ Tm.cmpLL a b = Tm.cmpLL (a.drop k) (b.drop k) ∧ wr = w) (fun i _ => n - (intOf i).toNat)
  case atStart => exact ⟨0, Nat.zero_le _, Nat.zero_le _, rfl, rfl, rfl⟩
  case round =>
    obtain ⟨k, hk, hkm, rfl, hcm, rfl⟩ := hrel
    have HCM := hide hcm
    clear hcm
    by_cases hlt : k < n
    · have hlt' : k < a.length := by rw [HN.out]; exact hlt
      obtain ⟨g, off, xa, rfl, hg, ck, hra⟩ := HA.out.at hlt'
      have HRA := hide hra
      have hlx := HEA.out _ (List.getElem_mem hlt')
      obtain ⟨a1, c1, rfl⟩ := hra.shape
      have i1 : (0 : Int) ≤ (k : Int) := by omega
      have i2 : (k : Int) < (n : Int) := by omega
      clear hra
      by_cases hlm : k < m
      · have hlm' : k < b.length := by rw [HM.out]; exact hlm
        obtain ⟨gb, ob, xb, rfl, hgb, cbk, hrb⟩ := HB.out.at hlm'
        have HRB := hide hrb
        have hly := HEB.out _ (List.getElem_mem hlm')
        obtain ⟨a2, c2, rfl⟩ := hrb.shape
        have i3 : (k : Int) < (m : Int) := by omega
        have HST := hide (Tm.cmpLL_step hlt' hlm')
        have HRG := hide (Tm.cmpL_range a[k] b[k])
        clear hrb
        generalize a[k] = x at *
        generalize b[k] = y at *
        go_wp2_with fail
        refine (SliceCompare_any _ _ x y _ HRA.out HRB.out hlx hly).mono ?_
        rintro e w1 ⟨rfl, rfl⟩
        generalize Tm.cmpL x y = c at *
        cases hc : (c != 0)
        · have hc0 : c = 0 := by simpa using hc
          subst hc0
          go_wp2
          go_roundw
          case rel => exact ⟨k + 1, by omega, by omega, by go_num, by rw [HCM.out, HST.out]; simp, by first | rfl | trivial⟩
          case measure => simp [intOf]; omega
        · have hc0 : c ≠ 0 := by simpa using hc
          have HC0 := hide hc0
          clear hc0
          go_wp2
          go_ret
          exact ⟨ret_int (by rw [HCM.out, HST.out, if_neg HC0.out]), rfl⟩
      · have HST := hide (Tm.cmpLL_more hlt' (show b.length ≤ k by rw [HM.out]; omega))
        go_wp2
        go_ret
        exact ⟨ret_int (by rw [HCM.out, HST.out]), rfl⟩
    · have HST := hide (Tm.cmpLL_end (b := b) (show a.length ≤ k by rw [HN.out]; omega))
      rw [HM.out] at HST
      by_cases hnm : n < m
      · go_wp2
        go_ret
        exact ⟨ret_int (by rw [HCM.out, HST.out, if_pos (by omega)]), rfl⟩
      · go_wp2
        go_ret
        exact ⟨ret_int (by rw [HCM.out, HST.out, if_neg (by omega)]), rfl⟩
end Go.Proofs.YthaecjhnlpbfnaaGreatDoor
namespace Go.Proofs.YthaecjhnlpbfnaaGreatDoor
open Go.RowKit

/-- Bytes as cells. -/
def byteCells (l : List UInt8) : List Value := l.map fun c => .int .u8 (c.toNat : Int)
theorem byteCells_length (l : List UInt8) : (byteCells l).length = l.length := by simp [byteCells]
theorem byteCells_append (a b : List UInt8) : byteCells (a ++ b) = byteCells a ++ byteCells b := by simp [byteCells]

theorem num3_cells {x : Int} (h1 : 0 ≤ x) (h2 : x < 16777216) : byteCells (Tm.num3 x) = [.int .u8 (x / 65536), .int .u8 (x / 256 % 256), .int .u8 (x % 256)] := by
  obtain ⟨n, rfl⟩ : ∃ n : Nat, x = n := ⟨x.toNat, by omega⟩
  have hn : n < 16777216 := by omega
  have e1 : (n / 65536) % 256 = n / 65536 := Nat.mod_eq_of_lt (by omega)
  simp only [Tm.num3, byteCells, List.map_cons, List.map_nil, Int.toNat_natCast, UInt8.toNat_ofNat', Nat.reducePow]
  rw [e1]
  simp

set_option maxRecDepth 100000 in
set_option maxHeartbeats 2000000 in
theorem appendNumber_any (v : Value) (l : List UInt8) (x : Int) (B : Nat) (w : World) (hown : w.ownsRow B 5 1 v l.length (byteCells l)) (hB : B ≤ w.heap.size) (hx : 0 ≤ x ∧ x < 16777216) (hl : l.length ≤ 100000000) :
    Calls Tryz.prog 86 #[v, .int .i64 x] w fun e w' => ∃ v', e = .returned v' ∧ w'.ownsRow B 5 1 v' (l ++ Tm.num3 x).length (byteCells (l ++ Tm.num3 x)) ∧ Below B w w' := by
  obtain ⟨i0, hi, hz0, hz1, hz2⟩ := info_parts (show (Tryz.prog.info? 5).map (fun i => (i.zero, i.size, i.bytes)) = some (some (.int .u8 0), 1, 1) by kernel_rfl)
  obtain ⟨av, cv, rfl⟩ := (Reads.of_owns hown).shape
  have HO := hide hown
  obtain ⟨h1, h2⟩ := hx
  clear hown
  go_enter Tryz.func86, Tryz.ntmps86
  have HN3 := hide (num3_cells h1 h2)
  go_wp2_with (at_builtin; go_must (refine wpList_append_own_at _ rfl _ _ 101 rfl B 5 i0 (.int .u8 0) 1 1 Tryz.underlying101 hi hz0 hz1 hz2 rfl (by decide) _ _ _ rfl (HO.out.alloc _) ⟨w.heap.size, 0, none⟩ 3 3 [.int .u8 (x / 65536), .int .u8 (x / 256 % 256), .int .u8 (x % 256)] rfl rfl (news_three rfl) (by intro u hu; simp at hu; rcases hu with rfl | rfl | rfl <;> rfl) (by unfold maxLen; omega) (by omega) (by simp; omega) ?_))
  intro v' w' hown' hgr' _ _
  have HO' : Hid (w'.ownsRow B 5 1 v' (l ++ Tm.num3 x).length (byteCells (l ++ Tm.num3 x))) := by
    unfold Hid
    rw [byteCells_append, HN3.out, List.length_append]
    exact hown'
  have HB' : Hid (Below B w w') := ((Below.refl _ _).alloc hB _).grown hgr' (by simp; omega) (fun k hk => (HO.out.lt k hk).1)
  obtain ⟨a', c', rfl⟩ := (Reads.of_owns hown').shape
  clear hown' hgr'
  go_wp2
  go_ret
  exact ⟨_, rfl, HO'.out, HB'.out⟩

namespace Tm
theorem num3_length (x : Int) : (num3 x).length = 3 := rfl
theorem flat3_length (l : List Int) : (l.flatMap num3).length = 3 * l.length := by
  induction l with
  | nil => rfl
  | cons x r ih => simp only [List.flatMap_cons, List.length_append, ih, num3_length, List.length_cons]; omega
theorem keyLL_short : ∀ {ls : List (List Int)}, (∀ l ∈ ls, l.length ≤ 10000) → (keyLL ls).length ≤ 30003 * ls.length
  | [], _ => by simp [keyLL]
  | l :: r, h => by
    have ih := keyLL_short (ls := r) (fun l hl => h l (by simp [hl]))
    have h1 := h l (by simp)
    simp only [keyLL, List.flatMap_cons, List.length_append, List.length_cons] at ih ⊢
    simp only [keyL, List.length_append, flat3_length, num3_length]
    omega
theorem keyLL_snoc {ls : List (List Int)} {k : Nat} (h : k < ls.length) : keyLL (ls.take (k + 1)) = keyLL (ls.take k) ++ keyL ls[k] := by
  rw [List.take_succ_eq_append_getElem h, keyLL, List.flatMap_append]
  simp only [List.flatMap_cons, List.flatMap_nil, List.append_nil, keyLL]
theorem flat3_snoc {l : List Int} {k : Nat} (h : k < l.length) : (l.take (k + 1)).flatMap num3 = (l.take k).flatMap num3 ++ num3 l[k] := by
  rw [List.take_succ_eq_append_getElem h, List.flatMap_append]
  simp only [List.flatMap_cons, List.flatMap_nil, List.append_nil]
end Tm

set_option maxRecDepth 100000 in
set_option maxHeartbeats 4000000 in
theorem keyOf_any (v : Value) (ls : List (List Int)) (w : World) (hr : ListsRd w v ls) (hl : ls.length ≤ 100) (hlen : ∀ l ∈ ls, l.length ≤ 10000) (hsm : ∀ l ∈ ls, Tm.Small l) (hne : ls ≠ []) :
    Calls Tryz.prog 67 #[v] w fun e w' => ∃ s : ByteArray, s.data.toList = Tm.keyLL ls ∧ e = .returned (.string s) ∧ Below w.heap.size w w' := by
  obtain ⟨a, cap, rfl⟩ := hr.shape
  have HR := hide hr
  have HLEN := hide hlen
  have HSM := hide hsm
  obtain ⟨n, hn⟩ : ∃ n, ls.length = n := ⟨_, rfl⟩
  have HN := hide hn
  rw [hn] at hl HR
  rw [hn]
  have HKL : Hid (∀ k, (Tm.keyLL (ls.take k)).length ≤ 3000300) := fun k => by
    have h1 := Tm.keyLL_short (ls := ls.take k) (fun l hl => hlen l (List.mem_of_mem_take hl))
    have h2 : (ls.take k).length ≤ n := by rw [List.length_take, HN.out]; omega
    have h3 := Nat.mul_le_mul_left 30003 h2
    omega
  have HPOS : Hid (0 < (Tm.keyLL ls).length) := by
    cases ls with
    | nil => exact absurd rfl hne
    | cons x r => unfold Hid; simp only [Tm.keyLL, List.flatMap_cons, Tm.keyL, List.length_append, Tm.num3_length]; omega
  clear hr hlen hsm hn hne
  go_enter Tryz.func67, Tryz.ntmps67
  go_wp2_with fail
  go_loopw [3, 10] (fun vk i wr => ∃ k : Nat, k ≤ n ∧ i = .int .i64 k ∧ wr.ownsRow w.heap.size 5 1 vk (Tm.keyLL (ls.take k)).length (byteCells (Tm.keyLL (ls.take k))) ∧ Below w.heap.size w wr) (fun _ i _ => n - (intOf i).toNat)
  case atStart => exact ⟨0, Nat.zero_le _, rfl, World.ownsRow_nil _ _ _ _, Below.refl _ _⟩
  case round =>
    obtain ⟨k, hk, rfl, hown, hb⟩ := hrel
    have HO := hide hown
    have HB := hide hb
    have hz := hb.size
    clear hown hb
    by_cases hlt : k < n
    · have hlt' : k < ls.length := by rw [HN.out]; exact hlt
      obtain ⟨g, off, x, rfl, hg, ck, hx⟩ := HR.out.at hlt'
      rw [← HB.out.cell (p := ⟨g, off + k, none⟩) hg] at ck
      have hxl := HLEN.out _ (List.getElem_mem hlt')
      have hxs := HSM.out _ (List.getElem_mem hlt')
      have HSN := hide (Tm.keyLL_snoc hlt')
      obtain ⟨l, hl'⟩ : ∃ l, ls[k] = l := ⟨_, rfl⟩
      rw [hl'] at hx hxl hxs HSN
      obtain ⟨ax, cx, rfl⟩ := hx.shape
      have HX := hide hx
      have HXS := hide hxs
      have hkl := HKL.out k
      obtain ⟨m, hm⟩ : ∃ m, l.length = m := ⟨_, rfl⟩
      have HM := hide hm
      rw [hm] at hxl ck HX
      obtain ⟨K, hK⟩ : ∃ K, Tm.keyLL (ls.take k) = K := ⟨_, rfl⟩
      rw [hK] at HO HSN hkl
      have i1 : (0 : Int) ≤ (k : Int) := by omega
      have i2 : (k : Int) < (n : Int) := by omega
      obtain ⟨wo, hwo⟩ : ∃ wo : World, wo = wr := ⟨_, rfl⟩
      rw [← hwo] at HO HB hz ck ⊢
      clear hx hxs hl' hm hK hwo
      go_wp2_with fail
      go_loopw [3, 16] (fun vk i wr => ∃ j : Nat, j ≤ m ∧ i = .int .i64 j ∧ wr.ownsRow w.heap.size 5 1 vk (K ++ (l.take j).flatMap Tm.num3).length (byteCells (K ++ (l.take j).flatMap Tm.num3)) ∧ Below w.heap.size wo wr) (fun _ i _ => m - (intOf i).toNat)
      case atStart => exact ⟨0, Nat.zero_le _, rfl, by simpa using HO.out, Below.refl _ _⟩
      case round =>
        obtain ⟨j, hj, rfl, hown2, hb2⟩ := hrel
        have HO2 := hide hown2
        have HB2 := hide hb2
        have hz2 := hb2.size
        clear hown2 hb2
        have HB2' : Hid (Below w.heap.size w wr) := HB.out.trans HB2.out
        have hfl : ((l.take j).flatMap Tm.num3).length ≤ 30000 := by rw [Tm.flat3_length, List.length_take, HM.out]; omega
        have hll : (K ++ (l.take j).flatMap Tm.num3).length ≤ 100000000 := by rw [List.length_append]; omega
        by_cases hjl : j < m
        · have hjl' : j < l.length := by rw [HM.out]; exact hjl
          obtain ⟨gx, ox, rfl, hgx, cx'⟩ := Reads.at (by rw [HM.out]; exact HX.out.below HB2'.out HX.out.2.1) hjl'
          have hyr := HXS.out _ (List.getElem_mem hjl')
          have HFS := hide (Tm.flat3_snoc hjl')
          have i3 : (0 : Int) ≤ (j : Int) := by omega
          have i4 : (j : Int) < (m : Int) := by omega
          generalize l[j] = y at *
          go_wp2_with fail
          refine (appendNumber_any _ (K ++ (l.take j).flatMap Tm.num3) y w.heap.size _ HO2.out (by omega) hyr hll).mono ?_
          rintro e w3 ⟨v3, rfl, hown3, hb3⟩
          have HO3 : Hid (w3.ownsRow w.heap.size 5 1 v3 (K ++ (l.take (j + 1)).flatMap Tm.num3).length (byteCells (K ++ (l.take (j + 1)).flatMap Tm.num3))) := by
            unfold Hid; rw [HFS.out, ← List.append_assoc]; exact hown3
          have HB3 := hide (HB2.out.trans hb3)
          clear hown3 hb3
          go_wp2
          go_roundw
          case rel => exact ⟨j + 1, by omega, by go_num, HO3.out, HB3.out⟩
          case measure => simp [intOf]; omega
        · have hfull : l.take j = l := List.take_of_length_le (by rw [HM.out]; omega)
          rw [hfull] at HO2 hll
          clear hfull
          go_wp2_with fail
          refine (appendNumber_any _ (K ++ l.flatMap Tm.num3) 0 w.heap.size _ HO2.out (by omega) ⟨by omega, by omega⟩ hll).mono ?_
          rintro e w3 ⟨v3, rfl, hown3, hb3⟩
          have HO3 : Hid (w3.ownsRow w.heap.size 5 1 v3 (Tm.keyLL (ls.take (k + 1))).length (byteCells (Tm.keyLL (ls.take (k + 1))))) := by
            unfold Hid; rw [HSN.out, Tm.keyL, ← List.append_assoc]; exact hown3
          have HB3 : Hid (Below w.heap.size w w3) := HB.out.trans (HB2.out.trans hb3)
          clear hown3 hb3
          go_wp2
          go_roundw
          case rel => exact ⟨k + 1, by omega, by go_num, HO3.out, HB3.out⟩
          case measure => simp [intOf]; omega
    · have HE : Hid (Tm.keyLL (ls.take k) = Tm.keyLL ls) := by unfold Hid; rw [List.take_of_length_le (by rw [HN.out]; omega)]
      rw [HE.out] at HO
      obtain ⟨a2, c2, h2⟩ := (Reads.of_owns HO.out).shape
      subst h2
      obtain ⟨g2, o2, c3, he, hg2, hc2⟩ := (Reads.of_owns HO.out).form (by rw [byteCells_length]; exact HPOS.out)
      cases he
      have hconv := run_convert_bytes_back (P := Tryz.prog) wr 101 9 5 ⟨g2, o2, none⟩ c2 (Tm.keyLL ls) Tryz.underlying101 Tryz.underlying5 Tryz.underlying9 (fun j hj => by rw [addr_add]; exact hc2 j _ (by simp [byteCells, hj]))
      clear hc2
      go_wp2
      go_ret
      exact ⟨_, by simp, rfl, HB.out⟩
end Go.Proofs.YthaecjhnlpbfnaaGreatDoor
namespace Go.Proofs.YthaecjhnlpbfnaaGreatDoor
open Go.RowKit

/-- What a collator of a table that is one has. -/
structure TableOk (st : Int) (lns : List Tm.Ln) : Prop where
  ends : ∀ r, Tm.ends lns 4 r = true
  heavy : Tm.Heavy lns
  st : 1 ≤ st ∧ st ≤ 4
theorem TableOk.of {s : List UInt8} {st : Int} {lns : List Tm.Ln} (h : Tm.newTable s st = (lns, 0, 0)) (he : ∀ r, Tm.ends lns 4 r = true) : TableOk st lns := ⟨he, (Tm.newTable_heavy h).1, (Tm.newTable_heavy h).2⟩

theorem stands_short {lns : List Tm.Ln} (hf : ∀ o ∈ lns, Tm.Fit o) {st : Int} {sh : Bool} {s : ByteArray} (hs : s.size ≤ 64) : ∀ l ∈ stands lns st sh (normOf lns s), l.length ≤ 10000 := by
  have h1 := norm_short' hf hs
  have h2 := Tm.elements_length hf (normOf lns s)
  intro l hl
  rcases List.mem_append.1 hl with hl | hl
  · obtain ⟨k, _, rfl⟩ := List.mem_map.1 (List.mem_of_mem_take hl)
    have : (Tm.level sh (Tm.elements lns (normOf lns s)) k).length ≤ (Tm.elements lns (normOf lns s)).length := Tm.lev_length sh k _ _
    omega
  · rw [List.mem_singleton.1 hl]; omega
theorem stands_length {lns : List Tm.Ln} {st : Int} {sh : Bool} {n : List Int} (h : 1 ≤ st ∧ st ≤ 4) : (stands lns st sh n).length ≤ 5 := by
  unfold stands; rw [List.length_append, levels_length h]; simp; omega
theorem stands_small {lns : List Tm.Ln} (hf : ∀ o ∈ lns, Tm.Fit o) {st : Int} {sh : Bool} {s : ByteArray} : ∀ l ∈ stands lns st sh (normOf lns s), Tm.Small l := by
  intro l hl
  rcases List.mem_append.1 hl with hl | hl
  · exact (levels_weights hf (norm_range hf s) l hl).small
  · rw [List.mem_singleton.1 hl]
    intro x hx
    have := norm_range hf s x hx
    omega
theorem stands_ne {lns : List Tm.Ln} {st : Int} {sh : Bool} {n : List Int} : stands lns st sh n ≠ [] := by simp [stands]

/-- How two texts compare. -/
def cmpOf (lns : List Tm.Ln) (st : Int) (sh : Bool) (a b : ByteArray) : Int := Tm.cmpLL (stands lns st sh (normOf lns a)) (stands lns st sh (normOf lns b))
/-- The bytes of a text's key. -/
def keyBytes (lns : List Tm.Ln) (st : Int) (sh : Bool) (s : ByteArray) : List UInt8 := Tm.keyLL (stands lns st sh (normOf lns s))

set_option maxRecDepth 100000 in
set_option maxHeartbeats 2000000 in
theorem CodeCompare_any (lns : List Tm.Ln) (bc bm : Nat) (st : Int) (sh : Bool) (a b : ByteArray) (w : World) (hc : Coll w bc bm st sh lns) (hok : TableOk st lns) :
    Calls Tryz.prog 22 #[.pointer (some ⟨bc, 0, none⟩), .string a, .string b] w fun e w' => e = .returned (if a.size ≤ 64 ∧ b.size ≤ 64 then .tuple #[.int .i64 (cmpOf lns st sh a b), .int .i64 0] else .tuple #[.int .i64 0, .int .i64 7]) ∧ Below w.heap.size w w' := by
  have HC := hide hc
  have HOK := hide hok
  have HF := hide hc.fit
  clear hc hok
  by_cases ha : a.size ≤ 64
  · have hda : decide (64 < (a.size : Int)) = false := by simp <;> omega
    by_cases hb : b.size ≤ 64
    · have hdb : decide (64 < (b.size : Int)) = false := by simp <;> omega
      rw [if_pos ⟨ha, hb⟩]
      go_enter Tryz.func22, Tryz.ntmps22
      go_wp2_with fail
      refine (isLong_any a _).mono ?_
      rintro e w0 ⟨rfl, rfl⟩
      rw [hda]
      go_wp2_with fail
      refine (isLong_any b _).mono ?_
      rintro e w0 ⟨rfl, rfl⟩
      rw [hdb]
      go_wp2_with fail
      refine (standing_any lns bc bm st sh a _ HC.out HOK.out.ends HOK.out.heavy HOK.out.st ha).mono ?_
      rintro e w1 ⟨v1, rfl, hr1, hb1⟩
      have HR1 := hide hr1
      have HB1 := hide hb1
      have hz1 := hb1.size
      clear hr1 hb1
      go_wp2_with fail
      refine (standing_any lns bc bm st sh b _ (HC.out.below HB1.out) HOK.out.ends HOK.out.heavy HOK.out.st hb).mono ?_
      rintro e w2 ⟨v2, rfl, hr2, hb2⟩
      have HR2 := hide hr2
      have HR12 := hide (HR1.out.below hb2)
      have HB2 := hide (HB1.out.trans (hb2.mono hz1))
      clear hr2 hb2
      go_wp2_with fail
      refine (CompareFunc_any _ _ _ _ _ HR12.out HR2.out (by have := stands_length (lns := lns) (sh := sh) (n := normOf lns a) HOK.out.st; omega) (by have := stands_length (lns := lns) (sh := sh) (n := normOf lns b) HOK.out.st; omega) (fun l hl => by have := stands_short HF.out ha l hl; omega) (fun l hl => by have := stands_short HF.out hb l hl; omega)).mono ?_
      rintro e w3 ⟨rfl, rfl⟩
      go_wp2
      go_ret2
      exact ⟨rfl, HB2.out⟩
    · have hdb : decide (64 < (b.size : Int)) = true := by simp <;> omega
      rw [if_neg (fun h => hb h.2)]
      go_enter Tryz.func22, Tryz.ntmps22
      go_wp2_with fail
      refine (isLong_any a _).mono ?_
      rintro e w0 ⟨rfl, rfl⟩
      rw [hda]
      go_wp2_with fail
      refine (isLong_any b _).mono ?_
      rintro e w0 ⟨rfl, rfl⟩
      rw [hdb]
      go_wp2
      go_ret2
      exact ⟨rfl, Below.refl _ _⟩
  · have hda : decide (64 < (a.size : Int)) = true := by simp <;> omega
    rw [if_neg (fun h => ha h.1)]
    go_enter Tryz.func22, Tryz.ntmps22
    go_wp2_with fail
    refine (isLong_any a _).mono ?_
    rintro e w0 ⟨rfl, rfl⟩
    rw [hda]
    go_wp2
    go_ret2
    exact ⟨rfl, Below.refl _ _⟩

set_option maxRecDepth 100000 in
set_option maxHeartbeats 2000000 in
theorem CodeKey_any (lns : List Tm.Ln) (bc bm : Nat) (st : Int) (sh : Bool) (s : ByteArray) (w : World) (hc : Coll w bc bm st sh lns) (hok : TableOk st lns) :
    Calls Tryz.prog 47 #[.pointer (some ⟨bc, 0, none⟩), .string s] w fun e w' => e = .returned (if s.size ≤ 64 then .tuple #[.string ⟨(keyBytes lns st sh s).toArray⟩, .int .i64 0] else .tuple #[.string ⟨#[]⟩, .int .i64 7]) ∧ Below w.heap.size w w' := by
  have HC := hide hc
  have HOK := hide hok
  have HF := hide hc.fit
  clear hc hok
  by_cases hs : s.size ≤ 64
  · have hd : decide (64 < (s.size : Int)) = false := by simp <;> omega
    rw [if_pos hs]
    go_enter Tryz.func47, Tryz.ntmps47
    go_wp2_with fail
    refine (isLong_any s _).mono ?_
    rintro e w0 ⟨rfl, rfl⟩
    rw [hd]
    go_wp2_with fail
    refine (standing_any lns bc bm st sh s _ HC.out HOK.out.ends HOK.out.heavy HOK.out.st hs).mono ?_
    rintro e w1 ⟨v1, rfl, hr1, hb1⟩
    have HR1 := hide hr1
    have HB1 := hide hb1
    have hz1 := hb1.size
    clear hr1 hb1
    go_wp2_with fail
    refine (keyOf_any _ _ _ HR1.out (by have := stands_length (lns := lns) (sh := sh) (n := normOf lns s) HOK.out.st; omega) (stands_short HF.out hs) (stands_small HF.out) stands_ne).mono ?_
    rintro e w2 ⟨k, hk, rfl, hb2⟩
    have HK : Hid (k = ⟨(keyBytes lns st sh s).toArray⟩) := by
      unfold Hid keyBytes
      rw [← hk]
    have HB2 := hide (HB1.out.trans (hb2.mono hz1))
    clear hk hb2
    go_wp2
    go_ret2
    exact ⟨by rw [HK.out]; rfl, HB2.out⟩
  · have hd : decide (64 < (s.size : Int)) = true := by simp <;> omega
    rw [if_neg hs]
    go_enter Tryz.func47, Tryz.ntmps47
    go_wp2_with fail
    refine (isLong_any s _).mono ?_
    rintro e w0 ⟨rfl, rfl⟩
    rw [hd]
    go_wp2
    go_ret2
    exact ⟨rfl, Below.refl _ _⟩

/-- What Elements answers. -/
def partsOfAns (lns : List Tm.Ln) (s : ByteArray) (w : World) (e : Ending) (w' : World) : Prop :=
  if s.size ≤ 64 then ∃ v, e = .returned (.tuple #[v, .int .i64 0]) ∧ w'.ownsRow w.heap.size 71 4 v (Tm.elements lns (normOf lns s)).length (elsCells (Tm.elements lns (normOf lns s))) ∧ Below w.heap.size w w'
  else e = .returned (.tuple #[.slice none 0 0, .int .i64 7]) ∧ w' = w

set_option maxRecDepth 100000 in
set_option maxHeartbeats 2000000 in
theorem CodeElements_any (lns : List Tm.Ln) (bc bm : Nat) (st : Int) (sh : Bool) (s : ByteArray) (w : World) (hc : Coll w bc bm st sh lns) (hok : TableOk st lns) :
    Calls Tryz.prog 17 #[.pointer (some ⟨bc, 0, none⟩), .string s] w fun e w' => partsOfAns lns s w e w' := by
  have HC := hide hc
  have HOK := hide hok
  have HF := hide hc.fit
  have hlt := hc.lt
  have c0 := hc.c0
  have hfew := hc.few
  clear hc hok
  by_cases hs : s.size ≤ 64
  · have hd : decide (64 < (s.size : Int)) = false := by simp <;> omega
    have hnl := norm_short' HF.out hs
    go_enter Tryz.func17, Tryz.ntmps17
    go_wp2_with fail
    refine (isLong_any s _).mono ?_
    rintro e w0 ⟨rfl, rfl⟩
    rw [hd]
    go_wp2_with fail
    go_region_with (first | (go_at_call 39; refine (normalForm_any lns HF.out HOK.out.ends bm s _ hs (HC.out.below (Below.refl _ _).drew).rd).mono ?_; rintro e w1 ⟨v1, rfl, hown1, hb1⟩; have HR1 := hide (Reads.of_owns hown1); have HB1 := hide hb1; have hz1 := hb1.size; have c01 := (hb1.cell (p := ⟨bc, 0, none⟩) (by exact hlt)).trans c0; have HC1 := hide ((HC.out.below (Below.refl _ _).drew).below hb1); clear hown1 hb1) | (go_at_call 38; refine (elements_any lns bm _ (normOf lns s) _ HC1.out.rd HR1.out (norm_calm lns s) (norm_range HF.out s) (by omega) hfew HF.out).mono ?_; rintro e w2 ⟨v2, rfl, hown2, hb2⟩))
    all_goals
      have HANS : Hid (partsOfAns lns s w0 (.returned (.tuple #[v2, .int .i64 0])) w2) := by
        unfold Hid partsOfAns
        rw [if_pos hs]
        exact ⟨v2, rfl, owns_mono hown2 (by exact hz1), ((Below.refl _ _).drew.trans HB1.out).trans (hb2.mono (by exact hz1))⟩
      clear hown2 hb2
      go_wp2
      go_ret2
      exact HANS.out
  · have hd : decide (64 < (s.size : Int)) = true := by simp <;> omega
    go_enter Tryz.func17, Tryz.ntmps17
    go_wp2_with fail
    refine (isLong_any s _).mono ?_
    rintro e w0 ⟨rfl, rfl⟩
    rw [hd]
    go_wp2
    go_ret2
    unfold partsOfAns
    rw [if_neg hs]
    exact ⟨rfl, rfl⟩
end Go.Proofs.YthaecjhnlpbfnaaGreatDoor
