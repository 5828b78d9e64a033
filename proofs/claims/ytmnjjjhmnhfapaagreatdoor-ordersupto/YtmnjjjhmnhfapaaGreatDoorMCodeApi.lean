import Derived.Laws.IdiomStrings
import Derived.Test.YtmnjjjhmnhfapaaGreatDoorMCodeCmp
namespace Go.Proofs.YtmnjjjhmnhfapaaGreatDoor
open Go.RowKit

/-- Bytes as cells. -/
def byteCells (l : List UInt8) : List Value := l.map fun c => .int .u8 (c.toNat : Int)
theorem byteCells_length (l : List UInt8) : (byteCells l).length = l.length := by simp [byteCells]
theorem byteCells_append (a b : List UInt8) : byteCells (a ++ b) = byteCells a ++ byteCells b := by simp [byteCells]

theorem num3_cells {x : Int} (h1 : 0 ≤ x) (h2 : x < 16777216) : byteCells (Tm.num3 x) = [.int .u8 (x / 65536), .int .u8 (x / 256 % 256), .int .u8 (x % 256)] := by
  obtain ⟨n, rfl⟩ : ∃ n : Nat, x = n := ⟨x.toNat, by omega⟩
  have hn : n < 16777216 := by omega
  have e1 : (n / 65536) % 256 = n / 65536 := Nat.mod_eq_of_lt (by omega)
  simp only [Tm.num3, byteCells, List.map_cons, List.map_nil, Int.toNat_natCast, UInt8.toNat_ofNat', Nat.reducePow]
  rw [e1]
  simp

set_option maxRecDepth 100000 in
set_option maxHeartbeats 2000000 in
theorem appendNumber_any (v : Value) (l : List UInt8) (x : Int) (B : Nat) (w : World) (hown : w.ownsRow B 5 1 v l.length (byteCells l)) (hB : B ≤ w.heap.size) (hx : 0 ≤ x ∧ x < 16777216) (hl : l.length ≤ 100000000) :
    Calls Tryz.prog 149 #[v, .int .i64 x] w fun e w' => ∃ v', e = .returned v' ∧ w'.ownsRow B 5 1 v' (l ++ Tm.num3 x).length (byteCells (l ++ Tm.num3 x)) ∧ Below B w w' := by
  obtain ⟨i0, hi, hz0, hz1, hz2⟩ := info_parts (show (Tryz.prog.info? 5).map (fun i => (i.zero, i.size, i.bytes)) = some (some (.int .u8 0), 1, 1) by kernel_rfl)
  obtain ⟨av, cv, rfl⟩ := (Reads.of_owns hown).shape
  have HO := hide hown
  obtain ⟨h1, h2⟩ := hx
  clear hown
  go_enter Tryz.func149, Tryz.ntmps149
  have HN3 := hide (num3_cells h1 h2)
  go_wp2_with (at_builtin; go_must (refine wpList_append_own_at _ rfl _ _ 177 rfl B 5 i0 (.int .u8 0) 1 1 Tryz.underlying177 hi hz0 hz1 hz2 rfl (by decide) _ _ _ rfl (HO.out.alloc _) ⟨w.heap.size, 0, none⟩ 3 3 [.int .u8 (x / 65536), .int .u8 (x / 256 % 256), .int .u8 (x % 256)] rfl rfl (news_three rfl) (by intro u hu; simp at hu; rcases hu with rfl | rfl | rfl <;> rfl) (by unfold maxLen; omega) (by omega) (by simp; omega) ?_))
  intro v' w' hown' hgr' _ _
  have HO' : Hid (w'.ownsRow B 5 1 v' (l ++ Tm.num3 x).length (byteCells (l ++ Tm.num3 x))) := by
    unfold Hid
    rw [byteCells_append, HN3.out, List.length_append]
    exact hown'
  have HB' : Hid (Below B w w') := ((Below.refl _ _).alloc hB _).grown hgr' (by simp; omega) (fun k hk => (HO.out.lt k hk).1)
  obtain ⟨a', c', rfl⟩ := (Reads.of_owns hown').shape
  clear hown' hgr'
  go_wp2
  go_ret
  exact ⟨_, rfl, HO'.out, HB'.out⟩

namespace Tm
theorem num3_length (x : Int) : (num3 x).length = 3 := rfl
theorem flat3_length (l : List Int) : (l.flatMap num3).length = 3 * l.length := by
  induction l with
  | nil => rfl
  | cons x r ih => simp only [List.flatMap_cons, List.length_append, ih, num3_length, List.length_cons]; omega
theorem keyLL_short : ∀ {ls : List (List Int)}, (∀ l ∈ ls, l.length ≤ 10000) → (keyLL ls).length ≤ 30003 * ls.length
  | [], _ => by simp [keyLL]
  | l :: r, h => by
    have ih := keyLL_short (ls := r) (fun l hl => h l (by simp [hl]))
    have h1 := h l (by simp)
    simp only [keyLL, List.flatMap_cons, List.length_append, List.length_cons] at ih ⊢
    simp only [keyL, List.length_append, flat3_length, num3_length]
    omega
theorem keyLL_snoc {ls : List (List Int)} {k : Nat} (h : k < ls.length) : keyLL (ls.take (k + 1)) = keyLL (ls.take k) ++ keyL ls[k] := by
  rw [List.take_succ_eq_append_getElem h, keyLL, List.flatMap_append]
  simp only [List.flatMap_cons, List.flatMap_nil, List.append_nil, keyLL]
theorem flat3_snoc {l : List Int} {k : Nat} (h : k < l.length) : (l.take (k + 1)).flatMap num3 = (l.take k).flatMap num3 ++ num3 l[k] := by
  rw [List.take_succ_eq_append_getElem h, List.flatMap_append]
  simp only [List.flatMap_cons, List.flatMap_nil, List.append_nil]
end Tm

set_option maxRecDepth 100000 in
set_option maxHeartbeats 4000000 in
theorem keyOf_any (v : Value) (ls : List (List Int)) (w : World) (hr : ListsRd w v ls) (hl : ls.length ≤ 100) (hlen : ∀ l ∈ ls, l.length ≤ 10000) (hsm : ∀ l ∈ ls, Tm.Small l) (hne : ls ≠ []) :
    Calls Tryz.prog 109 #[v] w fun e w' => ∃ s : ByteArray, s.data.toList = Tm.keyLL ls ∧ e = .returned (.string s) ∧ Below w.heap.size w w' := by
  obtain ⟨a, cap, rfl⟩ := hr.shape
  have HR := hide hr
  have HLEN := hide hlen
  have HSM := hide hsm
  obtain ⟨n, hn⟩ : ∃ n, ls.length = n := ⟨_, rfl⟩
  have HN := hide hn
  rw [hn] at hl HR
  rw [hn]
  have HKL : Hid (∀ k, (Tm.keyLL (ls.take k)).length ≤ 3000300) := fun k => by
    have h1 := Tm.keyLL_short (ls := ls.take k) (fun l hl => hlen l (List.mem_of_mem_take hl))
    have h2 : (ls.take k).length ≤ n := by rw [List.length_take, HN.out]; omega
    have h3 := Nat.mul_le_mul_left 30003 h2
    omega
  have HPOS : Hid (0 < (Tm.keyLL ls).length) := by
    cases ls with
    | nil => exact absurd rfl hne
    | cons x r => unfold Hid; simp only [Tm.keyLL, List.flatMap_cons, Tm.keyL, List.length_append, Tm.num3_length]; omega
  clear hr hlen hsm hn hne
  go_enter Tryz.func109, Tryz.ntmps109
  go_wp2_with fail
  go_loopw [3, 10] (fun vk i wr => ∃ k : Nat, k ≤ n ∧ i = .int .i64 k ∧ wr.ownsRow w.heap.size 5 1 vk (Tm.keyLL (ls.take k)).length (byteCells (Tm.keyLL (ls.take k))) ∧ Below w.heap.size w wr) (fun _ i _ => n - (intOf i).toNat)
  case atStart => exact ⟨0, Nat.zero_le _, rfl, World.ownsRow_nil _ _ _ _, Below.refl _ _⟩
  case round =>
    obtain ⟨k, hk, rfl, hown, hb⟩ := hrel
    have HO := hide hown
    have HB := hide hb
    have hz := hb.size
    clear hown hb
    by_cases hlt : k < n
    · have hlt' : k < ls.length := by rw [HN.out]; exact hlt
      obtain ⟨g, off, x, rfl, hg, ck, hx⟩ := HR.out.at hlt'
      rw [← HB.out.cell (p := ⟨g, off + k, none⟩) hg] at ck
      have hxl := HLEN.out _ (List.getElem_mem hlt')
      have hxs := HSM.out _ (List.getElem_mem hlt')
      have HSN := hide (Tm.keyLL_snoc hlt')
      obtain ⟨l, hl'⟩ : ∃ l, ls[k] = l := ⟨_, rfl⟩
      rw [hl'] at hx hxl hxs HSN
      obtain ⟨ax, cx, rfl⟩ := hx.shape
      have HX := hide hx
      have HXS := hide hxs
      have hkl := HKL.out k
      obtain ⟨m, hm⟩ : ∃ m, l.length = m := ⟨_, rfl⟩
      have HM := hide hm
      rw [hm] at hxl ck HX
      obtain ⟨K, hK⟩ : ∃ K, Tm.keyLL (ls.take k) = K := ⟨_, rfl⟩
      rw [hK] at HO HSN hkl
      have i1 : (0 : Int) ≤ (k : Int) := by omega
      have i2 : (k : Int) < (n : Int) := by omega
      obtain ⟨wo, hwo⟩ : ∃ wo : World, wo = wr := ⟨_, rfl⟩
      rw [← hwo] at HO HB hz ck ⊢
      clear hx hxs hl' hm hK hwo
      go_wp2_with fail
      go_loopw [3, 16] (fun vk i wr => ∃ j : Nat, j ≤ m ∧ i = .int .i64 j ∧ wr.ownsRow w.heap.size 5 1 vk (K ++ (l.take j).flatMap Tm.num3).length (byteCells (K ++ (l.take j).flatMap Tm.num3)) ∧ Below w.heap.size wo wr) (fun _ i _ => m - (intOf i).toNat)
      case atStart => exact ⟨0, Nat.zero_le _, rfl, by simpa using HO.out, Below.refl _ _⟩
      case round =>
        obtain ⟨j, hj, rfl, hown2, hb2⟩ := hrel
        have HO2 := hide hown2
        have HB2 := hide hb2
        have hz2 := hb2.size
        clear hown2 hb2
        have HB2' : Hid (Below w.heap.size w wr) := HB.out.trans HB2.out
        have hfl : ((l.take j).flatMap Tm.num3).length ≤ 30000 := by rw [Tm.flat3_length, List.length_take, HM.out]; omega
        have hll : (K ++ (l.take j).flatMap Tm.num3).length ≤ 100000000 := by rw [List.length_append]; omega
        by_cases hjl : j < m
        · have hjl' : j < l.length := by rw [HM.out]; exact hjl
          obtain ⟨gx, ox, rfl, hgx, cx'⟩ := Reads.at (by rw [HM.out]; exact HX.out.below HB2'.out HX.out.2.1) hjl'
          have hyr := HXS.out _ (List.getElem_mem hjl')
          have HFS := hide (Tm.flat3_snoc hjl')
          have i3 : (0 : Int) ≤ (j : Int) := by omega
          have i4 : (j : Int) < (m : Int) := by omega
          generalize l[j] = y at *
          go_wp2_with fail
          refine (appendNumber_any _ (K ++ (l.take j).flatMap Tm.num3) y w.heap.size _ HO2.out (by omega) hyr hll).mono ?_
          rintro e w3 ⟨v3, rfl, hown3, hb3⟩
          have HO3 : Hid (w3.ownsRow w.heap.size 5 1 v3 (K ++ (l.take (j + 1)).flatMap Tm.num3).length (byteCells (K ++ (l.take (j + 1)).flatMap Tm.num3))) := by
            unfold Hid; rw [HFS.out, ← List.append_assoc]; exact hown3
          have HB3 := hide (HB2.out.trans hb3)
          clear hown3 hb3
          go_wp2
          go_roundw
          case rel => exact ⟨j + 1, by omega, by go_num, HO3.out, HB3.out⟩
          case measure => simp [intOf]; omega
        · have hfull : l.take j = l := List.take_of_length_le (by rw [HM.out]; omega)
          rw [hfull] at HO2 hll
          clear hfull
          go_wp2_with fail
          refine (appendNumber_any _ (K ++ l.flatMap Tm.num3) 0 w.heap.size _ HO2.out (by omega) ⟨by omega, by omega⟩ hll).mono ?_
          rintro e w3 ⟨v3, rfl, hown3, hb3⟩
          have HO3 : Hid (w3.ownsRow w.heap.size 5 1 v3 (Tm.keyLL (ls.take (k + 1))).length (byteCells (Tm.keyLL (ls.take (k + 1))))) := by
            unfold Hid; rw [HSN.out, Tm.keyL, ← List.append_assoc]; exact hown3
          have HB3 : Hid (Below w.heap.size w w3) := HB.out.trans (HB2.out.trans hb3)
          clear hown3 hb3
          go_wp2
          go_roundw
          case rel => exact ⟨k + 1, by omega, by go_num, HO3.out, HB3.out⟩
          case measure => simp [intOf]; omega
    · have HE : Hid (Tm.keyLL (ls.take k) = Tm.keyLL ls) := by unfold Hid; rw [List.take_of_length_le (by rw [HN.out]; omega)]
      rw [HE.out] at HO
      obtain ⟨a2, c2, h2⟩ := (Reads.of_owns HO.out).shape
      subst h2
      obtain ⟨g2, o2, c3, he, hg2, hc2⟩ := (Reads.of_owns HO.out).form (by rw [byteCells_length]; exact HPOS.out)
      cases he
      have hconv := run_convert_bytes_back (P := Tryz.prog) wr 177 9 5 ⟨g2, o2, none⟩ c2 (Tm.keyLL ls) Tryz.underlying177 Tryz.underlying5 Tryz.underlying9 (fun j hj => by rw [addr_add]; exact hc2 j _ (by simp [byteCells, hj]))
      clear hc2
      go_wp2
      go_ret
      exact ⟨_, by simp, rfl, HB.out⟩
end Go.Proofs.YtmnjjjhmnhfapaaGreatDoor
namespace Go.Proofs.YtmnjjjhmnhfapaaGreatDoor
open Go.RowKit

/-- What a collator of a table that is one has. -/
structure TableOk (st : Int) (lns : List Tm.Ln) : Prop where
  ends : ∀ r, Tm.ends lns 4 r = true
  heavy : Tm.Heavy lns
  st : 1 ≤ st ∧ st ≤ 4
theorem TableOk.of {s : List UInt8} {st : Int} {lns : List Tm.Ln} (h : Tm.newTable s st = (lns, 0, 0)) (he : ∀ r, Tm.ends lns 4 r = true) : TableOk st lns := ⟨he, (Tm.newTable_heavy h).1, (Tm.newTable_heavy h).2⟩

theorem stands_short {lns : List Tm.Ln} (hf : ∀ o ∈ lns, Tm.Fit o) {st : Int} {sh : Bool} {s : ByteArray} (hs : s.size ≤ 64) : ∀ l ∈ stands lns st sh (normOf lns s), l.length ≤ 10000 := by
  have h1 := norm_short' hf hs
  have h2 := Tm.elements_length hf (normOf lns s)
  intro l hl
  rcases List.mem_append.1 hl with hl | hl
  · obtain ⟨k, _, rfl⟩ := List.mem_map.1 (List.mem_of_mem_take hl)
    have : (Tm.level sh (Tm.elements lns (normOf lns s)) k).length ≤ (Tm.elements lns (normOf lns s)).length := Tm.lev_length sh k _ _
    omega
  · rw [List.mem_singleton.1 hl]; omega
theorem stands_length {lns : List Tm.Ln} {st : Int} {sh : Bool} {n : List Int} (h : 1 ≤ st ∧ st ≤ 4) : (stands lns st sh n).length ≤ 5 := by
  unfold stands; rw [List.length_append, levels_length h]; simp; omega
theorem stands_small {lns : List Tm.Ln} (hf : ∀ o ∈ lns, Tm.Fit o) {st : Int} {sh : Bool} {s : ByteArray} : ∀ l ∈ stands lns st sh (normOf lns s), Tm.Small l := by
  intro l hl
  rcases List.mem_append.1 hl with hl | hl
  · exact (levels_weights hf (norm_range hf s) l hl).small
  · rw [List.mem_singleton.1 hl]
    intro x hx
    have := norm_range hf s x hx
    omega
theorem stands_ne {lns : List Tm.Ln} {st : Int} {sh : Bool} {n : List Int} : stands lns st sh n ≠ [] := by simp [stands]

/-- How two texts compare. -/
def cmpOf (lns : List Tm.Ln) (st : Int) (sh : Bool) (a b : ByteArray) : Int := Tm.cmpLL (stands lns st sh (normOf lns a)) (stands lns st sh (normOf lns b))
/-- The bytes of a text's key. -/
def keyBytes (lns : List Tm.Ln) (st : Int) (sh : Bool) (s : ByteArray) : List UInt8 := Tm.keyLL (stands lns st sh (normOf lns s))

set_option maxRecDepth 100000 in
set_option maxHeartbeats 2000000 in
theorem CodeCompare_any (lns : List Tm.Ln) (bc bm : Nat) (st : Int) (sh : Bool) (a b : ByteArray) (w : World) (hc : Coll w bc bm st sh lns) (hok : TableOk st lns) :
    Calls Tryz.prog 45 #[.pointer (some ⟨bc, 0, none⟩), .string a, .string b] w fun e w' => e = .returned (if a.size ≤ 64 ∧ b.size ≤ 64 then .tuple #[.int .i64 (cmpOf lns st sh a b), .int .i64 0] else .tuple #[.int .i64 0, .int .i64 7]) ∧ Below w.heap.size w w' := by
  have HC := hide hc
  have HOK := hide hok
  have HF := hide hc.fit
  clear hc hok
  by_cases ha : a.size ≤ 64
  · have hda : decide (64 < (a.size : Int)) = false := by simp <;> omega
    by_cases hb : b.size ≤ 64
    · have hdb : decide (64 < (b.size : Int)) = false := by simp <;> omega
      rw [if_pos ⟨ha, hb⟩]
      go_enter Tryz.func45, Tryz.ntmps45
      go_wp2_with fail
      refine (isLong_any a _).mono ?_
      rintro e w0 ⟨rfl, rfl⟩
      rw [hda]
      go_wp2_with fail
      refine (isLong_any b _).mono ?_
      rintro e w0 ⟨rfl, rfl⟩
      rw [hdb]
      go_wp2_with fail
      refine (standing_any lns bc bm st sh a _ HC.out HOK.out.ends HOK.out.heavy HOK.out.st ha).mono ?_
      rintro e w1 ⟨v1, rfl, hr1, hb1⟩
      have HR1 := hide hr1
      have HB1 := hide hb1
      have hz1 := hb1.size
      clear hr1 hb1
      go_wp2_with fail
      refine (standing_any lns bc bm st sh b _ (HC.out.below HB1.out) HOK.out.ends HOK.out.heavy HOK.out.st hb).mono ?_
      rintro e w2 ⟨v2, rfl, hr2, hb2⟩
      have HR2 := hide hr2
      have HR12 := hide (HR1.out.below hb2)
      have HB2 := hide (HB1.out.trans (hb2.mono hz1))
      clear hr2 hb2
      go_wp2_with fail
      refine (CompareFunc_any _ _ _ _ _ HR12.out HR2.out (by have := stands_length (lns := lns) (sh := sh) (n := normOf lns a) HOK.out.st; omega) (by have := stands_length (lns := lns) (sh := sh) (n := normOf lns b) HOK.out.st; omega) (fun l hl => by have := stands_short HF.out ha l hl; omega) (fun l hl => by have := stands_short HF.out hb l hl; omega)).mono ?_
      rintro e w3 ⟨rfl, rfl⟩
      go_wp2
      go_ret2
      exact ⟨rfl, HB2.out⟩
    · have hdb : decide (64 < (b.size : Int)) = true := by simp <;> omega
      rw [if_neg (fun h => hb h.2)]
      go_enter Tryz.func45, Tryz.ntmps45
      go_wp2_with fail
      refine (isLong_any a _).mono ?_
      rintro e w0 ⟨rfl, rfl⟩
      rw [hda]
      go_wp2_with fail
      refine (isLong_any b _).mono ?_
      rintro e w0 ⟨rfl, rfl⟩
      rw [hdb]
      go_wp2
      go_ret2
      exact ⟨rfl, Below.refl _ _⟩
  · have hda : decide (64 < (a.size : Int)) = true := by simp <;> omega
    rw [if_neg (fun h => ha h.1)]
    go_enter Tryz.func45, Tryz.ntmps45
    go_wp2_with fail
    refine (isLong_any a _).mono ?_
    rintro e w0 ⟨rfl, rfl⟩
    rw [hda]
    go_wp2
    go_ret2
    exact ⟨rfl, Below.refl _ _⟩

set_option maxRecDepth 100000 in
set_option maxHeartbeats 2000000 in
theorem CodeKey_any (lns : List Tm.Ln) (bc bm : Nat) (st : Int) (sh : Bool) (s : ByteArray) (w : World) (hc : Coll w bc bm st sh lns) (hok : TableOk st lns) :
    Calls Tryz.prog 65 #[.pointer (some ⟨bc, 0, none⟩), .string s] w fun e w' => e = .returned (if s.size ≤ 64 then .tuple #[.string ⟨(keyBytes lns st sh s).toArray⟩, .int .i64 0] else .tuple #[.string ⟨#[]⟩, .int .i64 7]) ∧ Below w.heap.size w w' := by
  have HC := hide hc
  have HOK := hide hok
  have HF := hide hc.fit
  clear hc hok
  by_cases hs : s.size ≤ 64
  · have hd : decide (64 < (s.size : Int)) = false := by simp <;> omega
    rw [if_pos hs]
    go_enter Tryz.func65, Tryz.ntmps65
    go_wp2_with fail
    refine (isLong_any s _).mono ?_
    rintro e w0 ⟨rfl, rfl⟩
    rw [hd]
    go_wp2_with fail
    refine (standing_any lns bc bm st sh s _ HC.out HOK.out.ends HOK.out.heavy HOK.out.st hs).mono ?_
    rintro e w1 ⟨v1, rfl, hr1, hb1⟩
    have HR1 := hide hr1
    have HB1 := hide hb1
    have hz1 := hb1.size
    clear hr1 hb1
    go_wp2_with fail
    refine (keyOf_any _ _ _ HR1.out (by have := stands_length (lns := lns) (sh := sh) (n := normOf lns s) HOK.out.st; omega) (stands_short HF.out hs) (stands_small HF.out) stands_ne).mono ?_
    rintro e w2 ⟨k, hk, rfl, hb2⟩
    have HK : Hid (k = ⟨(keyBytes lns st sh s).toArray⟩) := by
      unfold Hid keyBytes
      rw [← hk]
    have HB2 := hide (HB1.out.trans (hb2.mono hz1))
    clear hk hb2
    go_wp2
    go_ret2
    exact ⟨by rw [HK.out]; rfl, HB2.out⟩
  · have hd : decide (64 < (s.size : Int)) = true := by simp <;> omega
    rw [if_neg hs]
    go_enter Tryz.func65, Tryz.ntmps65
    go_wp2_with fail
    refine (isLong_any s _).mono ?_
    rintro e w0 ⟨rfl, rfl⟩
    rw [hd]
    go_wp2
    go_ret2
    exact ⟨rfl, Below.refl _ _⟩

/-- What Elements answers. -/
def partsOfAns (lns : List Tm.Ln) (s : ByteArray) (w : World) (e : Ending) (w' : World) : Prop :=
  if s.size ≤ 64 then ∃ v, e = .returned (.tuple #[v, .int .i64 0]) ∧ w'.ownsRow w.heap.size 102 4 v (Tm.elements lns (normOf lns s)).length (elsCells (Tm.elements lns (normOf lns s))) ∧ Below w.heap.size w w'
  else e = .returned (.tuple #[.slice none 0 0, .int .i64 7]) ∧ w' = w

set_option maxRecDepth 100000 in
set_option maxHeartbeats 2000000 in
theorem CodeElements_any (lns : List Tm.Ln) (bc bm : Nat) (st : Int) (sh : Bool) (s : ByteArray) (w : World) (hc : Coll w bc bm st sh lns) (hok : TableOk st lns) :
    Calls Tryz.prog 40 #[.pointer (some ⟨bc, 0, none⟩), .string s] w fun e w' => partsOfAns lns s w e w' := by
  have HC := hide hc
  have HOK := hide hok
  have HF := hide hc.fit
  have hlt := hc.lt
  have c0 := hc.c0
  have hfew := hc.few
  clear hc hok
  by_cases hs : s.size ≤ 64
  · have hd : decide (64 < (s.size : Int)) = false := by simp <;> omega
    have hnl := norm_short' HF.out hs
    go_enter Tryz.func40, Tryz.ntmps40
    go_wp2_with fail
    refine (isLong_any s _).mono ?_
    rintro e w0 ⟨rfl, rfl⟩
    rw [hd]
    go_wp2_with fail
    go_region_with (first | (go_at_call 86; refine (normalForm_any lns HF.out HOK.out.ends bm s _ hs (HC.out.below (Below.refl _ _).drew).rd).mono ?_; rintro e w1 ⟨v1, rfl, hown1, hb1⟩; have HR1 := hide (Reads.of_owns hown1); have HB1 := hide hb1; have hz1 := hb1.size; have c01 := (hb1.cell (p := ⟨bc, 0, none⟩) (by exact hlt)).trans c0; have HC1 := hide ((HC.out.below (Below.refl _ _).drew).below hb1); clear hown1 hb1) | (go_at_call 85; refine (elements_any lns bm _ (normOf lns s) _ HC1.out.rd HR1.out (norm_calm lns s) (norm_range HF.out s) (by omega) hfew HF.out).mono ?_; rintro e w2 ⟨v2, rfl, hown2, hb2⟩))
    all_goals
      have HANS : Hid (partsOfAns lns s w0 (.returned (.tuple #[v2, .int .i64 0])) w2) := by
        unfold Hid partsOfAns
        rw [if_pos hs]
        exact ⟨v2, rfl, owns_mono hown2 (by exact hz1), ((Below.refl _ _).drew.trans HB1.out).trans (hb2.mono (by exact hz1))⟩
      clear hown2 hb2
      go_wp2
      go_ret2
      exact HANS.out
  · have hd : decide (64 < (s.size : Int)) = true := by simp <;> omega
    go_enter Tryz.func40, Tryz.ntmps40
    go_wp2_with fail
    refine (isLong_any s _).mono ?_
    rintro e w0 ⟨rfl, rfl⟩
    rw [hd]
    go_wp2
    go_ret2
    unfold partsOfAns
    rw [if_neg hs]
    exact ⟨rfl, rfl⟩
end Go.Proofs.YtmnjjjhmnhfapaaGreatDoor
