import Derived.Test.YtmnjjjhmnhfapaaGreatDoorMSortMem
namespace Go.Proofs.YtmnjjjhmnhfapaaGreatDoor
open Go.RowKit
def mixed (p u q v r : List Int) (i : Nat) : List Int := (p ++ v.take i) ++ (u.drop i ++ q ++ u.take i ++ (v.drop i ++ r))
theorem mixed_zero (p u q v r : List Int) : mixed p u q v r 0 = p ++ u ++ q ++ v ++ r := by simp [mixed]
theorem mixed_all {p u q v r : List Int} {n : Nat} (hu : u.length = n) (hv : v.length = n) : mixed p u q v r n = p ++ v ++ q ++ u ++ r := by
 simp [mixed, List.drop_eq_nil_of_le, List.take_of_length_le, hu, hv]
theorem mixed_open {p u q v r : List Int} {i : Nat} (hu : i < u.length) (hv : i < v.length) : mixed p u q v r i = (p ++ v.take i) ++ u[i] :: ((u.drop (i + 1) ++ q ++ u.take i) ++ v[i] :: (v.drop (i + 1) ++ r)) := by
 rw [mixed, List.drop_eq_getElem_cons hu, List.drop_eq_getElem_cons hv]; simp only [List.append_assoc, List.cons_append]
theorem mixed_next {p u q v r : List Int} {i : Nat} (hu : i < u.length) (hv : i < v.length) : mixed p u q v r (i + 1) = (p ++ v.take i) ++ v[i] :: ((u.drop (i + 1) ++ q ++ u.take i) ++ u[i] :: (v.drop (i + 1) ++ r)) := by
 rw [mixed, List.take_succ_eq_append_getElem hu, List.take_succ_eq_append_getElem hv]; simp only [List.append_assoc, List.cons_append, List.nil_append]
set_option maxRecDepth 100000 in
set_option maxHeartbeats 2000000 in
theorem swapRange_any (p u q v r : List Int) (n g off N cap : Nat) (fv : Value) (w : World) (hu : u.length = n) (hv : v.length = n) (hN : N = p.length + n + q.length + n + r.length) (hcap : N ≤ 1000000) (hI : Ints w g off (p ++ u ++ q ++ v ++ r)) :
  Calls Tryz.prog 217 #[.slice (some ⟨g, off, none⟩) N cap, .int .i64 (p.length : Int), .int .i64 ((p.length + n + q.length : Nat) : Int), .int .i64 (n : Int), fv] w fun e w' => e = .returned (.tuple #[]) ∧ Ints w' g off (p ++ v ++ q ++ u ++ r) ∧ Turn g off N w w' := by
 obtain ⟨a, ha⟩ : ∃ a, p.length = a := ⟨_, rfl⟩
 obtain ⟨b, hb⟩ : ∃ b, p.length + n + q.length = b := ⟨_, rfl⟩
 rw [hb, ha]
 have HI := hide hI
 have HA := hide ha
 have HB := hide hb
 have hb1 : a + n ≤ b := by omega
 have hb2 : b + n ≤ N := by omega
 clear hI hb ha
 go_enter Tryz.func217, Tryz.ntmps217
 go_wp2
 go_loopw [10] (fun i wr => ∃ k : Nat, k ≤ n ∧ i = .int .i64 k ∧ Ints wr g off (mixed p u q v r k) ∧ Turn g off N w wr) (fun i _ => n - (intOf i).toNat)
 case atStart => exact ⟨0, Nat.zero_le _, rfl, by rw [mixed_zero]; exact HI.out, Turn.refl _ _ _ _⟩
 case round =>
  obtain ⟨k, hk, rfl, hI, hT⟩ := hrel
  have HIr := hide hI
  have HT := hide hT
  clear hI hT
  by_cases hlt : k < n
  ·have hku : k < u.length := by omega
   have hkv : k < v.length := by omega
   have HO : Hid (Ints wr g off ((p ++ v.take k) ++ u[k] :: ((u.drop (k + 1) ++ q ++ u.take k) ++ v[k] :: (v.drop (k + 1) ++ r)))) := by unfold Hid; rw [← mixed_open hku hkv]; exact HIr.out
   have hl1 : (p ++ v.take k).length = a + k := by simp; have := HA.out; omega
   have hl2 : (p ++ v.take k).length + 1 + (u.drop (k + 1) ++ q ++ u.take k).length = b + k := by simp; have := HA.out; have := HB.out; omega
   have c1 := (HO.out (a + k) u[k] (by rw [List.getElem?_append_right (by omega), hl1]; simp))
   have c2 := (HO.out (b + k) v[k] (by rw [List.getElem?_append_right (by omega), show b + k - (p ++ v.take k).length = (u.drop (k + 1) ++ q ++ u.take k).length + 1 from by omega]; simp))
   have HS : Hid (Ints ((wr.setCell ⟨g, off + (a + k), none⟩ (.int .i64 v[k])).setCell ⟨g, off + (b + k), none⟩ (.int .i64 u[k])) g off (mixed p u q v r (k + 1))) := by unfold Hid; rw [mixed_next hku hkv]; exact HO.out.swap hl1.symm hl2.symm
   have HT2 : Hid (Turn g off N w ((wr.setCell ⟨g, off + (a + k), none⟩ (.int .i64 v[k])).setCell ⟨g, off + (b + k), none⟩ (.int .i64 u[k]))) := (HT.out.setCell (by omega) (by omega) _).setCell (by omega) (by omega) _
   generalize u[k] = x at *
   generalize v[k] = y at *
   obtain ⟨c1, f1⟩ := c1
   obtain ⟨c2, f2⟩ := c2
   have hne : ¬ a + k = b + k := by omega
   have hne' : ¬ b + k = a + k := by omega
   have i1 : (a : Int) + (k : Int) < (N : Int) := by omega
   have i2 : (b : Int) + (k : Int) < (N : Int) := by omega
   clear hl1 hl2
   go_wp2_with fail
   go_region
   all_goals go_wp2
   all_goals go_roundw
   all_goals first
    | exact ⟨k + 1, by omega, by go_num, HS.out, HT2.out.drew⟩
    | (simp [intOf]; omega)
  ·have hkn : k = n := by omega
   subst hkn
   have HF : Hid (Ints wr g off (p ++ v ++ q ++ u ++ r)) := by unfold Hid; rw [← mixed_all hu hv]; exact HIr.out
   go_wp2
   go_end0
   exact ⟨rfl, HF.out, HT.out⟩
theorem swapRange_at (p u q v r : List Int) (n g off N cap : Nat) (fv : Value) (w : World) {A B C : Int} (hA : A = (p.length : Int)) (hB : B = ((p.length + n + q.length : Nat) : Int)) (hC : C = (n : Int)) (hu : u.length = n) (hv : v.length = n) (hN : N = p.length + n + q.length + n + r.length) (hcap : N ≤ 1000000) (hI : Ints w g off (p ++ u ++ q ++ v ++ r)) :
  Calls Tryz.prog 217 #[.slice (some ⟨g, off, none⟩) N cap, .int .i64 A, .int .i64 B, .int .i64 C, fv] w fun e w' => e = .returned (.tuple #[]) ∧ Ints w' g off (p ++ v ++ q ++ u ++ r) ∧ Turn g off N w w' := by
 subst hA hB hC
 exact swapRange_any p u q v r n g off N cap fv w hu hv hN hcap hI
set_option maxRecDepth 100000 in
set_option maxHeartbeats 2000000 in
theorem rotate_any (p u v r : List Int) (g off N cap : Nat) (fv : Value) (w : World) (hu : 0 < u.length) (hv : 0 < v.length) (hN : N = p.length + u.length + v.length + r.length) (hcap : N ≤ 1000000) (hI : Ints w g off (p ++ u ++ v ++ r)) :
  Calls Tryz.prog 209 #[.slice (some ⟨g, off, none⟩) N cap, .int .i64 (p.length : Int), .int .i64 ((p.length + u.length : Nat) : Int), .int .i64 ((p.length + u.length + v.length : Nat) : Int), fv] w fun e w' => e = .returned (.tuple #[]) ∧ Ints w' g off (p ++ v ++ u ++ r) ∧ Turn g off N w w' := by
 obtain ⟨a, ha⟩ : ∃ a, p.length = a := ⟨_, rfl⟩
 obtain ⟨m, hm⟩ : ∃ m, p.length + u.length = m := ⟨_, rfl⟩
 obtain ⟨b, hb⟩ : ∃ b, p.length + u.length + v.length = b := ⟨_, rfl⟩
 rw [hb, hm, ha]
 have HI := hide hI
 have h1 : a < m := by omega
 have h2 : m < b := by omega
 have h3 : b ≤ N := by omega
 have HU : Hid (u.length = m - a) := by unfold Hid; omega
 have HV : Hid (v.length = b - m) := by unfold Hid; omega
 have HP := hide ha
 have HN := hide hN
 clear hI hb hm ha hN
 go_enter Tryz.func209, Tryz.ntmps209
 go_wp2
 go_loopw [10, 11] (fun vi vj wr => ∃ (i j : Nat) (x s t y : List Int), vi = .int .i64 i ∧ vj = .int .i64 j ∧ 0 < i ∧ 0 < j ∧ s.length = i ∧ t.length = j ∧ x.length + i = m ∧ x ++ (t ++ s) ++ y = p ++ v ++ u ++ r ∧ Ints wr g off (x ++ s ++ t ++ y) ∧ Turn g off N w wr) (fun vi vj _ => (intOf vi).toNat + (intOf vj).toNat)
 case atStart => exact ⟨m - a, b - m, p, u, v, r, by go_num, by go_num, by omega, by omega, HU.out, HV.out, by have := HP.out; omega, by simp [List.append_assoc], HI.out, Turn.refl _ _ _ _⟩
 case round =>
  obtain ⟨i, j, x, s, t, y, rfl, rfl, hi, hj, hs, ht, hx, htot, hI, hT⟩ := hrel
  have HIr := hide hI
  have HT := hide hT
  have HX := hide hx
  have HTOT := hide htot
  have HLEN : Hid (x.length + i + j + y.length = N) := by
   have e := congrArg List.length htot
   have := HN.out
   simp at e
   unfold Hid; omega
  have hij : i + j ≤ N := by have := HLEN.out; omega
  have him : i ≤ m := by omega
  have hmj : m + j ≤ N := by have := HLEN.out; omega
  clear hI hT hx htot
  by_cases heq : i = j
  ·subst heq
   go_wp2_with fail
   refine (swapRange_at x s [] t y i g off N cap fv _ (by have := HX.out; omega) (by have := HX.out; simp; omega) rfl hs ht (by have := HLEN.out; simp; omega) hcap (by have h := HIr.out; simpa using h)).mono ?_
   rintro e w1 ⟨rfl, hI1, hT1⟩
   have HF : Hid (Ints w1 g off (p ++ v ++ u ++ r)) := by
    unfold Hid
    rw [← HTOT.out]
    simpa using hI1
   have HT1 := hide (HT.out.trans hT1)
   clear hI1 hT1
   go_wp2
   go_end0
   exact ⟨rfl, HF.out, HT1.out⟩
  ·have hb1 : ((i : Int) != (j : Int)) = true := by simp; omega
   by_cases hgt : j < i
   ·have hd : decide ((j : Int) < (i : Int)) = true := by simp; omega
    obtain ⟨s1, s2, rfl, hs1⟩ : ∃ s1 s2, s = s1 ++ s2 ∧ s1.length = j := ⟨s.take j, s.drop j, by rw [List.take_append_drop], by simp; omega⟩
    have hs2 : s2.length = i - j := by simp at hs; omega
    go_wp2_with fail
    refine (swapRange_at x s1 s2 t y j g off N cap fv _ (by have := HX.out; omega) (by have := HX.out; omega) rfl hs1 ht (by have := HLEN.out; omega) hcap (by have h := HIr.out; simpa [List.append_assoc] using h)).mono ?_
    rintro e w1 ⟨rfl, hI1, hT1⟩
    have HT1 := hide (HT.out.trans hT1)
    have HI1 : Hid (Ints w1 g off ((x ++ t) ++ s2 ++ s1 ++ y)) := hI1
    have HTOT2 : Hid ((x ++ t) ++ (s1 ++ s2) ++ y = p ++ v ++ u ++ r) := by unfold Hid; rw [← HTOT.out]; simp [List.append_assoc]
    clear hI1 hT1
    go_wp2
    go_roundw
    case rel => exact ⟨i - j, j, x ++ t, s2, s1, y, by go_num, rfl, by omega, hj, hs2, hs1, by have := HX.out; simp; omega, HTOT2.out, HI1.out, HT1.out⟩
    case measure => simp [intOf]; omega
   ·have hd : decide ((j : Int) < (i : Int)) = false := by simp; omega
    obtain ⟨t1, t2, rfl, ht1⟩ : ∃ t1 t2, t = t1 ++ t2 ∧ t1.length = j - i := ⟨t.take (j - i), t.drop (j - i), by rw [List.take_append_drop], by simp; omega⟩
    have ht2 : t2.length = i := by simp at ht; omega
    go_wp2_with fail
    refine (swapRange_at x s t1 t2 y i g off N cap fv _ (by have := HX.out; omega) (by have := HX.out; omega) rfl hs ht2 (by have := HLEN.out; omega) hcap (by have h := HIr.out; simpa [List.append_assoc] using h)).mono ?_
    rintro e w1 ⟨rfl, hI1, hT1⟩
    have HT1 := hide (HT.out.trans hT1)
    have HI1 : Hid (Ints w1 g off (x ++ t2 ++ t1 ++ (s ++ y))) := by unfold Hid; simpa [List.append_assoc] using hI1
    have HTOT2 : Hid (x ++ (t1 ++ t2) ++ (s ++ y) = p ++ v ++ u ++ r) := by unfold Hid; rw [← HTOT.out]; simp [List.append_assoc]
    clear hI1 hT1
    go_wp2
    go_roundw
    case rel => exact ⟨i, j - i, x, t2, t1, s ++ y, rfl, by go_num, hi, by omega, ht2, ht1, HX.out, HTOT2.out, HI1.out, HT1.out⟩
    case measure => simp [intOf]; omega
def byClassFn (bm : Nat) : Value := .func (.func 166) #[.map (some bm)] #[]
structure Cmp (lns : List Tm.Ln) (bm g : Nat) (w : World) : Prop where
 base : ∃ w0, NodesRd w0 bm lns ∧ Below w0.heap.size w0 w ∧ w0.heap.size ≤ g
theorem Cmp.turn {lns : List Tm.Ln} {bm g off n : Nat} {w w' : World} (h : Cmp lns bm g w) (t : Turn g off n w w') : Cmp lns bm g w' := by
 obtain ⟨w0, h1, h2, h3⟩ := h.base
 exact ⟨w0, h1, t.below h2 h3, h3⟩
theorem Cmp.rd {lns : List Tm.Ln} {bm g : Nat} {w : World} (h : Cmp lns bm g w) : NodesRd w bm lns := by
 obtain ⟨w0, h1, h2, h3⟩ := h.base
 exact h1.below h2
theorem Cmp.call {lns : List Tm.Ln} {bm g : Nat} {w : World} (h : Cmp lns bm g w) {a b : Int} (ha : 0 ≤ a ∧ a ≤ 1114111) (hb : 0 ≤ b ∧ b ≤ 1114111) (m : Nat) :
  Calls Tryz.prog 166 #[.map (some bm), .int .i64 a, .int .i64 b] (w.drewN m) fun e w' => e = .returned (.int .i64 (cmpInt (Tm.classOf lns a) (Tm.classOf lns b))) ∧ w' = w.drewN m :=
 byClass_any lns bm a b _ (h.rd.below ⟨rfl, rfl, rfl, Nat.le_refl _, fun _ _ => rfl⟩) ha hb
set_option maxRecDepth 100000 in
set_option maxHeartbeats 4000000 in
theorem insertion_any (lns : List Tm.Ln) (bm : Nat) (p s r : List Int) (g off N cap : Nat) (w : World) (hN : N = p.length + s.length + r.length) (hcap : N ≤ 1000000) (hR : ∀ z ∈ s, 0 ≤ z ∧ z ≤ 1114111) (hI : Ints w g off (p ++ s ++ r)) (hC : Cmp lns bm g w) :
  Calls Tryz.prog 195 #[.slice (some ⟨g, off, none⟩) N cap, .int .i64 (p.length : Int), .int .i64 ((p.length + s.length : Nat) : Int), byClassFn bm] w fun e w' => e = .returned (.tuple #[]) ∧ (∃ s', Tm.Sorts (Tm.classOf lns) s s' ∧ Ints w' g off (p ++ s' ++ r)) ∧ Turn g off N w w' := by
 obtain ⟨a, ha⟩ : ∃ a, p.length = a := ⟨_, rfl⟩
 obtain ⟨b, hb⟩ : ∃ b, p.length + s.length = b := ⟨_, rfl⟩
 rw [hb, ha]
 have HI := hide hI
 have HR := hide hR
 have HC := hide hC
 have HA := hide ha
 have HB : Hid (a + s.length = b) := by unfold Hid; omega
 have hbN : b ≤ N := by omega
 have hab : a ≤ b := by omega
 have HN := hide hN
 clear hI hb ha hN hR hC
 unfold byClassFn
 go_enter Tryz.func195, Tryz.ntmps195
 go_wp2
 by_cases hemp : s = []
 ·subst hemp
  have hba : b = a := by have := HB.out; simp at this; omega
  go_loopw [8] (fun vi wr => vi = .int .i64 ((a : Int) + 1) ∧ wr = w) (fun _ _ => 0)
  case atStart => exact ⟨rfl, rfl⟩
  case round =>
   obtain ⟨rfl, rfl⟩ := hrel
   have hd : decide ((a : Int) + 1 < (b : Int)) = false := by simp; omega
   go_wp2
   go_end0
   exact ⟨rfl, ⟨[], Tm.Sorts.of_up List.Pairwise.nil, HI.out⟩, Turn.refl _ _ _ _⟩
 have hpos : 0 < s.length := List.length_pos_iff.2 hemp
 go_loopw [8] (fun vi wr => ∃ (i : Nat) (t s1 s2 : List Int), vi = .int .i64 i ∧ 0 < s1.length ∧ a + s1.length = i ∧ s = t ++ s2 ∧ Tm.Sorts (Tm.classOf lns) t s1 ∧ Ints wr g off (p ++ s1 ++ s2 ++ r) ∧ Turn g off N w wr) (fun vi _ => b - (intOf vi).toNat)
 case atStart =>
  obtain ⟨x, y, rfl⟩ : ∃ x y, s = x :: y := by
   cases s with
   | nil => exact absurd rfl hemp
   | cons x y => exact ⟨x, y, rfl⟩
  exact ⟨a + 1, [x], [x], y, by go_num, by simp, by simp, rfl, Tm.Sorts.of_up (List.pairwise_singleton _ _), by have h := HI.out; simpa using h, Turn.refl _ _ _ _⟩
 case round =>
  obtain ⟨i, t, s1, s2, rfl, hs1, hi, hs, hsort, hI, hT⟩ := hrel
  have HIr := hide hI
  have HT := hide hT
  have HSO := hide hsort
  have HS := hide hs
  have HIL := hide hi
  have htl := hsort.2.length
  have hlen : s.length = s1.length + s2.length := by rw [hs]; simp [htl]
  clear hI hT hsort hs
  by_cases hlt : i < b
  ·have hd : decide ((i : Int) < (b : Int)) = true := by simp; omega
   obtain ⟨x, s3, rfl⟩ : ∃ x y, s2 = x :: y := by
    cases s2 with
    | nil => exfalso; simp at hlen; have := HB.out; omega
    | cons x y => exact ⟨x, y, rfl⟩
   have hx := HR.out x (by rw [HS.out]; simp)
   have HR1 : Hid (∀ z ∈ s1, 0 ≤ z ∧ z ≤ 1114111) := fun z hz => HR.out z (by rw [HS.out]; exact List.mem_append_left _ (HSO.out.2.mem.2 hz))
   go_wp2_with fail
   go_loopw [9] (fun vj wi => ∃ (j : Nat) (q1 q2 : List Int), vj = .int .i64 j ∧ a + q1.length = j ∧ s1 = q1 ++ q2 ∧ (∀ y ∈ q2, Tm.classOf lns x < Tm.classOf lns y) ∧ Ints wi g off (p ++ q1 ++ x :: (q2 ++ s3 ++ r)) ∧ Turn g off N w wi) (fun vj _ => (intOf vj).toNat)
   case atStart => exact ⟨i, s1, [], rfl, HIL.out, by simp, by simp, by have h := HIr.out; simpa using h, HT.out⟩
   case round =>
    obtain ⟨j, q1, q2, rfl, hj, hq, hgt, hI2, hT2⟩ := hrel
    have HI2 := hide hI2
    have HT2 := hide hT2
    have HGT := hide hgt
    have HQ := hide hq
    have hql : s1.length = q1.length + q2.length := by rw [hq]; simp
    clear hI2 hT2 hgt hq
    have HC2 := hide (HC.out.turn HT2.out)
    rcases List.eq_nil_or_concat q1 with hq0 | ⟨q3, y, hq3⟩
    ·subst hq0
     have hja : j = a := by simpa using hj.symm
     subst hja
     have HF : Hid (Tm.Sorts (Tm.classOf lns) (t ++ [x]) ([] ++ x :: q2)) := HSO.out.insert HQ.out (by simp) HGT.out
     have HI3 : Hid (Ints wr g off (p ++ (x :: q2) ++ s3 ++ r)) := by have h := HI2.out; unfold Hid; simpa [List.append_assoc] using h
     have hd2 : decide ((j : Int) < (j : Int)) = false := by simp
     go_wp2_with fail
     go_quiet (fail)
     go_wp2
     go_roundw
     case rel => exact ⟨i + 1, t ++ [x], x :: q2, s3, by go_num, by simp <;> omega, by simp at hql; simp; omega, by rw [HS.out]; simp, HF.out, HI3.out, HT2.out.drewN _⟩
     case measure => simp [intOf]; omega
    ·rw [List.concat_eq_append] at hq3
     subst hq3
     obtain ⟨jj, rfl⟩ : ∃ jj, j = jj + 1 := ⟨a + q3.length, by simp at hj; omega⟩
     have hjj : a + q3.length = jj := by simp at hj; omega
     have hy := HR1.out y (by rw [HQ.out]; simp)
     have HO : Hid (Ints wr g off ((p ++ q3) ++ y :: ([] ++ x :: (q2 ++ s3 ++ r)))) := by have h := HI2.out; unfold Hid; simpa [List.append_assoc] using h
     have hl1 : (p ++ q3).length = jj := by have := HA.out; simp; omega
     have c1 := HO.out jj y (by rw [List.getElem?_append_right (by omega), hl1]; simp)
     have c2 := HO.out (jj + 1) x (by rw [List.getElem?_append_right (by omega), show jj + 1 - (p ++ q3).length = 1 from by omega]; simp)
     obtain ⟨c1, f1⟩ := c1
     obtain ⟨c2, f2⟩ := c2
     have hd2 : decide ((a : Int) < ((jj : Int) + 1)) = true := by simp; omega
     have i1 : (jj : Int) < (N : Int) := by omega
     have i2 : (jj : Int) + 1 < (N : Int) := by omega
     obtain ⟨q, hq⟩ : ∃ q, decide (cmpInt (Tm.classOf lns x) (Tm.classOf lns y) < 0) = q := ⟨_, rfl⟩
     have hq' : decide (Tm.classOf lns x < Tm.classOf lns y) = q := by rw [← hq, cmpInt_neg]
     have HCALL : Hid (∀ m, Calls Tryz.prog 166 #[.map (some bm), .int .i64 x, .int .i64 y] (wr.drewN m) fun e w' => e = .returned (.int .i64 (cmpInt (Tm.classOf lns x) (Tm.classOf lns y))) ∧ w' = wr.drewN m) := fun m => HC2.out.call hx hy m
     generalize cmpInt (Tm.classOf lns x) (Tm.classOf lns y) = cv at *
     cases q
     ·have hle : Tm.classOf lns y ≤ Tm.classOf lns x := by simpa using hq'
      have HF : Hid (Tm.Sorts (Tm.classOf lns) (t ++ [x]) ((q3 ++ [y]) ++ x :: q2)) := HSO.out.insert HQ.out (Tm.Up.last_le (by have h := HSO.out.1; rw [HQ.out] at h; exact (Tm.Up.append.1 h).1) hle) HGT.out
      have HI3 : Hid (Ints wr g off (p ++ ((q3 ++ [y]) ++ x :: q2) ++ s3 ++ r)) := by have h := HI2.out; unfold Hid; simpa [List.append_assoc] using h
      clear hq' hle hl1
      go_wp2_with fail
      go_quiet (first | (go_at_call 166; exact Calls.quiet_of_same (HCALL.out _)))
      go_wp2
      go_roundw
      case rel => exact ⟨i + 1, t ++ [x], (q3 ++ [y]) ++ x :: q2, s3, by go_num, by simp <;> omega, by simp at hql; simp; omega, by rw [HS.out]; simp, HF.out, HI3.out, HT2.out.drewN _⟩
      case measure => simp [intOf]; omega
     ·have hlt2 : Tm.classOf lns x < Tm.classOf lns y := by simpa using hq'
      have HSW : Hid (Ints ((wr.setCell ⟨g, off + (jj + 1), none⟩ (.int .i64 y)).setCell ⟨g, off + jj, none⟩ (.int .i64 x)) g off ((p ++ q3) ++ x :: ([] ++ y :: (q2 ++ s3 ++ r)))) := HO.out.swapR hl1.symm (by rw [hl1]; rfl)
      have HSW2 : Hid (Ints ((wr.setCell ⟨g, off + (jj + 1), none⟩ (.int .i64 y)).setCell ⟨g, off + jj, none⟩ (.int .i64 x)) g off (p ++ q3 ++ x :: ((y :: q2) ++ s3 ++ r))) := by have h := HSW.out; unfold Hid; simpa [List.append_assoc] using h
      have HT3 : Hid (Turn g off N w ((wr.setCell ⟨g, off + (jj + 1), none⟩ (.int .i64 y)).setCell ⟨g, off + jj, none⟩ (.int .i64 x))) := (HT2.out.setCell (by omega) (by omega) _).setCell (by omega) (by omega) _
      have HQ2 : Hid (s1 = q3 ++ (y :: q2)) := by unfold Hid; rw [HQ.out]; simp
      have HGT2 : Hid (∀ z ∈ y :: q2, Tm.classOf lns x < Tm.classOf lns z) := fun z hz => by
       rcases List.mem_cons.1 hz with rfl | hz
       ·exact hlt2
       ·exact HGT.out z hz
      clear hq' hlt2 hl1
      go_wp2_with fail
      go_quiet (first | (go_at_call 166; exact Calls.quiet_of_same (HCALL.out _)))
      go_wp2_with fail
      go_region
      all_goals go_wp2
      all_goals go_roundw
      all_goals first
       | exact ⟨jj, q3, y :: q2, by go_num, hjj, HQ2.out, HGT2.out, HSW2.out, (HT3.out.drewN nq).drew⟩
       | (simp [intOf] <;> omega)
  ·have hib : i = b := by have := HB.out; omega
   have hs2 : s2 = [] := List.eq_nil_of_length_eq_zero (by have := HB.out; omega)
   subst hs2
   have HF : Hid (Tm.Sorts (Tm.classOf lns) s s1) := by unfold Hid; rw [HS.out]; simpa using HSO.out
   have HI3 : Hid (Ints wr g off (p ++ s1 ++ r)) := by have h := HIr.out; unfold Hid; simpa using h
   have hd : decide ((i : Int) < (b : Int)) = false := by simp; omega
   go_wp2
   go_end0
   exact ⟨rfl, ⟨s1, HF.out, HI3.out⟩, HT.out⟩
theorem get_mid {a c : List Int} {x : Int} {i : Nat} (h : i = a.length) : (a ++ x :: c)[i]? = some x := by subst h; simp
theorem get_in {p v r : List Int} {i : Nat} (h1 : p.length ≤ i) (h2 : i - p.length < v.length) : (p ++ v ++ r)[i]? = some v[i - p.length] := by
 rw [List.append_assoc, List.getElem?_append_right h1, List.getElem?_append_left h2, List.getElem?_eq_getElem h2]
set_option maxRecDepth 100000 in
set_option maxHeartbeats 4000000 in
theorem symMerge_left (lns : List Tm.Ln) (bm : Nat) (p v r : List Int) (x : Int) (g off N cap : Nat) (w : World) (hv : 0 < v.length) (hN : N = p.length + 1 + v.length + r.length) (hcap : N ≤ 1000000) (hx : 0 ≤ x ∧ x ≤ 1114111) (hR : ∀ z ∈ v, 0 ≤ z ∧ z ≤ 1114111) (hup : Tm.Up (Tm.classOf lns) v) (hI : Ints w g off (p ++ [x] ++ v ++ r)) (hC : Cmp lns bm g w) :
  Calls Tryz.prog 196 #[.slice (some ⟨g, off, none⟩) N cap, .int .i64 (p.length : Int), .int .i64 ((p.length + 1 : Nat) : Int), .int .i64 ((p.length + 1 + v.length : Nat) : Int), byClassFn bm] w fun e w' => e = .returned (.tuple #[]) ∧ (∃ s', Tm.Sorts (Tm.classOf lns) ([x] ++ v) s' ∧ Ints w' g off (p ++ s' ++ r)) ∧ Turn g off N w w' := by
 obtain ⟨a, ha⟩ : ∃ a, p.length = a := ⟨_, rfl⟩
 obtain ⟨m, hm⟩ : ∃ m, p.length + 1 = m := ⟨_, rfl⟩
 obtain ⟨b, hb⟩ : ∃ b, p.length + 1 + v.length = b := ⟨_, rfl⟩
 rw [hb, hm, ha]
 have HI := hide hI
 have HR := hide hR
 have HC := hide hC
 have HUP := hide hup
 have HA := hide ha
 have hma : m = a + 1 := by omega
 have HB : Hid (m + v.length = b) := by unfold Hid; omega
 have hmb : m < b := by omega
 have hbN : b ≤ N := by omega
 have h1 : (m : Int) - (a : Int) = 1 := by omega
 have HN := hide hN
 have HM := hide hma
 clear hI hb hm ha hN hR hC hup hma
 unfold byClassFn
 go_enter Tryz.func196, Tryz.ntmps196
 go_wp2
 go_loopw [10, 11] (fun vi vj wr => ∃ i j : Nat, vi = .int .i64 i ∧ vj = .int .i64 j ∧ m ≤ i ∧ i ≤ j ∧ j ≤ b ∧ (∀ y ∈ v.take (i - m), Tm.classOf lns y < Tm.classOf lns x) ∧ (∀ y ∈ v.drop (j - m), Tm.classOf lns x ≤ Tm.classOf lns y) ∧ Ints wr g off (p ++ [x] ++ v ++ r) ∧ Turn g off N w wr) (fun vi vj _ => (intOf vj).toNat - (intOf vi).toNat)
 case atStart => exact ⟨m, b, rfl, rfl, Nat.le_refl _, by omega, Nat.le_refl _, by simp, by have := HB.out; rw [List.drop_eq_nil_of_le (by omega)]; simp, HI.out, Turn.refl _ _ _ _⟩
 case round =>
  obtain ⟨i, j, rfl, rfl, hmi, hij, hjb, hlo, hhi, hI, hT⟩ := hrel
  have HIr := hide hI
  have HT := hide hT
  have HCr := hide (HC.out.turn hT)
  have HLO := hide hlo
  have HHI := hide hhi
  clear hlo hhi hI hT
  by_cases hlt : i < j
  ·have hd : decide ((i : Int) < (j : Int)) = true := by simp; omega
   go_wp2_with fail
   obtain ⟨hh, hhe⟩ : ∃ hh : Nat, ((i : Int) + (j : Int)) / 2 = (hh : Int) := ⟨(i + j) / 2, by omega⟩
   rw [hhe]
   have hih : i ≤ hh := by omega
   have hhj : hh < j := by omega
   have hvl : hh - m < v.length := by have := HB.out; omega
   have hpl : (p ++ [x]).length = m := by have := HA.out; have := HM.out; simp; omega
   have cy := HIr.out hh v[hh - m] (by have h := get_in (p := p ++ [x]) (v := v) (r := r) (i := hh) (by omega) (by rw [hpl]; exact hvl); rw [h]; simp only [hpl])
   have cx := HIr.out a x (by have h := get_mid (a := p) (c := v ++ r) (x := x) HA.out.symm; simpa using h)
   have hy := HR.out _ (List.getElem_mem hvl)
   have HLT := hide (fun hq => HUP.out.take_lt (x := x) hvl hq)
   have HGE := hide (fun hq => HUP.out.drop_le (x := x) hvl hq)
   have HCALL : Hid (∀ n, Calls Tryz.prog 166 #[.map (some bm), .int .i64 v[hh - m], .int .i64 x] (wr.drewN n) fun e w' => e = .returned (.int .i64 (cmpInt (Tm.classOf lns v[hh - m]) (Tm.classOf lns x))) ∧ w' = wr.drewN n) := fun n => HCr.out.call hy hx n
   generalize v[hh - m] = y at *
   obtain ⟨cy, fy⟩ := cy
   obtain ⟨cx, fx⟩ := cx
   have i1 : (hh : Int) < (N : Int) := by omega
   have i2 : (a : Int) < (N : Int) := by omega
   obtain ⟨q, hq⟩ : ∃ q, decide (cmpInt (Tm.classOf lns y) (Tm.classOf lns x) < 0) = q := ⟨_, rfl⟩
   have hq' : decide (Tm.classOf lns y < Tm.classOf lns x) = q := by rw [← hq, cmpInt_neg]
   generalize cmpInt (Tm.classOf lns y) (Tm.classOf lns x) = cv at *
   clear hhe hpl
   cases q
   ·have hle : Tm.classOf lns x ≤ Tm.classOf lns y := by simpa using hq'
    have HH2 := hide (HGE.out hle)
    clear hq' hle
    go_quiet (first | (go_at_call 166; exact Calls.quiet_of_same (HCALL.out _)))
    go_wp2
    go_roundw
    case rel => exact ⟨i, hh, rfl, rfl, hmi, hih, by omega, HLO.out, HH2.out, HIr.out, HT.out.drewN _⟩
    case measure => simp [intOf]; omega
   ·have hle : Tm.classOf lns y < Tm.classOf lns x := by simpa using hq'
    have HL2 : Hid (∀ z ∈ v.take (hh + 1 - m), Tm.classOf lns z < Tm.classOf lns x) := by
     have h := HLT.out hle
     rw [show hh + 1 - m = hh - m + 1 from by omega]; exact h
    clear hq' hle
    go_quiet (first | (go_at_call 166; exact Calls.quiet_of_same (HCALL.out _)))
    go_wp2
    go_roundw
    case rel => exact ⟨hh + 1, j, by go_num, rfl, by omega, by omega, hjb, HL2.out, HHI.out, HIr.out, HT.out.drewN _⟩
    case measure => simp [intOf]; omega
  ·have hije : i = j := by omega
   subst hije
   have hd : decide ((i : Int) < (i : Int)) = false := by simp
   obtain ⟨v1, v2, hv12, hl1⟩ : ∃ v1 v2, v = v1 ++ v2 ∧ v1.length = i - m := ⟨v.take (i - m), v.drop (i - m), by rw [List.take_append_drop], by have := HB.out; simp; omega⟩
   have e1 : v.take (i - m) = v1 := by rw [hv12, ← hl1]; simp
   have e2 : v.drop (i - m) = v2 := by rw [hv12, ← hl1]; simp
   rw [e1] at HLO
   rw [e2] at HHI
   have HF : Hid (Tm.Sorts (Tm.classOf lns) ([x] ++ v) (v1 ++ (x :: v2))) := by
    have hupv := HUP.out
    rw [hv12] at hupv
    have hu := Tm.Up.append.1 hupv
    have h := Tm.Sorts.merge (k := Tm.classOf lns) (u1 := []) (u2 := [x]) (v1 := v1) (v2 := v2) (l := v1) (r := x :: v2) (Tm.Sorts.of_up hu.1) (Tm.Sorts.of_up (List.pairwise_cons.2 ⟨HHI.out, hu.2.1⟩)) (List.pairwise_singleton _ _) hupv (fun y hy z hz => by simp at hz; subst hz; exact HLO.out y hy) (by simp)
    unfold Hid; rw [hv12]; simpa using h
   have HI1 : Hid (Ints wr g off (p ++ [x] ++ v1 ++ v2 ++ r)) := by have h := HIr.out; rw [hv12] at h; unfold Hid; simpa [List.append_assoc] using h
   have hiN : i ≤ N := by omega
   have HL1 := hide hl1
   clear hl1 e1 e2 hv12
   go_wp2_with fail
   go_loopw [13] (fun vk wi => ∃ (c : Nat) (q1 q2 : List Int), vk = .int .i64 c ∧ v1 = q1 ++ q2 ∧ a + q1.length = c ∧ Ints wi g off (p ++ q1 ++ x :: (q2 ++ v2 ++ r)) ∧ Turn g off N w wi) (fun vk _ => i - (intOf vk).toNat)
   case atStart => exact ⟨a, [], v1, rfl, rfl, by simp, by have h := HI1.out; simpa using h, HT.out⟩
   case round =>
    obtain ⟨c, q1, q2, rfl, hq, hc, hI2, hT2⟩ := hrel
    have HI2 := hide hI2
    have HT2 := hide hT2
    have HQ := hide hq
    have hql : v1.length = q1.length + q2.length := by rw [hq]; simp
    clear hI2 hT2 hq
    cases q2 with
    | nil =>
     have hdk : decide ((c : Int) < (i : Int) - 1) = false := by have := HL1.out; have := HM.out; simp at hql; simp; omega
     have HI3 : Hid (Ints wr g off (p ++ (v1 ++ (x :: v2)) ++ r)) := by have h := HI2.out; unfold Hid; rw [HQ.out]; simpa [List.append_assoc] using h
     go_wp2
     refine bodyPost_ret (results_none rfl _ _ _) rfl ?_
     exact ⟨rfl, ⟨_, HF.out, HI3.out⟩, HT2.out⟩
    | cons y q3 =>
     have hdk : decide ((c : Int) < (i : Int) - 1) = true := by have := HL1.out; have := HM.out; simp at hql; simp; omega
     have HO : Hid (Ints wr g off ((p ++ q1) ++ x :: ([] ++ y :: (q3 ++ v2 ++ r)))) := by have h := HI2.out; unfold Hid; simpa [List.append_assoc] using h
     have hl1 : (p ++ q1).length = c := by have := HA.out; simp; omega
     have c1 := HO.out c x (by rw [List.getElem?_append_right (by omega), hl1]; simp)
     have c2 := HO.out (c + 1) y (by rw [List.getElem?_append_right (by omega), show c + 1 - (p ++ q1).length = 1 from by omega]; simp)
     obtain ⟨c1, f1⟩ := c1
     obtain ⟨c2, f2⟩ := c2
     have hci : c + 1 < i := by simp at hdk; omega
     have i1 : (c : Int) < (N : Int) := by omega
     have i2 : (c : Int) + 1 < (N : Int) := by omega
     have HSW : Hid (Ints ((wr.setCell ⟨g, off + c, none⟩ (.int .i64 y)).setCell ⟨g, off + (c + 1), none⟩ (.int .i64 x)) g off ((p ++ q1) ++ y :: ([] ++ x :: (q3 ++ v2 ++ r)))) := HO.out.swap hl1.symm (by rw [hl1]; rfl)
     have HSW2 : Hid (Ints ((wr.setCell ⟨g, off + c, none⟩ (.int .i64 y)).setCell ⟨g, off + (c + 1), none⟩ (.int .i64 x)) g off (p ++ (q1 ++ [y]) ++ x :: (q3 ++ v2 ++ r))) := by have h := HSW.out; unfold Hid; simpa [List.append_assoc] using h
     have HT3 : Hid (Turn g off N w ((wr.setCell ⟨g, off + c, none⟩ (.int .i64 y)).setCell ⟨g, off + (c + 1), none⟩ (.int .i64 x))) := (HT2.out.setCell (by omega) (by omega) _).setCell (by omega) (by omega) _
     have HQ2 : Hid (v1 = (q1 ++ [y]) ++ q3) := by unfold Hid; rw [HQ.out]; simp
     clear hl1
     go_wp2_with fail
     go_region
     all_goals go_wp2
     all_goals go_roundw
     all_goals first
      | exact ⟨c + 1, q1 ++ [y], q3, by go_num, HQ2.out, by simp; omega, HSW2.out, HT3.out.drew⟩
      | (simp [intOf] <;> omega)
set_option maxRecDepth 100000 in
set_option maxHeartbeats 4000000 in
theorem symMerge_right (lns : List Tm.Ln) (bm : Nat) (p u r : List Int) (x : Int) (g off N cap : Nat) (w : World) (hu2 : 2 ≤ u.length) (hN : N = p.length + u.length + 1 + r.length) (hcap : N ≤ 1000000) (hx : 0 ≤ x ∧ x ≤ 1114111) (hR : ∀ z ∈ u, 0 ≤ z ∧ z ≤ 1114111) (hup : Tm.Up (Tm.classOf lns) u) (hI : Ints w g off (p ++ u ++ x :: r)) (hC : Cmp lns bm g w) :
  Calls Tryz.prog 196 #[.slice (some ⟨g, off, none⟩) N cap, .int .i64 (p.length : Int), .int .i64 ((p.length + u.length : Nat) : Int), .int .i64 ((p.length + u.length + 1 : Nat) : Int), byClassFn bm] w fun e w' => e = .returned (.tuple #[]) ∧ (∃ s', Tm.Sorts (Tm.classOf lns) (u ++ [x]) s' ∧ Ints w' g off (p ++ s' ++ r)) ∧ Turn g off N w w' := by
 obtain ⟨a, ha⟩ : ∃ a, p.length = a := ⟨_, rfl⟩
 obtain ⟨m, hm⟩ : ∃ m, p.length + u.length = m := ⟨_, rfl⟩
 obtain ⟨b, hb⟩ : ∃ b, p.length + u.length + 1 = b := ⟨_, rfl⟩
 rw [hb, hm, ha]
 have HI := hide hI
 have HR := hide hR
 have HC := hide hC
 have HUP := hide hup
 have HA := hide ha
 have HM : Hid (a + u.length = m) := by unfold Hid; omega
 have ham : a + 2 ≤ m := by omega
 have hmN : m < N := by omega
 have h0 : ((((m : Int) - (a : Int)) == 1) : Bool) = false := by rw [beq_eq_false_iff_ne]; omega
 have h1 : (b : Int) - (m : Int) = 1 := by omega
 have HN := hide hN
 clear hI hb hm ha hN hR hC hup
 unfold byClassFn
 go_enter Tryz.func196, Tryz.ntmps196
 go_wp2
 go_loopw [14, 15] (fun vi vj wr => ∃ i j : Nat, vi = .int .i64 i ∧ vj = .int .i64 j ∧ a ≤ i ∧ i ≤ j ∧ j ≤ m ∧ (∀ y ∈ u.take (i - a), Tm.classOf lns y ≤ Tm.classOf lns x) ∧ (∀ y ∈ u.drop (j - a), Tm.classOf lns x < Tm.classOf lns y) ∧ Ints wr g off (p ++ u ++ x :: r) ∧ Turn g off N w wr) (fun vi vj _ => (intOf vj).toNat - (intOf vi).toNat)
 case atStart => exact ⟨a, m, rfl, rfl, Nat.le_refl _, by omega, Nat.le_refl _, by simp, by have := HM.out; rw [List.drop_eq_nil_of_le (by omega)]; simp, HI.out, Turn.refl _ _ _ _⟩
 case round =>
  obtain ⟨i, j, rfl, rfl, hmi, hij, hjb, hlo, hhi, hI, hT⟩ := hrel
  have HIr := hide hI
  have HT := hide hT
  have HCr := hide (HC.out.turn hT)
  have HLO := hide hlo
  have HHI := hide hhi
  clear hlo hhi hI hT
  by_cases hlt : i < j
  ·have hd : decide ((i : Int) < (j : Int)) = true := by simp; omega
   go_wp2_with fail
   obtain ⟨hh, hhe⟩ : ∃ hh : Nat, ((i : Int) + (j : Int)) / 2 = (hh : Int) := ⟨(i + j) / 2, by omega⟩
   rw [hhe]
   have hih : i ≤ hh := by omega
   have hhj : hh < j := by omega
   have hvl : hh - a < u.length := by have := HM.out; omega
   have cy := HIr.out hh u[hh - a] (by have h := get_in (p := p) (v := u) (r := x :: r) (i := hh) (by have := HA.out; omega) (by rw [HA.out]; exact hvl); rw [h]; simp only [HA.out])
   have cx := HIr.out m x (get_mid (a := p ++ u) (c := r) (x := x) (by have := HA.out; have := HM.out; simp; omega))
   have hy := HR.out _ (List.getElem_mem hvl)
   have HLT := hide (fun hq => HUP.out.drop_lt (x := x) hvl hq)
   have HGE := hide (fun hq => HUP.out.take_le (x := x) hvl hq)
   have HCALL : Hid (∀ n, Calls Tryz.prog 166 #[.map (some bm), .int .i64 x, .int .i64 u[hh - a]] (wr.drewN n) fun e w' => e = .returned (.int .i64 (cmpInt (Tm.classOf lns x) (Tm.classOf lns u[hh - a]))) ∧ w' = wr.drewN n) := fun n => HCr.out.call hx hy n
   generalize u[hh - a] = y at *
   obtain ⟨cy, fy⟩ := cy
   obtain ⟨cx, fx⟩ := cx
   have i1 : (hh : Int) < (N : Int) := by omega
   have i2 : (m : Int) < (N : Int) := by omega
   obtain ⟨q, hq⟩ : ∃ q, decide (cmpInt (Tm.classOf lns x) (Tm.classOf lns y) < 0) = q := ⟨_, rfl⟩
   have hq' : decide (Tm.classOf lns x < Tm.classOf lns y) = q := by rw [← hq, cmpInt_neg]
   generalize cmpInt (Tm.classOf lns x) (Tm.classOf lns y) = cv at *
   clear hhe
   cases q
   ·have hle : Tm.classOf lns y ≤ Tm.classOf lns x := by simpa using hq'
    have HL2 : Hid (∀ z ∈ u.take (hh + 1 - a), Tm.classOf lns z ≤ Tm.classOf lns x) := by
     have h := HGE.out hle
     rw [show hh + 1 - a = hh - a + 1 from by omega]; exact h
    clear hq' hle
    go_quiet (first | (go_at_call 166; exact Calls.quiet_of_same (HCALL.out _)))
    go_wp2
    go_roundw
    case rel => exact ⟨hh + 1, j, by go_num, rfl, by omega, by omega, hjb, HL2.out, HHI.out, HIr.out, HT.out.drewN _⟩
    case measure => simp [intOf]; omega
   ·have hle : Tm.classOf lns x < Tm.classOf lns y := by simpa using hq'
    have HH2 := hide (HLT.out hle)
    clear hq' hle
    go_quiet (first | (go_at_call 166; exact Calls.quiet_of_same (HCALL.out _)))
    go_wp2
    go_roundw
    case rel => exact ⟨i, hh, rfl, rfl, hmi, hih, by omega, HLO.out, HH2.out, HIr.out, HT.out.drewN _⟩
    case measure => simp [intOf]; omega
  ·have hije : i = j := by omega
   subst hije
   have hd : decide ((i : Int) < (i : Int)) = false := by simp
   obtain ⟨u1, u2, hu12, hl1⟩ : ∃ u1 u2, u = u1 ++ u2 ∧ u1.length = i - a := ⟨u.take (i - a), u.drop (i - a), by rw [List.take_append_drop], by have := HM.out; simp; omega⟩
   have e1 : u.take (i - a) = u1 := by rw [hu12, ← hl1]; simp
   have e2 : u.drop (i - a) = u2 := by rw [hu12, ← hl1]; simp
   rw [e1] at HLO
   rw [e2] at HHI
   have HF : Hid (Tm.Sorts (Tm.classOf lns) (u ++ [x]) (u1 ++ (x :: u2))) := (Tm.Sorts.of_up HUP.out).insert hu12 HLO.out HHI.out
   have HI1 : Hid (Ints wr g off (p ++ u1 ++ u2 ++ x :: r)) := by have h := HIr.out; rw [hu12] at h; unfold Hid; simpa [List.append_assoc] using h
   have HL1 := hide hl1
   have HU2 : Hid (i + u2.length = m) := by have := HM.out; rw [hu12] at this; simp at this; unfold Hid; omega
   clear hl1 e1 e2 hu12
   go_wp2_with fail
   go_loopw [17] (fun vk wi => ∃ (c : Nat) (q1 q2 : List Int), vk = .int .i64 c ∧ u2 = q1 ++ q2 ∧ i + q1.length = c ∧ Ints wi g off (p ++ u1 ++ q1 ++ x :: (q2 ++ r)) ∧ Turn g off N w wi) (fun vk _ => (intOf vk).toNat)
   case atStart => exact ⟨m, u2, [], rfl, by simp, HU2.out, by have h := HI1.out; simpa using h, HT.out⟩
   case round =>
    obtain ⟨c, q1, q2, rfl, hq, hc, hI2, hT2⟩ := hrel
    have HI2 := hide hI2
    have HT2 := hide hT2
    have HQ := hide hq
    have hql : u2.length = q1.length + q2.length := by rw [hq]; simp
    clear hI2 hT2 hq
    rcases List.eq_nil_or_concat q1 with hq0 | ⟨q3, y, hq3⟩
    ·subst hq0
     have hci : c = i := by simpa using hc.symm
     subst hci
     have hdk : decide ((c : Int) < (c : Int)) = false := by simp
     have HI3 : Hid (Ints wr g off (p ++ (u1 ++ (x :: u2)) ++ r)) := by have h := HI2.out; unfold Hid; rw [HQ.out]; simpa [List.append_assoc] using h
     go_wp2
     refine bodyPost_ret (results_none rfl _ _ _) rfl ?_
     exact ⟨rfl, ⟨_, HF.out, HI3.out⟩, HT2.out⟩
    ·rw [List.concat_eq_append] at hq3
     subst hq3
     obtain ⟨cc, rfl⟩ : ∃ cc, c = cc + 1 := ⟨i + q3.length, by simp at hc; omega⟩
     have hcc : i + q3.length = cc := by simp at hc; omega
     have hdk : decide ((i : Int) < (cc : Int) + 1) = true := by simp; omega
     have HO : Hid (Ints wr g off ((p ++ u1 ++ q3) ++ y :: ([] ++ x :: (q2 ++ r)))) := by have h := HI2.out; unfold Hid; simpa [List.append_assoc] using h
     have hl1 : (p ++ u1 ++ q3).length = cc := by have := HA.out; have := HL1.out; simp; omega
     have c1 := HO.out cc y (by rw [List.getElem?_append_right (by omega), hl1]; simp)
     have c2 := HO.out (cc + 1) x (by rw [List.getElem?_append_right (by omega), show cc + 1 - (p ++ u1 ++ q3).length = 1 from by omega]; simp)
     obtain ⟨c1, f1⟩ := c1
     obtain ⟨c2, f2⟩ := c2
     have hcm : cc + 1 ≤ m := by have := HU2.out; simp at hql; omega
     have i1 : (cc : Int) < (N : Int) := by omega
     have i2 : (cc : Int) + 1 < (N : Int) := by omega
     have HSW : Hid (Ints ((wr.setCell ⟨g, off + (cc + 1), none⟩ (.int .i64 y)).setCell ⟨g, off + cc, none⟩ (.int .i64 x)) g off ((p ++ u1 ++ q3) ++ x :: ([] ++ y :: (q2 ++ r)))) := HO.out.swapR hl1.symm (by rw [hl1]; rfl)
     have HSW2 : Hid (Ints ((wr.setCell ⟨g, off + (cc + 1), none⟩ (.int .i64 y)).setCell ⟨g, off + cc, none⟩ (.int .i64 x)) g off (p ++ u1 ++ q3 ++ x :: ((y :: q2) ++ r))) := by have h := HSW.out; unfold Hid; simpa [List.append_assoc] using h
     have HT3 : Hid (Turn g off N w ((wr.setCell ⟨g, off + (cc + 1), none⟩ (.int .i64 y)).setCell ⟨g, off + cc, none⟩ (.int .i64 x))) := (HT2.out.setCell (by omega) (by omega) _).setCell (by omega) (by omega) _
     have HQ2 : Hid (u2 = q3 ++ (y :: q2)) := by unfold Hid; rw [HQ.out]; simp
     clear hl1
     go_wp2_with fail
     go_region
     all_goals go_wp2
     all_goals go_roundw
     all_goals first
      | exact ⟨cc, q3, y :: q2, by go_num, HQ2.out, hcc, HSW2.out, HT3.out.drew⟩
      | (simp [intOf] <;> omega)
end Go.Proofs.YtmnjjjhmnhfapaaGreatDoor
