import Derived.Test.YtmnjjjhmnhfapaaDoorMSortMem
namespace Go.Proofs.YtmnjjjhmnhfapaaDoor
open Go.RowKit

/-- Two parts of which i members have changed places. -/
def mixed (p u q v r : List Int) (i : Nat) : List Int := (p ++ v.take i) ++ (u.drop i ++ q ++ u.take i ++ (v.drop i ++ r))
theorem mixed_zero (p u q v r : List Int) : mixed p u q v r 0 = p ++ u ++ q ++ v ++ r := by simp [mixed]
theorem mixed_all {p u q v r : List Int} {n : Nat} (hu : u.length = n) (hv : v.length = n) : mixed p u q v r n = p ++ v ++ q ++ u ++ r := by
  simp [mixed, List.drop_eq_nil_of_le, List.take_of_length_le, hu, hv]
theorem mixed_open {p u q v r : List Int} {i : Nat} (hu : i < u.length) (hv : i < v.length) : mixed p u q v r i = (p ++ v.take i) ++ u[i] :: ((u.drop (i + 1) ++ q ++ u.take i) ++ v[i] :: (v.drop (i + 1) ++ r)) := by
  rw [mixed, List.drop_eq_getElem_cons hu, List.drop_eq_getElem_cons hv]; simp only [List.append_assoc, List.cons_append]
theorem mixed_next {p u q v r : List Int} {i : Nat} (hu : i < u.length) (hv : i < v.length) : mixed p u q v r (i + 1) = (p ++ v.take i) ++ v[i] :: ((u.drop (i + 1) ++ q ++ u.take i) ++ u[i] :: (v.drop (i + 1) ++ r)) := by
  rw [mixed, List.take_succ_eq_append_getElem hu, List.take_succ_eq_append_getElem hv]; simp only [List.append_assoc, List.cons_append, List.nil_append]
theorem mixed_length {p u q v r : List Int} {i n : Nat} (hu : u.length = n) (hv : v.length = n) : (mixed p u q v r i).length = p.length + n + q.length + n + r.length := by
  simp [mixed, hu, hv]; omega

set_option maxRecDepth 100000 in
set_option maxHeartbeats 2000000 in
theorem swapRange_any (p u q v r : List Int) (n g off N cap : Nat) (fv : Value) (w : World) (hu : u.length = n) (hv : v.length = n) (hN : N = p.length + n + q.length + n + r.length) (hcap : N ≤ 1000000) (hI : Ints w g off (p ++ u ++ q ++ v ++ r)) :
    Calls Tryd.prog 123 #[.slice (some ⟨g, off, none⟩) N cap, .int .i64 (p.length : Int), .int .i64 ((p.length + n + q.length : Nat) : Int), .int .i64 (n : Int), fv] w fun e w' => e = .returned (.tuple #[]) ∧ Ints w' g off (p ++ v ++ q ++ u ++ r) ∧ Turn g off N w w' := by
  obtain ⟨a, ha⟩ : ∃ a, p.length = a := ⟨_, rfl⟩
  obtain ⟨b, hb⟩ : ∃ b, p.length + n + q.length = b := ⟨_, rfl⟩
  rw [hb, ha]
  have HI := hide hI
  have HA := hide ha
  have HB := hide hb
  have hb1 : a + n ≤ b := by omega
  have hb2 : b + n ≤ N := by omega
  clear hI hb ha
  go_enter Tryd.func123, Tryd.ntmps123
  go_wp2
  go_loopw [10] (fun i wr => ∃ k : Nat, k ≤ n ∧ i = .int .i64 k ∧ Ints wr g off (mixed p u q v r k) ∧ Turn g off N w wr) (fun i _ => n - (intOf i).toNat)
  case atStart => exact ⟨0, Nat.zero_le _, rfl, by rw [mixed_zero]; exact HI.out, Turn.refl _ _ _ _⟩
  case round =>
    obtain ⟨k, hk, rfl, hI, hT⟩ := hrel
    have HIr := hide hI
    have HT := hide hT
    clear hI hT
    by_cases hlt : k < n
    · have hku : k < u.length := by omega
      have hkv : k < v.length := by omega
      have HO : Hid (Ints wr g off ((p ++ v.take k) ++ u[k] :: ((u.drop (k + 1) ++ q ++ u.take k) ++ v[k] :: (v.drop (k + 1) ++ r)))) := by unfold Hid; rw [← mixed_open hku hkv]; exact HIr.out
      have hl1 : (p ++ v.take k).length = a + k := by simp; have := HA.out; omega
      have hl2 : (p ++ v.take k).length + 1 + (u.drop (k + 1) ++ q ++ u.take k).length = b + k := by simp; have := HA.out; have := HB.out; omega
      have c1 := (HO.out (a + k) u[k] (by rw [List.getElem?_append_right (by omega), hl1]; simp))
      have c2 := (HO.out (b + k) v[k] (by rw [List.getElem?_append_right (by omega), show b + k - (p ++ v.take k).length = (u.drop (k + 1) ++ q ++ u.take k).length + 1 from by omega]; simp))
      have HS : Hid (Ints ((wr.setCell ⟨g, off + (a + k), none⟩ (.int .i64 v[k])).setCell ⟨g, off + (b + k), none⟩ (.int .i64 u[k])) g off (mixed p u q v r (k + 1))) := by unfold Hid; rw [mixed_next hku hkv]; exact HO.out.swap hl1.symm hl2.symm
      have HT2 : Hid (Turn g off N w ((wr.setCell ⟨g, off + (a + k), none⟩ (.int .i64 v[k])).setCell ⟨g, off + (b + k), none⟩ (.int .i64 u[k]))) := (HT.out.setCell (by omega) (by omega) _).setCell (by omega) (by omega) _
      generalize u[k] = x at *
      generalize v[k] = y at *
      obtain ⟨c1, f1⟩ := c1
      obtain ⟨c2, f2⟩ := c2
      have hne : ¬ a + k = b + k := by omega
      have hne' : ¬ b + k = a + k := by omega
      have i1 : (a : Int) + (k : Int) < (N : Int) := by omega
      have i2 : (b : Int) + (k : Int) < (N : Int) := by omega
      clear hl1 hl2
      go_wp2_with fail
      go_region
      all_goals go_wp2
      all_goals go_roundw
      all_goals first
        | exact ⟨k + 1, by omega, by go_num, HS.out, HT2.out.drew⟩
        | (simp [intOf]; omega)
    · have hkn : k = n := by omega
      subst hkn
      have HF : Hid (Ints wr g off (p ++ v ++ q ++ u ++ r)) := by unfold Hid; rw [← mixed_all hu hv]; exact HIr.out
      go_wp2
      go_end0
      exact ⟨rfl, HF.out, HT.out⟩
theorem swapRange_at (p u q v r : List Int) (n g off N cap : Nat) (fv : Value) (w : World) {A B C : Int} (hA : A = (p.length : Int)) (hB : B = ((p.length + n + q.length : Nat) : Int)) (hC : C = (n : Int)) (hu : u.length = n) (hv : v.length = n) (hN : N = p.length + n + q.length + n + r.length) (hcap : N ≤ 1000000) (hI : Ints w g off (p ++ u ++ q ++ v ++ r)) :
    Calls Tryd.prog 123 #[.slice (some ⟨g, off, none⟩) N cap, .int .i64 A, .int .i64 B, .int .i64 C, fv] w fun e w' => e = .returned (.tuple #[]) ∧ Ints w' g off (p ++ v ++ q ++ u ++ r) ∧ Turn g off N w w' := by
  subst hA hB hC
  exact swapRange_any p u q v r n g off N cap fv w hu hv hN hcap hI
end Go.Proofs.YtmnjjjhmnhfapaaDoor
namespace Go.Proofs.YtmnjjjhmnhfapaaDoor
open Go.RowKit

/-- A part of a list, by its bounds. -/
theorem part_of {l : List Int} {i j : Nat} (hij : i ≤ j) (hj : j ≤ l.length) : ∃ p u r, l = p ++ u ++ r ∧ p.length = i ∧ u.length = j - i :=
  ⟨l.take i, (l.drop i).take (j - i), (l.drop i).drop (j - i), by rw [List.append_assoc, List.take_append_drop, List.take_append_drop], by simp; omega, by simp; omega⟩

set_option maxRecDepth 100000 in
set_option maxHeartbeats 2000000 in
theorem rotate_any (p u v r : List Int) (g off N cap : Nat) (fv : Value) (w : World) (hu : 0 < u.length) (hv : 0 < v.length) (hN : N = p.length + u.length + v.length + r.length) (hcap : N ≤ 1000000) (hI : Ints w g off (p ++ u ++ v ++ r)) :
    Calls Tryd.prog 111 #[.slice (some ⟨g, off, none⟩) N cap, .int .i64 (p.length : Int), .int .i64 ((p.length + u.length : Nat) : Int), .int .i64 ((p.length + u.length + v.length : Nat) : Int), fv] w fun e w' => e = .returned (.tuple #[]) ∧ Ints w' g off (p ++ v ++ u ++ r) ∧ Turn g off N w w' := by
  obtain ⟨a, ha⟩ : ∃ a, p.length = a := ⟨_, rfl⟩
  obtain ⟨m, hm⟩ : ∃ m, p.length + u.length = m := ⟨_, rfl⟩
  obtain ⟨b, hb⟩ : ∃ b, p.length + u.length + v.length = b := ⟨_, rfl⟩
  rw [hb, hm, ha]
  have HI := hide hI
  have h1 : a < m := by omega
  have h2 : m < b := by omega
  have h3 : b ≤ N := by omega
  have HU : Hid (u.length = m - a) := by unfold Hid; omega
  have HV : Hid (v.length = b - m) := by unfold Hid; omega
  have HP := hide ha
  have HN := hide hN
  clear hI hb hm ha hN
  go_enter Tryd.func111, Tryd.ntmps111
  go_wp2
  go_loopw [10, 11] (fun vi vj wr => ∃ (i j : Nat) (x s t y : List Int), vi = .int .i64 i ∧ vj = .int .i64 j ∧ 0 < i ∧ 0 < j ∧ s.length = i ∧ t.length = j ∧ x.length + i = m ∧ x ++ (t ++ s) ++ y = p ++ v ++ u ++ r ∧ Ints wr g off (x ++ s ++ t ++ y) ∧ Turn g off N w wr) (fun vi vj _ => (intOf vi).toNat + (intOf vj).toNat)
  case atStart => exact ⟨m - a, b - m, p, u, v, r, by go_num, by go_num, by omega, by omega, HU.out, HV.out, by have := HP.out; omega, by simp [List.append_assoc], HI.out, Turn.refl _ _ _ _⟩
  case round =>
    obtain ⟨i, j, x, s, t, y, rfl, rfl, hi, hj, hs, ht, hx, htot, hI, hT⟩ := hrel
    have HIr := hide hI
    have HT := hide hT
    have HX := hide hx
    have HTOT := hide htot
    have HLEN : Hid (x.length + i + j + y.length = N) := by
      have e := congrArg List.length htot
      have := HN.out
      simp at e
      unfold Hid; omega
    have hij : i + j ≤ N := by have := HLEN.out; omega
    have him : i ≤ m := by omega
    have hmj : m + j ≤ N := by have := HLEN.out; omega
    clear hI hT hx htot
    by_cases heq : i = j
    · subst heq
      go_wp2_with fail
      refine (swapRange_at x s [] t y i g off N cap fv _ (by have := HX.out; omega) (by have := HX.out; simp; omega) rfl hs ht (by have := HLEN.out; simp; omega) hcap (by have h := HIr.out; simpa using h)).mono ?_
      rintro e w1 ⟨rfl, hI1, hT1⟩
      have HF : Hid (Ints w1 g off (p ++ v ++ u ++ r)) := by
        unfold Hid
        rw [← HTOT.out]
        simpa using hI1
      have HT1 := hide (HT.out.trans hT1)
      clear hI1 hT1
      go_wp2
      go_end0
      exact ⟨rfl, HF.out, HT1.out⟩
    · have hb1 : ((i : Int) != (j : Int)) = true := by simp; omega
      by_cases hgt : j < i
      · have hd : decide ((j : Int) < (i : Int)) = true := by simp; omega
        obtain ⟨s1, s2, rfl, hs1⟩ : ∃ s1 s2, s = s1 ++ s2 ∧ s1.length = j := ⟨s.take j, s.drop j, by rw [List.take_append_drop], by simp; omega⟩
        have hs2 : s2.length = i - j := by simp at hs; omega
        go_wp2_with fail
        refine (swapRange_at x s1 s2 t y j g off N cap fv _ (by have := HX.out; omega) (by have := HX.out; omega) rfl hs1 ht (by have := HLEN.out; omega) hcap (by have h := HIr.out; simpa [List.append_assoc] using h)).mono ?_
        rintro e w1 ⟨rfl, hI1, hT1⟩
        have HT1 := hide (HT.out.trans hT1)
        have HI1 : Hid (Ints w1 g off ((x ++ t) ++ s2 ++ s1 ++ y)) := hI1
        have HTOT2 : Hid ((x ++ t) ++ (s1 ++ s2) ++ y = p ++ v ++ u ++ r) := by unfold Hid; rw [← HTOT.out]; simp [List.append_assoc]
        clear hI1 hT1
        go_wp2
        go_roundw
        case rel => exact ⟨i - j, j, x ++ t, s2, s1, y, by go_num, rfl, by omega, hj, hs2, hs1, by have := HX.out; simp; omega, HTOT2.out, HI1.out, HT1.out⟩
        case measure => simp [intOf]; omega
      · have hd : decide ((j : Int) < (i : Int)) = false := by simp; omega
        obtain ⟨t1, t2, rfl, ht1⟩ : ∃ t1 t2, t = t1 ++ t2 ∧ t1.length = j - i := ⟨t.take (j - i), t.drop (j - i), by rw [List.take_append_drop], by simp; omega⟩
        have ht2 : t2.length = i := by simp at ht; omega
        go_wp2_with fail
        refine (swapRange_at x s t1 t2 y i g off N cap fv _ (by have := HX.out; omega) (by have := HX.out; omega) rfl hs ht2 (by have := HLEN.out; omega) hcap (by have h := HIr.out; simpa [List.append_assoc] using h)).mono ?_
        rintro e w1 ⟨rfl, hI1, hT1⟩
        have HT1 := hide (HT.out.trans hT1)
        have HI1 : Hid (Ints w1 g off (x ++ t2 ++ t1 ++ (s ++ y))) := by unfold Hid; simpa [List.append_assoc] using hI1
        have HTOT2 : Hid (x ++ (t1 ++ t2) ++ (s ++ y) = p ++ v ++ u ++ r) := by unfold Hid; rw [← HTOT.out]; simp [List.append_assoc]
        clear hI1 hT1
        go_wp2
        go_roundw
        case rel => exact ⟨i, j - i, x, t2, t1, s ++ y, rfl, by go_num, hi, by omega, ht2, ht1, HX.out, HTOT2.out, HI1.out, HT1.out⟩
        case measure => simp [intOf]; omega
end Go.Proofs.YtmnjjjhmnhfapaaDoor
namespace Go.Proofs.YtmnjjjhmnhfapaaDoor
open Go.RowKit

/-- The comparison that a sort of runes is handed. -/
def byClassFn (bm : Nat) : Value := .func (.func 84) #[.map (some bm)] #[]
/-- What a sort must know: the nodes are read, whatever is done to block g. -/
structure Cmp (lns : List Tm.Ln) (bm g : Nat) (w : World) : Prop where
  base : ∃ w0, NodesRd w0 bm lns ∧ Below w0.heap.size w0 w ∧ w0.heap.size ≤ g
theorem Cmp.turn {lns : List Tm.Ln} {bm g off n : Nat} {w w' : World} (h : Cmp lns bm g w) (t : Turn g off n w w') : Cmp lns bm g w' := by
  obtain ⟨w0, h1, h2, h3⟩ := h.base
  exact ⟨w0, h1, t.below h2 h3, h3⟩
theorem Cmp.rd {lns : List Tm.Ln} {bm g : Nat} {w : World} (h : Cmp lns bm g w) : NodesRd w bm lns := by
  obtain ⟨w0, h1, h2, h3⟩ := h.base
  exact h1.below h2
theorem Cmp.call {lns : List Tm.Ln} {bm g : Nat} {w : World} (h : Cmp lns bm g w) {a b : Int} (ha : 0 ≤ a ∧ a ≤ 1114111) (hb : 0 ≤ b ∧ b ≤ 1114111) (m : Nat) :
    Calls Tryd.prog 84 #[.map (some bm), .int .i64 a, .int .i64 b] (w.drewN m) fun e w' => e = .returned (.int .i64 (cmpInt (Tm.classOf lns a) (Tm.classOf lns b))) ∧ w' = w.drewN m :=
  byClass_any lns bm a b _ (h.rd.below ⟨rfl, rfl, rfl, Nat.le_refl _, fun _ _ => rfl⟩) ha hb

set_option maxRecDepth 100000 in
set_option maxHeartbeats 4000000 in
theorem insertion_any (lns : List Tm.Ln) (bm : Nat) (p s r : List Int) (g off N cap : Nat) (w : World) (hN : N = p.length + s.length + r.length) (hcap : N ≤ 1000000) (hR : ∀ z ∈ s, 0 ≤ z ∧ z ≤ 1114111) (hI : Ints w g off (p ++ s ++ r)) (hC : Cmp lns bm g w) :
    Calls Tryd.prog 101 #[.slice (some ⟨g, off, none⟩) N cap, .int .i64 (p.length : Int), .int .i64 ((p.length + s.length : Nat) : Int), byClassFn bm] w fun e w' => e = .returned (.tuple #[]) ∧ (∃ s', Tm.Sorts (Tm.classOf lns) s s' ∧ Ints w' g off (p ++ s' ++ r)) ∧ Turn g off N w w' := by
  obtain ⟨a, ha⟩ : ∃ a, p.length = a := ⟨_, rfl⟩
  obtain ⟨b, hb⟩ : ∃ b, p.length + s.length = b := ⟨_, rfl⟩
  rw [hb, ha]
  have HI := hide hI
  have HR := hide hR
  have HC := hide hC
  have HA := hide ha
  have HB : Hid (a + s.length = b) := by unfold Hid; omega
  have hbN : b ≤ N := by omega
  have hab : a ≤ b := by omega
  have HN := hide hN
  clear hI hb ha hN hR hC
  unfold byClassFn
  go_enter Tryd.func101, Tryd.ntmps101
  go_wp2
  by_cases hemp : s = []
  · subst hemp
    have hba : b = a := by have := HB.out; simp at this; omega
    go_loopw [8] (fun vi wr => vi = .int .i64 ((a : Int) + 1) ∧ wr = w) (fun _ _ => 0)
    case atStart => exact ⟨rfl, rfl⟩
    case round =>
      obtain ⟨rfl, rfl⟩ := hrel
      have hd : decide ((a : Int) + 1 < (b : Int)) = false := by simp; omega
      go_wp2
      go_end0
      exact ⟨rfl, ⟨[], Tm.Sorts.of_up List.Pairwise.nil, HI.out⟩, Turn.refl _ _ _ _⟩
  have hpos : 0 < s.length := List.length_pos_iff.2 hemp
  go_loopw [8] (fun vi wr => ∃ (i : Nat) (t s1 s2 : List Int), vi = .int .i64 i ∧ 0 < s1.length ∧ a + s1.length = i ∧ s = t ++ s2 ∧ Tm.Sorts (Tm.classOf lns) t s1 ∧ Ints wr g off (p ++ s1 ++ s2 ++ r) ∧ Turn g off N w wr) (fun vi _ => b - (intOf vi).toNat)
  case atStart =>
    obtain ⟨x, y, rfl⟩ : ∃ x y, s = x :: y := by
      cases s with
      | nil => exact absurd rfl hemp
      | cons x y => exact ⟨x, y, rfl⟩
    exact ⟨a + 1, [x], [x], y, by go_num, by simp, by simp, rfl, Tm.Sorts.of_up (List.pairwise_singleton _ _), by have h := HI.out; simpa using h, Turn.refl _ _ _ _⟩
  case round =>
    obtain ⟨i, t, s1, s2, rfl, hs1, hi, hs, hsort, hI, hT⟩ := hrel
    have HIr := hide hI
    have HT := hide hT
    have HSO := hide hsort
    have HS := hide hs
    have HIL := hide hi
    have htl := hsort.2.length
    have hlen : s.length = s1.length + s2.length := by rw [hs]; simp [htl]
    clear hI hT hsort hs
    by_cases hlt : i < b
    · have hd : decide ((i : Int) < (b : Int)) = true := by simp; omega
      obtain ⟨x, s3, rfl⟩ : ∃ x y, s2 = x :: y := by
        cases s2 with
        | nil => exfalso; simp at hlen; have := HB.out; omega
        | cons x y => exact ⟨x, y, rfl⟩
      have hx := HR.out x (by rw [HS.out]; simp)
      have HR1 : Hid (∀ z ∈ s1, 0 ≤ z ∧ z ≤ 1114111) := fun z hz => HR.out z (by rw [HS.out]; exact List.mem_append_left _ (HSO.out.2.mem.2 hz))
      go_wp2_with fail
      go_loopw [9] (fun vj wi => ∃ (j : Nat) (q1 q2 : List Int), vj = .int .i64 j ∧ a + q1.length = j ∧ s1 = q1 ++ q2 ∧ (∀ y ∈ q2, Tm.classOf lns x < Tm.classOf lns y) ∧ Ints wi g off (p ++ q1 ++ x :: (q2 ++ s3 ++ r)) ∧ Turn g off N w wi) (fun vj _ => (intOf vj).toNat)
      case atStart => exact ⟨i, s1, [], rfl, HIL.out, by simp, by simp, by have h := HIr.out; simpa using h, HT.out⟩
      case round =>
        obtain ⟨j, q1, q2, rfl, hj, hq, hgt, hI2, hT2⟩ := hrel
        have HI2 := hide hI2
        have HT2 := hide hT2
        have HGT := hide hgt
        have HQ := hide hq
        have hql : s1.length = q1.length + q2.length := by rw [hq]; simp
        clear hI2 hT2 hgt hq
        have HC2 := hide (HC.out.turn HT2.out)
        rcases List.eq_nil_or_concat q1 with hq0 | ⟨q3, y, hq3⟩
        · subst hq0
          have hja : j = a := by simpa using hj.symm
          subst hja
          have HF : Hid (Tm.Sorts (Tm.classOf lns) (t ++ [x]) ([] ++ x :: q2)) := HSO.out.insert HQ.out (by simp) HGT.out
          have HI3 : Hid (Ints wr g off (p ++ (x :: q2) ++ s3 ++ r)) := by have h := HI2.out; unfold Hid; simpa [List.append_assoc] using h
          have hd2 : decide ((j : Int) < (j : Int)) = false := by simp
          go_wp2_with fail
          go_quiet (fail)
          go_wp2
          go_roundw
          case rel => exact ⟨i + 1, t ++ [x], x :: q2, s3, by go_num, by simp <;> omega, by simp at hql; simp; omega, by rw [HS.out]; simp, HF.out, HI3.out, HT2.out.drewN _⟩
          case measure => simp [intOf]; omega
        · rw [List.concat_eq_append] at hq3
          subst hq3
          obtain ⟨jj, rfl⟩ : ∃ jj, j = jj + 1 := ⟨a + q3.length, by simp at hj; omega⟩
          have hjj : a + q3.length = jj := by simp at hj; omega
          have hy := HR1.out y (by rw [HQ.out]; simp)
          have HO : Hid (Ints wr g off ((p ++ q3) ++ y :: ([] ++ x :: (q2 ++ s3 ++ r)))) := by have h := HI2.out; unfold Hid; simpa [List.append_assoc] using h
          have hl1 : (p ++ q3).length = jj := by have := HA.out; simp; omega
          have c1 := HO.out jj y (by rw [List.getElem?_append_right (by omega), hl1]; simp)
          have c2 := HO.out (jj + 1) x (by rw [List.getElem?_append_right (by omega), show jj + 1 - (p ++ q3).length = 1 from by omega]; simp)
          obtain ⟨c1, f1⟩ := c1
          obtain ⟨c2, f2⟩ := c2
          have hd2 : decide ((a : Int) < ((jj : Int) + 1)) = true := by simp; omega
          have i1 : (jj : Int) < (N : Int) := by omega
          have i2 : (jj : Int) + 1 < (N : Int) := by omega
          obtain ⟨q, hq⟩ : ∃ q, decide (cmpInt (Tm.classOf lns x) (Tm.classOf lns y) < 0) = q := ⟨_, rfl⟩
          have hq' : decide (Tm.classOf lns x < Tm.classOf lns y) = q := by rw [← hq, cmpInt_neg]
          have HCALL : Hid (∀ m, Calls Tryd.prog 84 #[.map (some bm), .int .i64 x, .int .i64 y] (wr.drewN m) fun e w' => e = .returned (.int .i64 (cmpInt (Tm.classOf lns x) (Tm.classOf lns y))) ∧ w' = wr.drewN m) := fun m => HC2.out.call hx hy m
          generalize cmpInt (Tm.classOf lns x) (Tm.classOf lns y) = cv at *
          cases q
          · have hle : Tm.classOf lns y ≤ Tm.classOf lns x := by simpa using hq'
            have HF : Hid (Tm.Sorts (Tm.classOf lns) (t ++ [x]) ((q3 ++ [y]) ++ x :: q2)) := HSO.out.insert HQ.out (Tm.Up.last_le (by have h := HSO.out.1; rw [HQ.out] at h; exact (Tm.Up.append.1 h).1) hle) HGT.out
            have HI3 : Hid (Ints wr g off (p ++ ((q3 ++ [y]) ++ x :: q2) ++ s3 ++ r)) := by have h := HI2.out; unfold Hid; simpa [List.append_assoc] using h
            clear hq' hle hl1
            go_wp2_with fail
            go_quiet (first | (go_at_call 84; exact Calls.quiet_of_same (HCALL.out _)))
            go_wp2
            go_roundw
            case rel => exact ⟨i + 1, t ++ [x], (q3 ++ [y]) ++ x :: q2, s3, by go_num, by simp <;> omega, by simp at hql; simp; omega, by rw [HS.out]; simp, HF.out, HI3.out, HT2.out.drewN _⟩
            case measure => simp [intOf]; omega
          · have hlt2 : Tm.classOf lns x < Tm.classOf lns y := by simpa using hq'
            have HSW : Hid (Ints ((wr.setCell ⟨g, off + (jj + 1), none⟩ (.int .i64 y)).setCell ⟨g, off + jj, none⟩ (.int .i64 x)) g off ((p ++ q3) ++ x :: ([] ++ y :: (q2 ++ s3 ++ r)))) := HO.out.swapR hl1.symm (by rw [hl1]; rfl)
            have HSW2 : Hid (Ints ((wr.setCell ⟨g, off + (jj + 1), none⟩ (.int .i64 y)).setCell ⟨g, off + jj, none⟩ (.int .i64 x)) g off (p ++ q3 ++ x :: ((y :: q2) ++ s3 ++ r))) := by have h := HSW.out; unfold Hid; simpa [List.append_assoc] using h
            have HT3 : Hid (Turn g off N w ((wr.setCell ⟨g, off + (jj + 1), none⟩ (.int .i64 y)).setCell ⟨g, off + jj, none⟩ (.int .i64 x))) := (HT2.out.setCell (by omega) (by omega) _).setCell (by omega) (by omega) _
            have HQ2 : Hid (s1 = q3 ++ (y :: q2)) := by unfold Hid; rw [HQ.out]; simp
            have HGT2 : Hid (∀ z ∈ y :: q2, Tm.classOf lns x < Tm.classOf lns z) := fun z hz => by
              rcases List.mem_cons.1 hz with rfl | hz
              · exact hlt2
              · exact HGT.out z hz
            clear hq' hlt2 hl1
            go_wp2_with fail
            go_quiet (first | (go_at_call 84; exact Calls.quiet_of_same (HCALL.out _)))
            go_wp2_with fail
            go_region
            all_goals go_wp2
            all_goals go_roundw
            all_goals first
              | exact ⟨jj, q3, y :: q2, by go_num, hjj, HQ2.out, HGT2.out, HSW2.out, (HT3.out.drewN nq).drew⟩
              | (simp [intOf] <;> omega)
    · have hib : i = b := by have := HB.out; omega
      have hs2 : s2 = [] := List.eq_nil_of_length_eq_zero (by have := HB.out; omega)
      subst hs2
      have HF : Hid (Tm.Sorts (Tm.classOf lns) s s1) := by unfold Hid; rw [HS.out]; simpa using HSO.out
      have HI3 : Hid (Ints wr g off (p ++ s1 ++ r)) := by have h := HIr.out; unfold Hid; simpa using h
      have hd : decide ((i : Int) < (b : Int)) = false := by simp; omega
      go_wp2
      go_end0
      exact ⟨rfl, ⟨s1, HF.out, HI3.out⟩, HT.out⟩
end Go.Proofs.YtmnjjjhmnhfapaaDoor
