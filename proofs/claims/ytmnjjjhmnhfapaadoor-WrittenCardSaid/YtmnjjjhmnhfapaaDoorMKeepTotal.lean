import Derived.Test.YtmnjjjhmnhfapaaDoorMKeepOrd
import Derived.Test.YtmnjjjhmnhfapaaDoorMKeepSame
namespace Go.Proofs.YtmnjjjhmnhfapaaDoor
open Go.RowKit

set_option maxRecDepth 100000 in
set_option maxHeartbeats 1000000 in
theorem keepSign_any (a b : ByteArray) (w : World) : Calls Tryd.prog 38 #[.string a, .string b] w fun e w' => e = .returned (.int .i64 (Tm.cmpB a.data.toList b.data.toList)) ∧ w' = w := by
  have HL : Hid (Tm.lessB a.data.toList b.data.toList = Op.bytesLess a.toList b.toList) := by unfold Hid; rw [bytesLess_eq, Go.ByteArray.toList_eq, Go.ByteArray.toList_eq]
  have HG : Hid (Tm.lessB a.data.toList b.data.toList = false → Tm.lessB b.data.toList a.data.toList = !(a.toList == b.toList)) := by
    intro h
    rw [← Go.ByteArray.toList_eq, ← Go.ByteArray.toList_eq] at h ⊢
    cases h2 : Tm.lessB b.toList a.toList
    · have := lessB_none h h2
      simp [this]
    · have : a.toList ≠ b.toList := fun e => by rw [e, Tm.lessB_self] at h2; cases h2
      simp [this]
  have HC : Hid (Tm.cmpB a.data.toList b.data.toList = if Tm.lessB a.data.toList b.data.toList then -1 else if Tm.lessB b.data.toList a.data.toList then 1 else 0) := rfl
  cases h1 : Op.bytesLess a.toList b.toList
  · have HG' := hide (HG.out (by rw [HL.out, h1]))
    cases h2 : (a.toList == b.toList)
    · go_enter Tryd.func38, Tryd.ntmps38
      go_wp2
      go_ret
      exact ⟨ret_int (by rw [HC.out, HG'.out, HL.out, h1, h2]; rfl), rfl⟩
    · go_enter Tryd.func38, Tryd.ntmps38
      go_wp2
      go_ret
      exact ⟨ret_int (by rw [HC.out, HG'.out, HL.out, h1, h2]; rfl), rfl⟩
  · go_enter Tryd.func38, Tryd.ntmps38
    go_wp2
    go_ret
    exact ⟨ret_int (by rw [HC.out, HL.out, h1]; rfl), rfl⟩
end Go.Proofs.YtmnjjjhmnhfapaaDoor
namespace Go.Proofs.YtmnjjjhmnhfapaaDoor
open Go.RowKit

set_option maxRecDepth 100000 in
set_option maxHeartbeats 8000000 in
theorem pair_any (lns : List Tm.Ln) (bc bm : Nat) (st : Int) (sh : Bool) (a b : ByteArray) (w : World) (hc : Coll w bc bm st sh lns) (hok : TableOk st lns) (ha : a.size ≤ 64) (hb : b.size ≤ 64) :
    Calls Tryd.prog 17 #[.pointer (some ⟨bc, 0, none⟩), .string a, .string b] w fun e w' => e = .returned (.tuple #[.int .i64 (cmpOf lns st sh a b), .bool true]) ∧ Below w.heap.size w w' := by
  have HC := hide hc
  have HOK := hide hok
  have HF := hide hc.fit
  obtain ⟨c, hcd⟩ : ∃ c, cmpOf lns st sh a b = c := ⟨_, rfl⟩
  have HCD := hide hcd
  have hr := cmpOf_range lns st sh a b
  rw [hcd] at hr
  rw [hcd]
  have HR := hide hr
  clear hc hok hcd hr
  go_enter Tryd.func17, Tryd.ntmps17
  go_wp2_with fail
  refine (CodeCompare_any lns bc bm st sh a b _ HC.out HOK.out).mono ?_
  rw [if_pos ⟨ha, hb⟩, HCD.out]
  rintro e w1 ⟨rfl, hb1⟩
  have hz1 := hb1.size
  have HB1 := hide hb1
  have HC1 := hide (HC.out.below hb1)
  clear hb1
  go_wp2_with fail
  refine (CodeCompare_any lns bc bm st sh b a _ HC1.out HOK.out).mono ?_
  rw [if_pos ⟨hb, ha⟩, cmpOf_neg, HCD.out]
  rintro e w2 ⟨rfl, hb2⟩
  have hz2 := hb2.size
  have HB2 := hide (HB1.out.trans (hb2.mono hz1))
  have HC2 := hide (HC1.out.below hb2)
  clear hb2
  go_wp2_with fail
  refine (CodeKey_any lns bc bm st sh a _ HC2.out HOK.out).mono ?_
  rw [if_pos ha]
  rintro e w3 ⟨rfl, hb3⟩
  have hz3 := hb3.size
  have HB3 := hide (HB2.out.trans (hb3.mono (by omega)))
  have HC3 := hide (HC2.out.below hb3)
  clear hb3
  go_wp2_with fail
  refine (CodeKey_any lns bc bm st sh b _ HC3.out HOK.out).mono ?_
  rw [if_pos hb]
  rintro e w4 ⟨rfl, hb4⟩
  have hz4 := hb4.size
  have HB4 := hide (HB3.out.trans (hb4.mono (by omega)))
  have HC4 := hide (HC3.out.below hb4)
  clear hb4
  go_wp2_with fail
  refine (Normal_any lns HF.out HOK.out.ends bc bm a _ HC4.out.c0 HC4.out.rd).mono ?_
  rintro e w5 hans
  rw [normAns, if_pos ha] at hans
  obtain ⟨v5, rfl, hown5, hb5⟩ := hans
  have HR5 := hide (Reads.of_owns hown5)
  have hz5 := hb5.size
  have HB5 := hide (HB4.out.trans (hb5.mono (by omega)))
  have HC5 := hide (HC4.out.below hb5)
  clear hown5 hb5
  go_wp2_with fail
  refine (Normal_any lns HF.out HOK.out.ends bc bm b _ HC5.out.c0 HC5.out.rd).mono ?_
  rintro e w6 hans
  rw [normAns, if_pos hb] at hans
  obtain ⟨v6, rfl, hown6, hb6⟩ := hans
  have HR6 := hide (Reads.of_owns hown6)
  have HR56 := hide (HR5.out.below hb6 HR5.out.2.1)
  have hz6 := hb6.size
  have HB6 := hide (HB5.out.trans (hb6.mono (by omega)))
  clear hown6 hb6
  go_wp2_with fail
  refine (keepSign_any _ _ _).mono ?_
  rintro e w7 ⟨rfl, rfl⟩
  have hkc : Tm.cmpB (ByteArray.mk (keyBytes lns st sh a).toArray).data.toList (ByteArray.mk (keyBytes lns st sh b).toArray).data.toList = cmpOf lns st sh a b := by
    have := key_cmp HF.out (sh := sh) HOK.out.st a b
    simpa using this
  rw [hkc, HCD.out]
  clear hkc
  go_wp2_with fail
  refine (keepSame_any _ _ (normOf lns a) (normOf lns b) _ HR56.out HR6.out (by have := norm_short' HF.out ha; omega) (by have := norm_short' HF.out hb; omega)).mono ?_
  rintro e w8 ⟨rfl, q, rfl⟩
  have hsame : decide (normOf lns a = normOf lns b) = decide (cmpOf lns st sh a b = 0) := by
    by_cases h : normOf lns a = normOf lns b
    · rw [decide_eq_true h, decide_eq_true (cmpOf_zero.2 h)]
    · rw [decide_eq_false h, decide_eq_false (fun e => h (cmpOf_zero.1 e))]
  rw [hsame, HCD.out]
  have HBQ : Hid (Below w.heap.size w (w7.drewN q)) := ⟨HB6.out.os, HB6.out.tape, HB6.out.output, HB6.out.size, HB6.out.block⟩
  clear hsame HCD
  rcases HR.out with rfl | rfl | rfl
  all_goals
    go_wp2
    go_ret2
    exact ⟨rfl, HBQ.out⟩

set_option maxRecDepth 100000 in
set_option maxHeartbeats 8000000 in
theorem Total_any (n st : Int) (sh : Bool) (a b c : ByteArray) (w : World) (hn : -9223372036854775808 ≤ n ∧ n ≤ 9223372036854775807) (hst : -9223372036854775808 ≤ st ∧ st ≤ 9223372036854775807) :
    Calls Tryd.prog 5 #[.int .i64 n, .int .i64 st, .bool sh, .string a, .string b, .string c] w fun e w' => e = .returned (.bool true) ∧ Below w.heap.size w w' := by
  have HN := hide hn
  have HST := hide hst
  clear hn hst
  go_enter Tryd.func5, Tryd.ntmps5
  go_wp2_with fail
  refine (opened_any n st sh _ HN.out HST.out).mono ?_
  rintro e w1 ⟨k, t, _, bc, bm, lns, rfl, hc1, hok, hkt, _, hb1⟩
  have HC1 := hide hc1
  have HOK := hide hok
  have HKT := hide hkt
  have HB1 := hide hb1
  have hz1 := hb1.size
  clear hc1 hok hkt hb1
  go_wp2_with fail
  refine (works_any lns bc bm t sh _ HC1.out HOK.out HKT.out).mono ?_
  rintro e w2 ⟨rfl, hb2⟩
  have hz2 := hb2.size
  have HB2 := hide (HB1.out.trans (hb2.mono hz1))
  have HC2 := hide (HC1.out.below hb2)
  clear hb2
  go_wp2_with fail
  refine (cut_any a _).mono ?_
  rintro e w2' ⟨rfl, rfl⟩
  go_wp2_with fail
  refine (cut_any b _).mono ?_
  rintro e w2' ⟨rfl, rfl⟩
  go_wp2_with fail
  refine (cut_any c _).mono ?_
  rintro e w2' ⟨rfl, rfl⟩
  have hx := cutB_size a
  have hy := cutB_size b
  have hz := cutB_size c
  generalize cutB a = x at *
  generalize cutB b = y at *
  generalize cutB c = z at *
  go_wp2_with fail
  refine (pair_any lns bc bm t sh x y _ HC2.out HOK.out hx hy).mono ?_
  rintro e w3 ⟨rfl, hb3⟩
  have hz3 := hb3.size
  have HB3 := hide (HB2.out.trans (hb3.mono (by omega)))
  have HC3 := hide (HC2.out.below hb3)
  clear hb3
  go_wp2_with fail
  refine (pair_any lns bc bm t sh y z _ HC3.out HOK.out hy hz).mono ?_
  rintro e w4 ⟨rfl, hb4⟩
  have hz4 := hb4.size
  have HB4 := hide (HB3.out.trans (hb4.mono (by omega)))
  have HC4 := hide (HC3.out.below hb4)
  clear hb4
  go_wp2_with fail
  refine (pair_any lns bc bm t sh x z _ HC4.out HOK.out hx hz).mono ?_
  rintro e w5 ⟨rfl, hb5⟩
  have hz5 := hb5.size
  have HB5 := hide (HB4.out.trans (hb5.mono (by omega)))
  have HC5 := hide (HC4.out.below hb5)
  clear hb5
  go_wp2_with fail
  refine (pair_any lns bc bm t sh x x _ HC5.out HOK.out hx hx).mono ?_
  rw [cmpOf_self]
  rintro e w6 ⟨rfl, hb6⟩
  have HB6 := hide (HB5.out.trans (hb6.mono (by omega)))
  clear hb6
  have h1 := cmpOf_range lns t sh x y
  have h2 := cmpOf_range lns t sh y z
  have h3 := cmpOf_range lns t sh x z
  have h4 := @cmpOf_trans lns t sh x y z
  have h5 := @cmpOf_trans' lns t sh x y z
  generalize cmpOf lns t sh x y = p at *
  generalize cmpOf lns t sh y z = q at *
  generalize cmpOf lns t sh x z = r at *
  rcases h1 with rfl | rfl | rfl <;> rcases h2 with rfl | rfl | rfl <;> rcases h3 with rfl | rfl | rfl <;> first | (exfalso; revert h4; decide) | (exfalso; revert h5; decide) | (clear h4 h5; go_wp2; go_ret; exact ⟨rfl, HB6.out⟩)
end Go.Proofs.YtmnjjjhmnhfapaaDoor
