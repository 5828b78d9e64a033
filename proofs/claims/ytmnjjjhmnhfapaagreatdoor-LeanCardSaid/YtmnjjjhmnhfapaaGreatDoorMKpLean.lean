import Derived.Test.YtmnjjjhmnhfapaaGreatDoorMKpBegin
import Derived.Test.YtmnjjjhmnhfapaaGreatDoorMIxSnap3
import Derived.Test.YtmnjjjhmnhfapaaGreatDoorMIxStoredB
namespace Go.Proofs.YtmnjjjhmnhfapaaGreatDoor
open Go.RowKit

theorem playAll_held (c : ByteArray → ByteArray → Int) : ∀ (l : Tm.Ents) (s : IxSt), (playAll c s l).held = s.held ∧ (playAll c s l).given = s.given
  | [], _ => ⟨rfl, rfl⟩
  | e :: r, s => by
    have h1 : (playOne c s e).held = s.held ∧ (playOne c s e).given = s.given := by
      unfold playOne
      split
      · exact dropSt_held _ _ _
      · exact putSt_held _ _ _ _
    have h2 := playAll_held c r (playOne c s e)
    exact ⟨h2.1.trans h1.1, h2.2.trans h1.2⟩

set_option maxRecDepth 100000 in
set_option maxHeartbeats 8000000 in
theorem Lean_any (n st : Int) (sh : Bool) (l m : Tm.Ents) (vl vm : Value) (w : World) (hn : -9223372036854775808 ≤ n ∧ n ≤ 9223372036854775807) (hst : -9223372036854775808 ≤ st ∧ st ≤ 9223372036854775807) (hl : EntsRd w vl l) (hm : EntsRd w vm m) :
    Calls Tryz.prog 8 #[.int .i64 n, .int .i64 st, .bool sh, vl, vm] w fun e w' => e = .returned (.bool true) ∧ Below w.heap.size w w' := by
  have HN := hide hn
  have HST := hide hst
  obtain ⟨a, cap, rfl, hl⟩ := hl
  obtain ⟨a', cap', rfl, hm⟩ := hm
  have HL := hide hl
  have HM := hide hm
  clear hn hst hl hm
  go_enter Tryz.func8, Tryz.ntmps8
  go_wp2_with fail
  refine (begin_any n st sh _ HN.out HST.out).mono ?_
  rintro e w1 ⟨X, F, S, bb, bx, bc, bm, t, lns, s0, rfl, hB, ⟨hn0, hh0, hg0⟩, hX, hb1⟩
  have hT := told_cmpOf lns t sh
  have HBK := hide hB
  have HB1 := hide hb1
  have hz1 := hb1.size
  have HL1 : Hid (EntsRd w1 (.slice a l.length cap) l) := ⟨a, cap, rfl, fun h => (HL.out h).below hb1 (HL.out h).2.1⟩
  have HFO : Hid (Tm.FactsOk (cmpOf lns t sh) [] (nowOf s0)) := by unfold Hid; rw [hn0]; exact Tm.FactsOk.nil _
  have HVL : Hid (0 < l.length → ∀ g, (Value.slice a l.length cap).ownBlock = some g → ¬ F g) := fun h0 g hg hF => by
    have h1 := (HL.out h0).2.1 g hg
    have h2 := (HBK.out.from_ g hF).1
    omega
  have hfit := hB.coll.fit
  have HP1 := hide (playAll_held (cmpOf lns t sh) (l.take 100) s0)
  rw [hh0, hg0] at HP1
  clear hB hb1 hn0 hh0 hg0
  go_wp2_with fail
  refine (keepAll_any l _ _ HBK.out.refl HFO.out (by simp) HL1.out HVL.out).mono ?_
  rintro e w2 ⟨rfl, fs, ⟨F2, S2, vf2, hB2, hf2, hi2⟩, hfo2, hlen2⟩
  have HBK2 := hide hB2
  have HFO2 := hide hfo2
  have hXle := HBK.out.size
  have HB2 : Hid (Below w.heap.size w w2) := HB1.out.trans ((hf2.below (fun i hi => (HBK.out.from_ i hi).1) hXle).mono hX)
  simp only [List.length_nil, Nat.zero_add] at hlen2
  clear hB2 hf2 hi2 hfo2
  generalize playAll (cmpOf lns t sh) s0 (l.take 100) = s1 at *
  have HHE := hide (HFO2.out.here hT HBK2.out.ix.rises)
  rw [nowOf_length] at HHE
  have hfew1 : s1.now.length ≤ 64 := by rw [← nowOf_length]; exact HBK2.out.ix.few
  have HS1 := hide (stored_none HP1.out.1)
  go_wp2_with fail
  refine (keepHere_any _ HBK2.out (by omega)).mono ?_
  rintro e w9 ⟨rfl, h9⟩
  have h9 := h9.symm
  subst h9
  rw [HHE.out]
  have c1 := HBK2.out.c1
  have hbb := (HBK2.out.from_ bb HBK2.out.own).2
  go_wp2_with fail
  refine (IxStored_any lns bc t sh X S2 bx s1 _ hfit HBK2.out.ok HBK2.out.ix).mono ?_
  rintro e w3 ⟨rfl, hb3⟩
  rw [HS1.out]
  have HBK3 := hide (HBK2.out.below hb3)
  have HB3 : Hid (Below w.heap.size w w3) := HB2.out.trans (hb3.mono HB2.out.size)
  have c13 := HBK3.out.c1
  have hbb3 := (HBK3.out.from_ bb HBK3.out.own).2
  clear hb3 c1
  have HSN : Hid (snapAns s1 = .tuple #[.int .i64 1, .int .i64 0] ∧ (snapSt s1).held = [(1, s1.now)] ∧ (snapSt s1).now = s1.now ∧ nowOf (snapSt s1) = nowOf s1) := by
    have h8 : ¬ 8 ≤ s1.held.length := by rw [HP1.out.1]; simp
    refine ⟨?_, ?_, ?_, nowOf_snap s1⟩
    · unfold snapAns; rw [if_neg h8, HP1.out.2]; rfl
    · unfold snapSt; rw [if_neg h8]; simp [HP1.out.1, HP1.out.2]
    · unfold snapSt; rw [if_neg h8]
  go_wp2_with fail
  refine (IxSnapshot_any lns bc t sh X S2 bx s1 _ HBK3.out.ix HBK3.out.size (by rw [HP1.out.2]; omega)).mono ?_
  rw [HSN.out.1]
  rintro e w4 ⟨rfl, hst4⟩
  obtain ⟨F4, S4, hB4, hf4, hi4⟩ := HBK3.out.step hst4
  have HBK4 := hide hB4
  have HB4 : Hid (Below w.heap.size w w4) := HB3.out.trans ((hf4.below (fun i hi => (HBK3.out.from_ i hi).1) HBK3.out.size).mono hX)
  have HFO4 : Hid (Tm.FactsOk (cmpOf lns t sh) fs (nowOf (snapSt s1))) := by unfold Hid; rw [HSN.out.2.2.2]; exact HFO2.out
  have HM4 : Hid (EntsRd w4 (.slice a' m.length cap') m) := ⟨a', cap', rfl, fun h => (HM.out h).below HB4.out (HM.out h).2.1⟩
  have HVM : Hid (0 < m.length → ∀ g, (Value.slice a' m.length cap').ownBlock = some g → ¬ F4 g) := fun h0 g hg hF => by
    have h1 := (HM.out h0).2.1 g hg
    have h2 := (HBK4.out.from_ g hF).1
    omega
  have HP2 := hide (playAll_held (cmpOf lns t sh) (m.take 100) (snapSt s1))
  rw [HSN.out.2.1] at HP2
  clear hB4 hf4 hi4 hst4 c13
  go_wp2_with fail
  refine (keepAll_any m _ _ HBK4.out.refl HFO4.out (by omega) HM4.out HVM.out).mono ?_
  rintro e w5 ⟨rfl, fs5, ⟨F5, S5, vf5, hB5, hf5, hi5⟩, hfo5, hlen5⟩
  have HBK5 := hide hB5
  have HFO5 := hide hfo5
  have HB5 : Hid (Below w.heap.size w w5) := HB4.out.trans ((hf5.below (fun i hi => (HBK4.out.from_ i hi).1) HBK4.out.size).mono hX)
  clear hB5 hf5 hi5 hfo5
  generalize playAll (cmpOf lns t sh) (snapSt s1) (m.take 100) = s3 at *
  have HHE5 := hide (HFO5.out.here hT HBK5.out.ix.rises)
  rw [nowOf_length] at HHE5
  have hfew3 : s3.now.length ≤ 64 := by rw [← nowOf_length]; exact HBK5.out.ix.few
  have HS3 := hide (stored_one HP2.out.1)
  have hlk1 := lacks_le s1.now s3.now
  have hlk2 : s1.now.length ≤ s3.now.length + Tm.lacks s1.now s3.now := by
    have hall : ∀ x ∈ s1.now, x ∈ allVers s3 := fun x hx => mem_held (h := (1, s1.now)) (by rw [HP2.out.1]; simp) hx
    exact lacks_ge (fun x hx y hy e => HBK5.out.ix.ok.one y (mem_now hy) x (hall x hx) e) (rises_apart hT HBK2.out.ix.rises)
  generalize Tm.lacks s1.now s3.now = lk at *
  go_wp2_with fail
  refine (keepHere_any _ HBK5.out (by omega)).mono ?_
  rintro e w9 ⟨rfl, h9⟩
  have h9 := h9.symm
  subst h9
  rw [HHE5.out]
  have c15 := HBK5.out.c1
  have hbb5 := (HBK5.out.from_ bb HBK5.out.own).2
  go_wp2_with fail
  refine (IxStored_any lns bc t sh X S5 bx s3 _ hfit HBK5.out.ok HBK5.out.ix).mono ?_
  rintro e w6 ⟨rfl, hb6⟩
  rw [HS3.out]
  have HBK6 := hide (HBK5.out.below hb6)
  have HB6 : Hid (Below w.heap.size w w6) := HB5.out.trans (hb6.mono HB5.out.size)
  have c16 := HBK6.out.c1
  have hbb6 := (HBK6.out.from_ bb HBK6.out.own).2
  clear hb6 c15
  have HAT : Hid (heldAt s3 1 = 0 ∧ heldAt s3 1 < s3.held.length) := by
    unfold Hid heldAt
    rw [HP2.out.1]
    simp
  have HS6 : Hid (storedOf (letSt s3 1) = s3.now.length) := by
    refine stored_none (s := letSt s3 1) ?_
    show s3.held.eraseIdx (heldAt s3 1) = []
    rw [HAT.out.1, HP2.out.1]
    rfl
  go_wp2_with fail
  refine (IxRelease_any lns bc t sh X S5 bx s3 1 _ HBK6.out.ix).mono ?_
  rw [if_pos HAT.out.2]
  rintro e w7 ⟨rfl, hst7⟩
  obtain ⟨F7, S7, hB7, hf7, hi7⟩ := HBK6.out.step hst7
  have HBK7 := hide hB7
  have HB7 : Hid (Below w.heap.size w w7) := HB6.out.trans ((hf7.below (fun i hi => (HBK6.out.from_ i hi).1) HBK6.out.size).mono hX)
  have c17 := HBK7.out.c1
  have hbb7 := (HBK7.out.from_ bb HBK7.out.own).2
  clear hB7 hf7 hi7 hst7 c16
  go_wp2_with fail
  refine (IxStored_any lns bc t sh X S7 bx (letSt s3 1) _ hfit HBK7.out.ok HBK7.out.ix).mono ?_
  rintro e w8 ⟨rfl, hb8⟩
  rw [HS6.out]
  have HBK8 := hide (HBK7.out.below hb8)
  have HB8 : Hid (Below w.heap.size w w8) := HB7.out.trans (hb8.mono HB7.out.size)
  have c38 := HBK8.out.c3
  have hbb8 := (HBK8.out.from_ bb HBK8.out.own).2
  clear hb8 c17
  generalize s1.now.length = N at *
  generalize s3.now.length = M at *
  have j0 : lk ≤ N := hlk1
  have j1 : (M : Int) + (lk : Int) ≤ (N : Int) + (M : Int) := by omega
  have j2 : (N : Int) ≤ (M : Int) + (lk : Int) := by omega
  have j3 : (M : Int) ≤ (M : Int) + (lk : Int) := by omega
  clear hlk1 hlk2
  go_wp2
  go_ret
  exact ⟨rfl, HB8.out⟩
end Go.Proofs.YtmnjjjhmnhfapaaGreatDoor
