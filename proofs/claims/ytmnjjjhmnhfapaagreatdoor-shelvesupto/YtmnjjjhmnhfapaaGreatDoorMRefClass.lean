import Derived.Test.YtmnjjjhmnhfapaaGreatDoorMRefParts
namespace Go.Proofs.YtmnjjjhmnhfapaaGreatDoor
open Go.RowKit
theorem class_no {lns : List Tm.Ln} {r : Int} (h : lns.find? (Tm.isClass r) = none) : Tm.classOf lns r = 0 := by unfold Tm.classOf; rw [h]
theorem class_some {lns : List Tm.Ln} {r : Int} {o : Tm.Ln} (h : lns.find? (Tm.isClass r) = some o) : Tm.classOf lns r = o.runes.getD 1 0 := by unfold Tm.classOf; rw [h]
set_option maxRecDepth 100000 in
set_option maxHeartbeats 1000000 in
theorem Class_any (vl : Value) (st : Int) (sh : Bool) (r : Int) (lns : List Tm.Ln) (w : World) (ht : TableRd w vl lns) (hfit : ∀ o ∈ lns, Tm.Fit o) (hl : lns.length ≤ 1000000) :
  Calls Tryz.prog 88 #[.agg #[vl, .int .i64 st, .bool sh], .int .i64 r] w fun e w' => e = .returned (.int .i64 (Tm.classOf lns r)) ∧ Below w.heap.size w w' := by
 obtain ⟨a, cap, rfl⟩ := ht.shape
 have HT := hide ht
 have HF := hide hfit
 clear ht hfit
 go_enter Tryz.func88, Tryz.ntmps88
 go_wp2
 go_loop [5] (fun i => ∃ k : Nat, k ≤ lns.length ∧ i = .int .i64 k ∧ ∀ j (_ : j < k) (hj : j < lns.length), Tm.isClass r lns[j] = false) (fun i => lns.length - (intOf i).toNat)
 case atStart => exact ⟨0, Nat.zero_le _, rfl, fun j hj => by omega⟩
 case round =>
  obtain ⟨k, hk, rfl, hno⟩ := hrel
  by_cases hlt : k < lns.length
  ·obtain ⟨g, off, kb, vr, ve, rfl, hg, c0, c1, c2, c3, hkb, hr, he⟩ := HT.out.at hlt
   have hF := HF.out _ (List.getElem_mem hlt)
   have hpos : 0 < lns[k].runes.length := List.length_pos_iff.2 hF.some
   have H2 : Hid ((kb.toList == [99]) = true → lns[k].runes.length = 2) := fun h => by
    rw [ByteArray.toList_eq, hkb, beq_iff_eq] at h
    rcases hF.kinds with ⟨_, h', _⟩ | ⟨h', _⟩ | ⟨h', _⟩
    ·exact h'
    ·rw [h] at h'; simp at h'
    ·rw [h] at h'; simp at h'
   have HR := hide hr
   obtain ⟨ar, capr, rfl⟩ := hr.shape
   have hfit := hr.fits
   obtain ⟨gr, offr, rfl, hgr, cr⟩ := hr.at hpos
   have hip : Tm.isClass r lns[k] = ((kb.toList == [99]) && (lns[k].runes[0] == r)) := by
    unfold Tm.isClass
    rw [← hkb, ByteArray.toList_eq]
    congr 1
    ·rw [Bool.eq_iff_iff]; simp
    ·simp [hpos]
   have HS : Hid (Tm.isClass r lns[k] = false → ∀ j (_ : j < k + 1) (hj : j < lns.length), Tm.isClass r lns[j] = false) := fun hx => find_step hno hlt hx
   have HY : Hid (Tm.isClass r lns[k] = true → Tm.classOf lns r = lns[k].runes.getD 1 0) := fun hx => class_some (find_hit hno hlt hx)
   rw [hip] at HS HY
   have g1 : ¬ g = w.heap.size := by omega
   have g2 : ¬ gr = w.heap.size := by omega
   simp only [Nat.add_zero] at cr
   cases hk1 : (kb.toList == [99])
   ·have HS' := hide (HS.out (by rw [hk1]; rfl))
    generalize lns[k].runes[0] = x0 at *
    clear hno hr he hkb hip hfit hF
    go_wp2
    go_round
    case rel => exact ⟨k + 1, by omega, by go_num, HS'.out⟩
    case measure => simp [intOf]; omega
   ·have h2 := H2.out hk1
    obtain ⟨g', off', hgo, hgr', cr1⟩ := hr.at (k := 1) (by omega)
    cases hgo
    have hx1 : lns[k].runes.getD 1 0 = lns[k].runes[1]'(by omega) := by simp [List.getD, h2]
    rw [hx1] at HY
    generalize lns[k].runes[1]'(by omega) = x1 at *
    generalize lns[k].runes[0] = x0 at *
    clear hno hr he hkb hip hfit hF hx1 HR H2
    rw [h2] at c1
    rw [h2] at *
    cases hk2 : (x0 == r)
    ·have HS' := hide (HS.out (by rw [hk1, hk2]; rfl))
     go_wp2
     go_round
     case rel => exact ⟨k + 1, by omega, by go_num, HS'.out⟩
     case measure => simp [intOf]; omega
    ·have HY' := hide (HY.out (by rw [hk1, hk2]; rfl))
     go_wp2
     go_ret
     exact ⟨by rw [HY'.out]; rfl, (Below.refl _ _).alloc (Nat.le_refl _) _⟩
  ·have HN := hide (class_no (find_none hno (by omega)))
   clear hno
   go_wp2
   go_ret
   exact ⟨by rw [HN.out]; rfl, (Below.refl _ _).alloc (Nat.le_refl _) _⟩
end Go.Proofs.YtmnjjjhmnhfapaaGreatDoor
