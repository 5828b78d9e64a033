import Derived.Test.YtmnjjjhmnhfapaaGreatDoorMSortTwo
namespace Go.Proofs.YtmnjjjhmnhfapaaGreatDoor
open Go.RowKit
theorem rotate_at (p u v r : List Int) (g off N cap : Nat) (fv : Value) (w : World) {A B C : Int} (hA : A = (p.length : Int)) (hB : B = ((p.length + u.length : Nat) : Int)) (hC : C = ((p.length + u.length + v.length : Nat) : Int)) (hu : 0 < u.length) (hv : 0 < v.length) (hN : N = p.length + u.length + v.length + r.length) (hcap : N ≤ 1000000) (hI : Ints w g off (p ++ u ++ v ++ r)) :
  Calls Tryz.prog 209 #[.slice (some ⟨g, off, none⟩) N cap, .int .i64 A, .int .i64 B, .int .i64 C, fv] w fun e w' => e = .returned (.tuple #[]) ∧ Ints w' g off (p ++ v ++ u ++ r) ∧ Turn g off N w w' := by
 subst hA hB hC
 exact rotate_any p u v r g off N cap fv w hu hv hN hcap hI
def Merges (lns : List Tm.Ln) (bm n : Nat) : Prop := ∀ (p u v r : List Int) (g off N cap : Nat) (w : World) (A B C : Int), u.length + v.length = n → A = (p.length : Int) → B = ((p.length + u.length : Nat) : Int) → C = ((p.length + u.length + v.length : Nat) : Int) → 0 < u.length → 0 < v.length → N = p.length + u.length + v.length + r.length → N ≤ 1000000 → (∀ z ∈ u ++ v, 0 ≤ z ∧ z ≤ 1114111) → Tm.Up (Tm.classOf lns) u → Tm.Up (Tm.classOf lns) v → Ints w g off (p ++ u ++ v ++ r) → Cmp lns bm g w →
 Calls Tryz.prog 196 #[.slice (some ⟨g, off, none⟩) N cap, .int .i64 A, .int .i64 B, .int .i64 C, byClassFn bm] w fun e w' => e = .returned (.tuple #[]) ∧ (∃ s', Tm.Sorts (Tm.classOf lns) (u ++ v) s' ∧ Ints w' g off (p ++ s' ++ r)) ∧ Turn g off N w w'
set_option maxRecDepth 100000 in
set_option maxHeartbeats 8000000 in
theorem symMerge_step (lns : List Tm.Ln) (bm n : Nat) (ih : ∀ k, k < n → Merges lns bm k) : Merges lns bm n := by
 intro p u v r g off N cap w A B C hn hA hB hC hu hv hN hcap hR hup hvp hI hC'
 by_cases hu1 : u.length = 1
 ·obtain ⟨x, rfl⟩ : ∃ x, u = [x] := List.length_eq_one_iff.1 hu1
  subst hA hB hC
  exact symMerge_left lns bm p v r x g off N cap w hv hN hcap (hR x (by simp)) (fun z hz => hR z (by simp [hz])) hvp hI hC'
 by_cases hv1 : v.length = 1
 ·obtain ⟨x, rfl⟩ : ∃ x, v = [x] := List.length_eq_one_iff.1 hv1
  subst hA hB hC
  exact symMerge_right lns bm p u r x g off N cap w (by omega) hN hcap (hR x (by simp)) (fun z hz => hR z (by simp [hz])) hup (by simpa using hI) hC'
 obtain ⟨a, ha⟩ : ∃ a, p.length = a := ⟨_, rfl⟩
 obtain ⟨m, hm⟩ : ∃ m, p.length + u.length = m := ⟨_, rfl⟩
 obtain ⟨b, hb⟩ : ∃ b, p.length + u.length + v.length = b := ⟨_, rfl⟩
 rw [ha] at hA
 rw [hm] at hB
 rw [hb] at hC
 subst hA hB hC
 have HI := hide hI
 have HR := hide hR
 have HC := hide hC'
 have HUP := hide hup
 have HVP := hide hvp
 have HIH := hide ih
 have HA := hide ha
 have HM : Hid (a + u.length = m) := by unfold Hid; omega
 have HB : Hid (m + v.length = b) := by unfold Hid; omega
 have HNN : Hid (n = b - a) := by unfold Hid; omega
 have HN : Hid (N = b + r.length) := by unfold Hid; omega
 have ham : a + 2 ≤ m := by omega
 have hmb : m + 2 ≤ b := by omega
 have hbN : b ≤ N := by omega
 have h0 : ((((m : Int) - (a : Int)) == 1) : Bool) = false := by rw [beq_eq_false_iff_ne]; omega
 have h1 : ((((b : Int) - (m : Int)) == 1) : Bool) = false := by rw [beq_eq_false_iff_ne]; omega
 obtain ⟨mid, hmid⟩ : ∃ mid : Nat, ((a : Int) + (b : Int)) / 2 = (mid : Int) := ⟨(a + b) / 2, by omega⟩
 have hmid1 : a < mid := by omega
 have hmid2 : mid < b := by omega
 have hmid3 : 2 * mid ≤ a + b := by omega
 have hmid4 : a + b ≤ 2 * mid + 1 := by omega
 clear hI hb hm ha hN hR hC' hup hvp ih hn hu hv hu1 hv1
 unfold byClassFn
 by_cases hcs : mid < m
 ·have hgt : mid < m := hcs
  obtain ⟨s0, hs0⟩ : ∃ s0 : Nat, (mid : Int) + (m : Int) - (b : Int) = (s0 : Int) := ⟨mid + m - b, by omega⟩
  have hdm : decide ((mid : Int) < (m : Int)) = true := by simp <;> omega
  obtain ⟨r0, hr0⟩ : ∃ r0 : Nat, r0 = mid := ⟨_, rfl⟩
  have hs0a : a ≤ s0 := by omega
  have hs0r : s0 ≤ r0 := by omega
  have hr0m : r0 ≤ m := by omega
  have hr0d : r0 ≤ mid := by omega
  have hlow : m ≤ mid + m - r0 := by omega
  have hhi : mid + m - s0 ≤ b := by omega
  have HEA : Hid (∀ st, s0 ≤ st → st ≤ r0 → (st < m → st < mid → st ≠ r0) ∧ (a < st → mid + m - st < b → st ≠ s0)) := fun st h1 h2 => ⟨fun h3 h4 => by omega, fun h3 h4 => by omega⟩
  have HS0 := hide hs0
  go_enter Tryz.func196, Tryz.ntmps196
  go_wp2
  go_loopw [20, 21] (fun vi vj wr => ∃ st re : Nat, vi = .int .i64 st ∧ vj = .int .i64 re ∧ s0 ≤ st ∧ st ≤ re ∧ re ≤ r0 ∧ (st = s0 ∨ Tm.classOf lns (u.getD (st - 1 - a) 0) ≤ Tm.classOf lns (v.getD (mid - st) 0)) ∧ (re = r0 ∨ Tm.classOf lns (v.getD (mid - 1 - re) 0) < Tm.classOf lns (u.getD (re - a) 0)) ∧ Ints wr g off (p ++ u ++ v ++ r) ∧ Turn g off N w wr) (fun vi vj _ => (intOf vj).toNat - (intOf vi).toNat)
  case atStart => exact ⟨s0, r0, by first | rfl | (rw [hs0]) | go_num, by rw [hr0], Nat.le_refl _, hs0r, Nat.le_refl _, .inl rfl, .inl rfl, HI.out, Turn.refl _ _ _ _⟩
  case round =>
   obtain ⟨st, re, rfl, rfl, hst0, hsr, hrr, hlo, hhi2, hI, hT⟩ := hrel
   have HIr := hide hI
   have HT := hide hT
   have HCr := hide (HC.out.turn hT)
   have HLO := hide hlo
   have HHI := hide hhi2
   clear hlo hhi2 hI hT
   by_cases hlt : st < re
   ·have hd : decide ((st : Int) < (re : Int)) = true := by simp <;> omega
    go_wp2_with fail
    obtain ⟨c, hce⟩ : ∃ c : Nat, ((st : Int) + (re : Int)) / 2 = (c : Int) := ⟨(st + re) / 2, by omega⟩
    obtain ⟨pc, hpc⟩ : ∃ pc : Nat, (mid : Int) + (m : Int) - 1 - (c : Int) = (pc : Int) := ⟨mid + m - 1 - c, by omega⟩
    rw [hce]
    have hc1 : st ≤ c := by omega
    have hc2 : c < re := by omega
    have hcu : c - a < u.length := by have := HM.out; omega
    have hpv : pc - m < v.length := by have := HB.out; omega
    have hpm : m ≤ pc := by omega
    have hpu : (p ++ u).length = m := by have := HA.out; have := HM.out; simp; omega
    have cx := HIr.out c u[c - a] (by have h := get_in (p := p) (v := u) (r := v ++ r) (i := c) (by have := HA.out; omega) (by rw [HA.out]; exact hcu); rw [List.append_assoc (p ++ u), h]; simp only [HA.out])
    have cy := HIr.out pc v[pc - m] (by have h := get_in (p := p ++ u) (v := v) (r := r) (i := pc) (by omega) (by rw [hpu]; exact hpv); rw [h]; simp only [hpu])
    have hxr := HR.out u[c - a] (by simp)
    have hyr := HR.out v[pc - m] (by simp)
    have gx : u.getD (c - a) 0 = u[c - a] := by rw [List.getD_eq_getElem?_getD, List.getElem?_eq_getElem hcu]; rfl
    have gy : v.getD (mid - 1 - c) 0 = v[pc - m] := by rw [show mid - 1 - c = pc - m from by omega, List.getD_eq_getElem?_getD, List.getElem?_eq_getElem hpv]; rfl
    have HCALL : Hid (∀ n, Calls Tryz.prog 166 #[.map (some bm), .int .i64 v[pc - m], .int .i64 u[c - a]] (wr.drewN n) fun e w' => e = .returned (.int .i64 (cmpInt (Tm.classOf lns v[pc - m]) (Tm.classOf lns u[c - a]))) ∧ w' = wr.drewN n) := fun n => HCr.out.call hyr hxr n
    have HGX := hide gx
    have HGY := hide gy
    clear gx gy
    generalize u[c - a] = x at *
    generalize v[pc - m] = y at *
    obtain ⟨cy, fy⟩ := cy
    obtain ⟨cx, fx⟩ := cx
    have i1 : (c : Int) < (N : Int) := by omega
    have i2 : (pc : Int) < (N : Int) := by omega
    obtain ⟨q, hq⟩ : ∃ q, decide (cmpInt (Tm.classOf lns y) (Tm.classOf lns x) < 0) = q := ⟨_, rfl⟩
    have hq' : decide (Tm.classOf lns y < Tm.classOf lns x) = q := by rw [← hq, cmpInt_neg]
    generalize cmpInt (Tm.classOf lns y) (Tm.classOf lns x) = cv at *
    clear hce hpu
    cases q
    ·have hle2 : Tm.classOf lns x ≤ Tm.classOf lns y := by simpa using hq'
     have HL2 : Hid (Tm.classOf lns (u.getD (c + 1 - 1 - a) 0) ≤ Tm.classOf lns (v.getD (mid - (c + 1)) 0)) := by
      unfold Hid; rw [show c + 1 - 1 - a = c - a from by omega, show mid - (c + 1) = mid - 1 - c from by omega, HGX.out, HGY.out]; exact hle2
     clear hq' hle2
     go_quiet (first | (go_at_call 166; exact Calls.quiet_of_same (HCALL.out _)))
     go_wp2
     go_roundw
     case rel => exact ⟨c + 1, re, by go_num, rfl, by omega, by omega, hrr, .inr HL2.out, HHI.out, HIr.out, HT.out.drewN _⟩
     case measure => simp [intOf]; omega
    ·have hle2 : Tm.classOf lns y < Tm.classOf lns x := by simpa using hq'
     have HH2 : Hid (Tm.classOf lns (v.getD (mid - 1 - c) 0) < Tm.classOf lns (u.getD (c - a) 0)) := by unfold Hid; rw [HGX.out, HGY.out]; exact hle2
     clear hq' hle2
     go_quiet (first | (go_at_call 166; exact Calls.quiet_of_same (HCALL.out _)))
     go_wp2
     go_roundw
     case rel => exact ⟨st, c, rfl, rfl, hst0, hc1, by omega, HLO.out, .inr HH2.out, HIr.out, HT.out.drewN _⟩
     case measure => simp [intOf]; omega
   ·have hsre : st = re := by omega
    subst hsre
    have hd : decide ((st : Int) < (st : Int)) = false := by simp
    obtain ⟨en, hen⟩ : ∃ en : Nat, (mid : Int) + (m : Int) - (st : Int) = (en : Int) := ⟨mid + m - st, by omega⟩
    have hae : a ≤ st := by omega
    have hsm : st ≤ m := by omega
    have hsd : st ≤ mid := by omega
    have hme : m ≤ en := by omega
    have heb : en ≤ b := by omega
    have hde : mid ≤ en := by omega
    have hul : st - a ≤ u.length := by have := HM.out; omega
    have hvl : en - m ≤ v.length := by have := HB.out; omega
    have hspl := Tm.Up.split (T := st - a) (E := en - m) HUP.out HVP.out (fun q1 q2 _ => by
      rcases HHI.out with e | e
      ·exact absurd e ((HEA.out st hst0 hrr).1 (by have := HM.out; omega) (by omega))
      ·rw [show en - m - 1 = mid - 1 - st from by omega]; exact e) (fun q1 _ q3 => by
      rcases HLO.out with e | e
      ·exact absurd e ((HEA.out st hst0 hrr).2 (by omega) (by have := HB.out; omega))
      ·rw [show st - a - 1 = st - 1 - a from by omega, show en - m = mid - st from by omega]; exact e) hul hvl
    obtain ⟨u1, u2, hu12, hl1⟩ : ∃ u1 u2, u = u1 ++ u2 ∧ u1.length = st - a := ⟨u.take (st - a), u.drop (st - a), by rw [List.take_append_drop], by simp <;> omega⟩
    obtain ⟨v1, v2, hv12, hl2⟩ : ∃ v1 v2, v = v1 ++ v2 ∧ v1.length = en - m := ⟨v.take (en - m), v.drop (en - m), by rw [List.take_append_drop], by simp <;> omega⟩
    have e1 : u.take (st - a) = u1 := by rw [hu12, ← hl1]; simp
    have e2 : u.drop (st - a) = u2 := by rw [hu12, ← hl1]; simp
    have e3 : v.take (en - m) = v1 := by rw [hv12, ← hl2]; simp
    have e4 : v.drop (en - m) = v2 := by rw [hv12, ← hl2]; simp
    rw [e1, e2, e3, e4] at hspl
    have HSPL := hide hspl
    have HU12 := hide hu12
    have HV12 := hide hv12
    have HL1 := hide hl1
    have HL2 := hide hl2
    have HL3 : Hid (u2.length = m - st) := by have h := congrArg List.length hu12; have := HM.out; simp at h; unfold Hid; omega
    have HL4 : Hid (v2.length = b - en) := by have h := congrArg List.length hv12; have := HB.out; simp at h; unfold Hid; omega
    have HUP1 : Hid (Tm.Up (Tm.classOf lns) (u1 ++ u2)) := by unfold Hid; rw [← hu12]; exact HUP.out
    have HVP1 : Hid (Tm.Up (Tm.classOf lns) (v1 ++ v2)) := by unfold Hid; rw [← hv12]; exact HVP.out
    have HI0 : Hid (Ints wr g off ((p ++ u1) ++ u2 ++ v1 ++ (v2 ++ r))) := by have h := HIr.out; rw [hu12, hv12] at h; unfold Hid; simpa [List.append_assoc] using h
    have HRU : Hid (∀ z ∈ u1 ++ v1, 0 ≤ z ∧ z ≤ 1114111) := fun z hz => HR.out z (by rw [hu12, hv12]; simp at hz ⊢; rcases hz with h | h <;> simp [h])
    have HRV : Hid (∀ z ∈ u2 ++ v2, 0 ≤ z ∧ z ≤ 1114111) := fun z hz => HR.out z (by rw [hu12, hv12]; simp at hz ⊢; rcases hz with h | h <;> simp [h])
    have HGOAL : Hid (∀ l s : List Int, Tm.Sorts (Tm.classOf lns) (u1 ++ v1) l → Tm.Sorts (Tm.classOf lns) (u2 ++ v2) s → Tm.Sorts (Tm.classOf lns) (u ++ v) (l ++ s)) := fun l s h1 h2 => by rw [hu12, hv12]; exact Tm.Sorts.merge h1 h2 HUP1.out HVP1.out hspl.1 hspl.2
    clear hspl hu12 hv12 hl1 hl2 e1 e2 e3 e4
    by_cases hrot : st < m ∧ m < en
    ·have g1 : decide ((st : Int) < (m : Int)) = true := by simp <;> omega
     have g2 : decide ((m : Int) < (en : Int)) = true := by simp <;> omega
     go_wp2_with fail
     refine (rotate_at (p ++ u1) u2 v1 (v2 ++ r) g off N cap _ wr (by have := HA.out; have := HL1.out; simp; omega) (by have := HA.out; have := HL1.out; have := HL3.out; simp; omega) (by have := HA.out; have := HL1.out; have := HL3.out; have := HL2.out; simp; omega) (by have := HL3.out; omega) (by have := HL2.out; omega) (by have := HA.out; have := HL1.out; have := HL2.out; have := HL3.out; have := HL4.out; have := HN.out; simp; omega) hcap HI0.out).mono ?_
     rintro e w7 ⟨rfl, hI7, hT7⟩
     have HT7 := hide (HT.out.trans hT7)
     have HI1 : Hid (Ints w7 g off (p ++ u1 ++ v1 ++ u2 ++ (v2 ++ r))) := hI7
     clear hI7 hT7
     by_cases hleft : a < st ∧ st < mid
     ·have j1 : decide ((a : Int) < (st : Int)) = true := by simp <;> omega
      have j2 : decide ((st : Int) < (mid : Int)) = true := by simp <;> omega
      have HCALL2 := hide (HIH.out (mid - a) (by have := HNN.out; omega) p u1 v1 (u2 ++ v2 ++ r) g off N cap w7 (a : Int) (st : Int) (mid : Int) (by have := HL1.out; have := HL2.out; omega) (by have := HA.out; omega) (by have := HA.out; have := HL1.out; omega) (by have := HA.out; have := HL1.out; have := HL2.out; omega) (by have := HL1.out; omega) (by have := HL2.out; omega) (by have := HA.out; have := HL1.out; have := HL2.out; have := HL3.out; have := HL4.out; have := HN.out; simp; omega) hcap HRU.out (Tm.Up.append.1 HUP1.out).1 (Tm.Up.append.1 HVP1.out).1 (by have h := HI1.out; simpa [List.append_assoc] using h) (HC.out.turn HT7.out))
      unfold byClassFn at HCALL2
      go_wp2_with fail
      all_goals
       refine HCALL2.out.mono ?_
       rintro e w8 ⟨rfl, ⟨l, hso8, hI8⟩, hT8⟩
       have HT8 := hide (HT7.out.trans hT8)
       have HIL := hide hI8
       have HSL := hide hso8
       clear hT8 hI8 hso8
       have hlm : (p ++ l).length = mid := by have h := HSL.out.2.length; have := HA.out; have := HL1.out; have := HL2.out; simp at h ⊢; omega
       by_cases hright : mid < en ∧ en < b
       ·have k1 : decide ((mid : Int) < (en : Int)) = true := by simp <;> omega
        have k2 : decide ((en : Int) < (b : Int)) = true := by simp <;> omega
        have HCALL3 := hide (HIH.out (b - mid) (by have := HNN.out; omega) (p ++ l) u2 v2 r g off N cap w8 (mid : Int) (en : Int) (b : Int) (by have := HL3.out; have := HL4.out; omega) (by rw [hlm]) (by rw [hlm]; have := HL3.out; omega) (by rw [hlm]; have := HL3.out; have := HL4.out; omega) (by have := HL3.out; omega) (by have := HL4.out; omega) (by rw [hlm]; have := HL3.out; have := HL4.out; have := HN.out; omega) hcap HRV.out (Tm.Up.append.1 HUP1.out).2.1 (Tm.Up.append.1 HVP1.out).2.1 (by have h := HIL.out; simpa [List.append_assoc] using h) (HC.out.turn HT8.out))
        unfold byClassFn at HCALL3
        clear hlm
        go_wp2_with fail
        all_goals
         refine HCALL3.out.mono ?_
         rintro e w9 ⟨rfl, ⟨s9, hso9, hI9⟩, hT9⟩
         have HT9 := hide (HT8.out.trans hT9)
         have HI9 : Hid (Ints w9 g off (p ++ (l ++ s9) ++ r)) := by unfold Hid; simpa [List.append_assoc] using hI9
         have HSO9 := hide hso9
         clear hT9 hI9 hso9
         go_wp2
         all_goals (first | go_end0 | refine bodyPost_ret (results_none rfl _ _ _) rfl ?_)
         all_goals exact ⟨rfl, ⟨_, HGOAL.out _ _ HSL.out HSO9.out, HI9.out⟩, HT9.out⟩
       ·have HSR : Hid (Tm.Sorts (Tm.classOf lns) (u2 ++ v2) (u2 ++ v2)) := Tm.Sorts.of_up (by
         by_cases hz : u2 = []
         ·rw [hz]; simpa using (Tm.Up.append.1 HVP1.out).2.1
         ·have hz2 : v2 = [] := List.eq_nil_of_length_eq_zero (by have h3 := HL3.out; have h4 := HL4.out; have h5 : 0 < u2.length := List.length_pos_iff.2 hz; omega)
          rw [hz2]; simpa using (Tm.Up.append.1 HUP1.out).2.1)
        have HI9 : Hid (Ints w8 g off (p ++ (l ++ (u2 ++ v2)) ++ r)) := by have h := HIL.out; unfold Hid; simpa [List.append_assoc] using h
        clear hlm
        by_cases hme2 : mid < en
        ·have k1 : decide ((mid : Int) < (en : Int)) = true := by simp <;> omega
         have k2 : decide ((en : Int) < (b : Int)) = false := by simp <;> omega
         go_wp2
         all_goals (first | go_end0 | refine bodyPost_ret (results_none rfl _ _ _) rfl ?_)
         all_goals exact ⟨rfl, ⟨_, HGOAL.out _ _ HSL.out HSR.out, HI9.out⟩, HT8.out⟩
        ·have k1 : decide ((mid : Int) < (en : Int)) = false := by simp <;> omega
         go_wp2
         all_goals (first | go_end0 | refine bodyPost_ret (results_none rfl _ _ _) rfl ?_)
         all_goals exact ⟨rfl, ⟨_, HGOAL.out _ _ HSL.out HSR.out, HI9.out⟩, HT8.out⟩
     ·have HSL : Hid (Tm.Sorts (Tm.classOf lns) (u1 ++ v1) (u1 ++ v1)) := Tm.Sorts.of_up (by
       by_cases hz : u1 = []
       ·rw [hz]; simpa using (Tm.Up.append.1 HVP1.out).1
       ·have hz2 : v1 = [] := List.eq_nil_of_length_eq_zero (by have h3 := HL1.out; have h4 := HL2.out; have h5 : 0 < u1.length := List.length_pos_iff.2 hz; omega)
        rw [hz2]; simpa using (Tm.Up.append.1 HUP1.out).1)
      have HIL : Hid (Ints w7 g off (p ++ (u1 ++ v1) ++ (u2 ++ v2 ++ r))) := by have h := HI1.out; unfold Hid; simpa [List.append_assoc] using h
      have hj : decide ((a : Int) < (st : Int)) = false ∨ (decide ((a : Int) < (st : Int)) = true ∧ decide ((st : Int) < (mid : Int)) = false) := by
       by_cases h : a < st
       ·right; exact ⟨by simp <;> omega, by simp <;> omega⟩
       ·left; simp; omega
      rcases hj with j1 | ⟨j1, j2⟩
      ·have hlm : (p ++ (u1 ++ v1)).length = mid := by have h := HSL.out.2.length; have := HA.out; have := HL1.out; have := HL2.out; simp at h ⊢; omega
       by_cases hright : mid < en ∧ en < b
       ·have k1 : decide ((mid : Int) < (en : Int)) = true := by simp <;> omega
        have k2 : decide ((en : Int) < (b : Int)) = true := by simp <;> omega
        have HCALL3 := hide (HIH.out (b - mid) (by have := HNN.out; omega) (p ++ (u1 ++ v1)) u2 v2 r g off N cap w7 (mid : Int) (en : Int) (b : Int) (by have := HL3.out; have := HL4.out; omega) (by rw [hlm]) (by rw [hlm]; have := HL3.out; omega) (by rw [hlm]; have := HL3.out; have := HL4.out; omega) (by have := HL3.out; omega) (by have := HL4.out; omega) (by rw [hlm]; have := HL3.out; have := HL4.out; have := HN.out; omega) hcap HRV.out (Tm.Up.append.1 HUP1.out).2.1 (Tm.Up.append.1 HVP1.out).2.1 (by have h := HIL.out; simpa [List.append_assoc] using h) (HC.out.turn HT7.out))
        unfold byClassFn at HCALL3
        clear hlm
        go_wp2_with fail
        all_goals
         refine HCALL3.out.mono ?_
         rintro e w9 ⟨rfl, ⟨s9, hso9, hI9⟩, hT9⟩
         have HT9 := hide (HT7.out.trans hT9)
         have HI9 : Hid (Ints w9 g off (p ++ ((u1 ++ v1) ++ s9) ++ r)) := by unfold Hid; simpa [List.append_assoc] using hI9
         have HSO9 := hide hso9
         clear hT9 hI9 hso9
         go_wp2
         all_goals (first | go_end0 | refine bodyPost_ret (results_none rfl _ _ _) rfl ?_)
         all_goals exact ⟨rfl, ⟨_, HGOAL.out _ _ HSL.out HSO9.out, HI9.out⟩, HT9.out⟩
       ·have HSR : Hid (Tm.Sorts (Tm.classOf lns) (u2 ++ v2) (u2 ++ v2)) := Tm.Sorts.of_up (by
         by_cases hz : u2 = []
         ·rw [hz]; simpa using (Tm.Up.append.1 HVP1.out).2.1
         ·have hz2 : v2 = [] := List.eq_nil_of_length_eq_zero (by have h3 := HL3.out; have h4 := HL4.out; have h5 : 0 < u2.length := List.length_pos_iff.2 hz; omega)
          rw [hz2]; simpa using (Tm.Up.append.1 HUP1.out).2.1)
        have HI9 : Hid (Ints w7 g off (p ++ ((u1 ++ v1) ++ (u2 ++ v2)) ++ r)) := by have h := HIL.out; unfold Hid; simpa [List.append_assoc] using h
        clear hlm
        by_cases hme2 : mid < en
        ·have k1 : decide ((mid : Int) < (en : Int)) = true := by simp <;> omega
         have k2 : decide ((en : Int) < (b : Int)) = false := by simp <;> omega
         go_wp2
         all_goals (first | go_end0 | refine bodyPost_ret (results_none rfl _ _ _) rfl ?_)
         all_goals exact ⟨rfl, ⟨_, HGOAL.out _ _ HSL.out HSR.out, HI9.out⟩, HT7.out⟩
        ·have k1 : decide ((mid : Int) < (en : Int)) = false := by simp <;> omega
         go_wp2
         all_goals (first | go_end0 | refine bodyPost_ret (results_none rfl _ _ _) rfl ?_)
         all_goals exact ⟨rfl, ⟨_, HGOAL.out _ _ HSL.out HSR.out, HI9.out⟩, HT7.out⟩
      ·have hlm : (p ++ (u1 ++ v1)).length = mid := by have h := HSL.out.2.length; have := HA.out; have := HL1.out; have := HL2.out; simp at h ⊢; omega
       by_cases hright : mid < en ∧ en < b
       ·have k1 : decide ((mid : Int) < (en : Int)) = true := by simp <;> omega
        have k2 : decide ((en : Int) < (b : Int)) = true := by simp <;> omega
        have HCALL3 := hide (HIH.out (b - mid) (by have := HNN.out; omega) (p ++ (u1 ++ v1)) u2 v2 r g off N cap w7 (mid : Int) (en : Int) (b : Int) (by have := HL3.out; have := HL4.out; omega) (by rw [hlm]) (by rw [hlm]; have := HL3.out; omega) (by rw [hlm]; have := HL3.out; have := HL4.out; omega) (by have := HL3.out; omega) (by have := HL4.out; omega) (by rw [hlm]; have := HL3.out; have := HL4.out; have := HN.out; omega) hcap HRV.out (Tm.Up.append.1 HUP1.out).2.1 (Tm.Up.append.1 HVP1.out).2.1 (by have h := HIL.out; simpa [List.append_assoc] using h) (HC.out.turn HT7.out))
        unfold byClassFn at HCALL3
        clear hlm
        go_wp2_with fail
        all_goals
         refine HCALL3.out.mono ?_
         rintro e w9 ⟨rfl, ⟨s9, hso9, hI9⟩, hT9⟩
         have HT9 := hide (HT7.out.trans hT9)
         have HI9 : Hid (Ints w9 g off (p ++ ((u1 ++ v1) ++ s9) ++ r)) := by unfold Hid; simpa [List.append_assoc] using hI9
         have HSO9 := hide hso9
         clear hT9 hI9 hso9
         go_wp2
         all_goals (first | go_end0 | refine bodyPost_ret (results_none rfl _ _ _) rfl ?_)
         all_goals exact ⟨rfl, ⟨_, HGOAL.out _ _ HSL.out HSO9.out, HI9.out⟩, HT9.out⟩
       ·have HSR : Hid (Tm.Sorts (Tm.classOf lns) (u2 ++ v2) (u2 ++ v2)) := Tm.Sorts.of_up (by
         by_cases hz : u2 = []
         ·rw [hz]; simpa using (Tm.Up.append.1 HVP1.out).2.1
         ·have hz2 : v2 = [] := List.eq_nil_of_length_eq_zero (by have h3 := HL3.out; have h4 := HL4.out; have h5 : 0 < u2.length := List.length_pos_iff.2 hz; omega)
          rw [hz2]; simpa using (Tm.Up.append.1 HUP1.out).2.1)
        have HI9 : Hid (Ints w7 g off (p ++ ((u1 ++ v1) ++ (u2 ++ v2)) ++ r)) := by have h := HIL.out; unfold Hid; simpa [List.append_assoc] using h
        clear hlm
        by_cases hme2 : mid < en
        ·have k1 : decide ((mid : Int) < (en : Int)) = true := by simp <;> omega
         have k2 : decide ((en : Int) < (b : Int)) = false := by simp <;> omega
         go_wp2
         all_goals (first | go_end0 | refine bodyPost_ret (results_none rfl _ _ _) rfl ?_)
         all_goals exact ⟨rfl, ⟨_, HGOAL.out _ _ HSL.out HSR.out, HI9.out⟩, HT7.out⟩
        ·have k1 : decide ((mid : Int) < (en : Int)) = false := by simp <;> omega
         go_wp2
         all_goals (first | go_end0 | refine bodyPost_ret (results_none rfl _ _ _) rfl ?_)
         all_goals exact ⟨rfl, ⟨_, HGOAL.out _ _ HSL.out HSR.out, HI9.out⟩, HT7.out⟩
    ·have HI1 : Hid (Ints wr g off (p ++ u1 ++ v1 ++ u2 ++ (v2 ++ r))) := by
      have h := HI0.out
      unfold Hid
      by_cases hz : u2 = []
      ·rw [hz] at h ⊢; simpa [List.append_assoc] using h
      ·have hz2 : v1 = [] := List.eq_nil_of_length_eq_zero (by have h3 := HL3.out; have h4 := HL2.out; have h5 : 0 < u2.length := List.length_pos_iff.2 hz; omega)
       rw [hz2] at h ⊢; simpa [List.append_assoc] using h
     have hg : decide ((st : Int) < (m : Int)) = false ∨ (decide ((st : Int) < (m : Int)) = true ∧ decide ((m : Int) < (en : Int)) = false) := by
      by_cases h : st < m
      ·right; exact ⟨by simp <;> omega, by simp <;> omega⟩
      ·left; simp; omega
     rcases hg with g1 | ⟨g1, g2⟩
     ·by_cases hleft : a < st ∧ st < mid
      ·have j1 : decide ((a : Int) < (st : Int)) = true := by simp <;> omega
       have j2 : decide ((st : Int) < (mid : Int)) = true := by simp <;> omega
       have HCALL2 := hide (HIH.out (mid - a) (by have := HNN.out; omega) p u1 v1 (u2 ++ v2 ++ r) g off N cap wr (a : Int) (st : Int) (mid : Int) (by have := HL1.out; have := HL2.out; omega) (by have := HA.out; omega) (by have := HA.out; have := HL1.out; omega) (by have := HA.out; have := HL1.out; have := HL2.out; omega) (by have := HL1.out; omega) (by have := HL2.out; omega) (by have := HA.out; have := HL1.out; have := HL2.out; have := HL3.out; have := HL4.out; have := HN.out; simp; omega) hcap HRU.out (Tm.Up.append.1 HUP1.out).1 (Tm.Up.append.1 HVP1.out).1 (by have h := HI1.out; simpa [List.append_assoc] using h) (HC.out.turn HT.out))
       unfold byClassFn at HCALL2
       go_wp2_with fail
       all_goals
        refine HCALL2.out.mono ?_
        rintro e w8 ⟨rfl, ⟨l, hso8, hI8⟩, hT8⟩
        have HT8 := hide (HT.out.trans hT8)
        have HIL := hide hI8
        have HSL := hide hso8
        clear hT8 hI8 hso8
        have hlm : (p ++ l).length = mid := by have h := HSL.out.2.length; have := HA.out; have := HL1.out; have := HL2.out; simp at h ⊢; omega
        by_cases hright : mid < en ∧ en < b
        ·have k1 : decide ((mid : Int) < (en : Int)) = true := by simp <;> omega
         have k2 : decide ((en : Int) < (b : Int)) = true := by simp <;> omega
         have HCALL3 := hide (HIH.out (b - mid) (by have := HNN.out; omega) (p ++ l) u2 v2 r g off N cap w8 (mid : Int) (en : Int) (b : Int) (by have := HL3.out; have := HL4.out; omega) (by rw [hlm]) (by rw [hlm]; have := HL3.out; omega) (by rw [hlm]; have := HL3.out; have := HL4.out; omega) (by have := HL3.out; omega) (by have := HL4.out; omega) (by rw [hlm]; have := HL3.out; have := HL4.out; have := HN.out; omega) hcap HRV.out (Tm.Up.append.1 HUP1.out).2.1 (Tm.Up.append.1 HVP1.out).2.1 (by have h := HIL.out; simpa [List.append_assoc] using h) (HC.out.turn HT8.out))
         unfold byClassFn at HCALL3
         clear hlm
         go_wp2_with fail
         all_goals
          refine HCALL3.out.mono ?_
          rintro e w9 ⟨rfl, ⟨s9, hso9, hI9⟩, hT9⟩
          have HT9 := hide (HT8.out.trans hT9)
          have HI9 : Hid (Ints w9 g off (p ++ (l ++ s9) ++ r)) := by unfold Hid; simpa [List.append_assoc] using hI9
          have HSO9 := hide hso9
          clear hT9 hI9 hso9
          go_wp2
          all_goals (first | go_end0 | refine bodyPost_ret (results_none rfl _ _ _) rfl ?_)
          all_goals exact ⟨rfl, ⟨_, HGOAL.out _ _ HSL.out HSO9.out, HI9.out⟩, HT9.out⟩
        ·have HSR : Hid (Tm.Sorts (Tm.classOf lns) (u2 ++ v2) (u2 ++ v2)) := Tm.Sorts.of_up (by
          by_cases hz : u2 = []
          ·rw [hz]; simpa using (Tm.Up.append.1 HVP1.out).2.1
          ·have hz2 : v2 = [] := List.eq_nil_of_length_eq_zero (by have h3 := HL3.out; have h4 := HL4.out; have h5 : 0 < u2.length := List.length_pos_iff.2 hz; omega)
           rw [hz2]; simpa using (Tm.Up.append.1 HUP1.out).2.1)
         have HI9 : Hid (Ints w8 g off (p ++ (l ++ (u2 ++ v2)) ++ r)) := by have h := HIL.out; unfold Hid; simpa [List.append_assoc] using h
         clear hlm
         by_cases hme2 : mid < en
         ·have k1 : decide ((mid : Int) < (en : Int)) = true := by simp <;> omega
          have k2 : decide ((en : Int) < (b : Int)) = false := by simp <;> omega
          go_wp2
          all_goals (first | go_end0 | refine bodyPost_ret (results_none rfl _ _ _) rfl ?_)
          all_goals exact ⟨rfl, ⟨_, HGOAL.out _ _ HSL.out HSR.out, HI9.out⟩, HT8.out⟩
         ·have k1 : decide ((mid : Int) < (en : Int)) = false := by simp <;> omega
          go_wp2
          all_goals (first | go_end0 | refine bodyPost_ret (results_none rfl _ _ _) rfl ?_)
          all_goals exact ⟨rfl, ⟨_, HGOAL.out _ _ HSL.out HSR.out, HI9.out⟩, HT8.out⟩
      ·have HSL : Hid (Tm.Sorts (Tm.classOf lns) (u1 ++ v1) (u1 ++ v1)) := Tm.Sorts.of_up (by
        by_cases hz : u1 = []
        ·rw [hz]; simpa using (Tm.Up.append.1 HVP1.out).1
        ·have hz2 : v1 = [] := List.eq_nil_of_length_eq_zero (by have h3 := HL1.out; have h4 := HL2.out; have h5 : 0 < u1.length := List.length_pos_iff.2 hz; omega)
         rw [hz2]; simpa using (Tm.Up.append.1 HUP1.out).1)
       have HIL : Hid (Ints wr g off (p ++ (u1 ++ v1) ++ (u2 ++ v2 ++ r))) := by have h := HI1.out; unfold Hid; simpa [List.append_assoc] using h
       have hj : decide ((a : Int) < (st : Int)) = false ∨ (decide ((a : Int) < (st : Int)) = true ∧ decide ((st : Int) < (mid : Int)) = false) := by
        by_cases h : a < st
        ·right; exact ⟨by simp <;> omega, by simp <;> omega⟩
        ·left; simp; omega
       rcases hj with j1 | ⟨j1, j2⟩
       ·have hlm : (p ++ (u1 ++ v1)).length = mid := by have h := HSL.out.2.length; have := HA.out; have := HL1.out; have := HL2.out; simp at h ⊢; omega
        by_cases hright : mid < en ∧ en < b
        ·have k1 : decide ((mid : Int) < (en : Int)) = true := by simp <;> omega
         have k2 : decide ((en : Int) < (b : Int)) = true := by simp <;> omega
         have HCALL3 := hide (HIH.out (b - mid) (by have := HNN.out; omega) (p ++ (u1 ++ v1)) u2 v2 r g off N cap wr (mid : Int) (en : Int) (b : Int) (by have := HL3.out; have := HL4.out; omega) (by rw [hlm]) (by rw [hlm]; have := HL3.out; omega) (by rw [hlm]; have := HL3.out; have := HL4.out; omega) (by have := HL3.out; omega) (by have := HL4.out; omega) (by rw [hlm]; have := HL3.out; have := HL4.out; have := HN.out; omega) hcap HRV.out (Tm.Up.append.1 HUP1.out).2.1 (Tm.Up.append.1 HVP1.out).2.1 (by have h := HIL.out; simpa [List.append_assoc] using h) (HC.out.turn HT.out))
         unfold byClassFn at HCALL3
         clear hlm
         go_wp2_with fail
         all_goals
          refine HCALL3.out.mono ?_
          rintro e w9 ⟨rfl, ⟨s9, hso9, hI9⟩, hT9⟩
          have HT9 := hide (HT.out.trans hT9)
          have HI9 : Hid (Ints w9 g off (p ++ ((u1 ++ v1) ++ s9) ++ r)) := by unfold Hid; simpa [List.append_assoc] using hI9
          have HSO9 := hide hso9
          clear hT9 hI9 hso9
          go_wp2
          all_goals (first | go_end0 | refine bodyPost_ret (results_none rfl _ _ _) rfl ?_)
          all_goals exact ⟨rfl, ⟨_, HGOAL.out _ _ HSL.out HSO9.out, HI9.out⟩, HT9.out⟩
        ·have HSR : Hid (Tm.Sorts (Tm.classOf lns) (u2 ++ v2) (u2 ++ v2)) := Tm.Sorts.of_up (by
          by_cases hz : u2 = []
          ·rw [hz]; simpa using (Tm.Up.append.1 HVP1.out).2.1
          ·have hz2 : v2 = [] := List.eq_nil_of_length_eq_zero (by have h3 := HL3.out; have h4 := HL4.out; have h5 : 0 < u2.length := List.length_pos_iff.2 hz; omega)
           rw [hz2]; simpa using (Tm.Up.append.1 HUP1.out).2.1)
         have HI9 : Hid (Ints wr g off (p ++ ((u1 ++ v1) ++ (u2 ++ v2)) ++ r)) := by have h := HIL.out; unfold Hid; simpa [List.append_assoc] using h
         clear hlm
         by_cases hme2 : mid < en
         ·have k1 : decide ((mid : Int) < (en : Int)) = true := by simp <;> omega
          have k2 : decide ((en : Int) < (b : Int)) = false := by simp <;> omega
          go_wp2
          all_goals (first | go_end0 | refine bodyPost_ret (results_none rfl _ _ _) rfl ?_)
          all_goals exact ⟨rfl, ⟨_, HGOAL.out _ _ HSL.out HSR.out, HI9.out⟩, HT.out⟩
         ·have k1 : decide ((mid : Int) < (en : Int)) = false := by simp <;> omega
          go_wp2
          all_goals (first | go_end0 | refine bodyPost_ret (results_none rfl _ _ _) rfl ?_)
          all_goals exact ⟨rfl, ⟨_, HGOAL.out _ _ HSL.out HSR.out, HI9.out⟩, HT.out⟩
       ·have hlm : (p ++ (u1 ++ v1)).length = mid := by have h := HSL.out.2.length; have := HA.out; have := HL1.out; have := HL2.out; simp at h ⊢; omega
        by_cases hright : mid < en ∧ en < b
        ·have k1 : decide ((mid : Int) < (en : Int)) = true := by simp <;> omega
         have k2 : decide ((en : Int) < (b : Int)) = true := by simp <;> omega
         have HCALL3 := hide (HIH.out (b - mid) (by have := HNN.out; omega) (p ++ (u1 ++ v1)) u2 v2 r g off N cap wr (mid : Int) (en : Int) (b : Int) (by have := HL3.out; have := HL4.out; omega) (by rw [hlm]) (by rw [hlm]; have := HL3.out; omega) (by rw [hlm]; have := HL3.out; have := HL4.out; omega) (by have := HL3.out; omega) (by have := HL4.out; omega) (by rw [hlm]; have := HL3.out; have := HL4.out; have := HN.out; omega) hcap HRV.out (Tm.Up.append.1 HUP1.out).2.1 (Tm.Up.append.1 HVP1.out).2.1 (by have h := HIL.out; simpa [List.append_assoc] using h) (HC.out.turn HT.out))
         unfold byClassFn at HCALL3
         clear hlm
         go_wp2_with fail
         all_goals
          refine HCALL3.out.mono ?_
          rintro e w9 ⟨rfl, ⟨s9, hso9, hI9⟩, hT9⟩
          have HT9 := hide (HT.out.trans hT9)
          have HI9 : Hid (Ints w9 g off (p ++ ((u1 ++ v1) ++ s9) ++ r)) := by unfold Hid; simpa [List.append_assoc] using hI9
          have HSO9 := hide hso9
          clear hT9 hI9 hso9
          go_wp2
          all_goals (first | go_end0 | refine bodyPost_ret (results_none rfl _ _ _) rfl ?_)
          all_goals exact ⟨rfl, ⟨_, HGOAL.out _ _ HSL.out HSO9.out, HI9.out⟩, HT9.out⟩
        ·have HSR : Hid (Tm.Sorts (Tm.classOf lns) (u2 ++ v2) (u2 ++ v2)) := Tm.Sorts.of_up (by
          by_cases hz : u2 = []
          ·rw [hz]; simpa using (Tm.Up.append.1 HVP1.out).2.1
          ·have hz2 : v2 = [] := List.eq_nil_of_length_eq_zero (by have h3 := HL3.out; have h4 := HL4.out; have h5 : 0 < u2.length := List.length_pos_iff.2 hz; omega)
           rw [hz2]; simpa using (Tm.Up.append.1 HUP1.out).2.1)
         have HI9 : Hid (Ints wr g off (p ++ ((u1 ++ v1) ++ (u2 ++ v2)) ++ r)) := by have h := HIL.out; unfold Hid; simpa [List.append_assoc] using h
         clear hlm
         by_cases hme2 : mid < en
         ·have k1 : decide ((mid : Int) < (en : Int)) = true := by simp <;> omega
          have k2 : decide ((en : Int) < (b : Int)) = false := by simp <;> omega
          go_wp2
          all_goals (first | go_end0 | refine bodyPost_ret (results_none rfl _ _ _) rfl ?_)
          all_goals exact ⟨rfl, ⟨_, HGOAL.out _ _ HSL.out HSR.out, HI9.out⟩, HT.out⟩
         ·have k1 : decide ((mid : Int) < (en : Int)) = false := by simp <;> omega
          go_wp2
          all_goals (first | go_end0 | refine bodyPost_ret (results_none rfl _ _ _) rfl ?_)
          all_goals exact ⟨rfl, ⟨_, HGOAL.out _ _ HSL.out HSR.out, HI9.out⟩, HT.out⟩
     ·by_cases hleft : a < st ∧ st < mid
      ·have j1 : decide ((a : Int) < (st : Int)) = true := by simp <;> omega
       have j2 : decide ((st : Int) < (mid : Int)) = true := by simp <;> omega
       have HCALL2 := hide (HIH.out (mid - a) (by have := HNN.out; omega) p u1 v1 (u2 ++ v2 ++ r) g off N cap wr (a : Int) (st : Int) (mid : Int) (by have := HL1.out; have := HL2.out; omega) (by have := HA.out; omega) (by have := HA.out; have := HL1.out; omega) (by have := HA.out; have := HL1.out; have := HL2.out; omega) (by have := HL1.out; omega) (by have := HL2.out; omega) (by have := HA.out; have := HL1.out; have := HL2.out; have := HL3.out; have := HL4.out; have := HN.out; simp; omega) hcap HRU.out (Tm.Up.append.1 HUP1.out).1 (Tm.Up.append.1 HVP1.out).1 (by have h := HI1.out; simpa [List.append_assoc] using h) (HC.out.turn HT.out))
       unfold byClassFn at HCALL2
       go_wp2_with fail
       all_goals
        refine HCALL2.out.mono ?_
        rintro e w8 ⟨rfl, ⟨l, hso8, hI8⟩, hT8⟩
        have HT8 := hide (HT.out.trans hT8)
        have HIL := hide hI8
        have HSL := hide hso8
        clear hT8 hI8 hso8
        have hlm : (p ++ l).length = mid := by have h := HSL.out.2.length; have := HA.out; have := HL1.out; have := HL2.out; simp at h ⊢; omega
        by_cases hright : mid < en ∧ en < b
        ·have k1 : decide ((mid : Int) < (en : Int)) = true := by simp <;> omega
         have k2 : decide ((en : Int) < (b : Int)) = true := by simp <;> omega
         have HCALL3 := hide (HIH.out (b - mid) (by have := HNN.out; omega) (p ++ l) u2 v2 r g off N cap w8 (mid : Int) (en : Int) (b : Int) (by have := HL3.out; have := HL4.out; omega) (by rw [hlm]) (by rw [hlm]; have := HL3.out; omega) (by rw [hlm]; have := HL3.out; have := HL4.out; omega) (by have := HL3.out; omega) (by have := HL4.out; omega) (by rw [hlm]; have := HL3.out; have := HL4.out; have := HN.out; omega) hcap HRV.out (Tm.Up.append.1 HUP1.out).2.1 (Tm.Up.append.1 HVP1.out).2.1 (by have h := HIL.out; simpa [List.append_assoc] using h) (HC.out.turn HT8.out))
         unfold byClassFn at HCALL3
         clear hlm
         go_wp2_with fail
         all_goals
          refine HCALL3.out.mono ?_
          rintro e w9 ⟨rfl, ⟨s9, hso9, hI9⟩, hT9⟩
          have HT9 := hide (HT8.out.trans hT9)
          have HI9 : Hid (Ints w9 g off (p ++ (l ++ s9) ++ r)) := by unfold Hid; simpa [List.append_assoc] using hI9
          have HSO9 := hide hso9
          clear hT9 hI9 hso9
          go_wp2
          all_goals (first | go_end0 | refine bodyPost_ret (results_none rfl _ _ _) rfl ?_)
          all_goals exact ⟨rfl, ⟨_, HGOAL.out _ _ HSL.out HSO9.out, HI9.out⟩, HT9.out⟩
        ·have HSR : Hid (Tm.Sorts (Tm.classOf lns) (u2 ++ v2) (u2 ++ v2)) := Tm.Sorts.of_up (by
          by_cases hz : u2 = []
          ·rw [hz]; simpa using (Tm.Up.append.1 HVP1.out).2.1
          ·have hz2 : v2 = [] := List.eq_nil_of_length_eq_zero (by have h3 := HL3.out; have h4 := HL4.out; have h5 : 0 < u2.length := List.length_pos_iff.2 hz; omega)
           rw [hz2]; simpa using (Tm.Up.append.1 HUP1.out).2.1)
         have HI9 : Hid (Ints w8 g off (p ++ (l ++ (u2 ++ v2)) ++ r)) := by have h := HIL.out; unfold Hid; simpa [List.append_assoc] using h
         clear hlm
         by_cases hme2 : mid < en
         ·have k1 : decide ((mid : Int) < (en : Int)) = true := by simp <;> omega
          have k2 : decide ((en : Int) < (b : Int)) = false := by simp <;> omega
          go_wp2
          all_goals (first | go_end0 | refine bodyPost_ret (results_none rfl _ _ _) rfl ?_)
          all_goals exact ⟨rfl, ⟨_, HGOAL.out _ _ HSL.out HSR.out, HI9.out⟩, HT8.out⟩
         ·have k1 : decide ((mid : Int) < (en : Int)) = false := by simp <;> omega
          go_wp2
          all_goals (first | go_end0 | refine bodyPost_ret (results_none rfl _ _ _) rfl ?_)
          all_goals exact ⟨rfl, ⟨_, HGOAL.out _ _ HSL.out HSR.out, HI9.out⟩, HT8.out⟩
      ·have HSL : Hid (Tm.Sorts (Tm.classOf lns) (u1 ++ v1) (u1 ++ v1)) := Tm.Sorts.of_up (by
        by_cases hz : u1 = []
        ·rw [hz]; simpa using (Tm.Up.append.1 HVP1.out).1
        ·have hz2 : v1 = [] := List.eq_nil_of_length_eq_zero (by have h3 := HL1.out; have h4 := HL2.out; have h5 : 0 < u1.length := List.length_pos_iff.2 hz; omega)
         rw [hz2]; simpa using (Tm.Up.append.1 HUP1.out).1)
       have HIL : Hid (Ints wr g off (p ++ (u1 ++ v1) ++ (u2 ++ v2 ++ r))) := by have h := HI1.out; unfold Hid; simpa [List.append_assoc] using h
       have hj : decide ((a : Int) < (st : Int)) = false ∨ (decide ((a : Int) < (st : Int)) = true ∧ decide ((st : Int) < (mid : Int)) = false) := by
        by_cases h : a < st
        ·right; exact ⟨by simp <;> omega, by simp <;> omega⟩
        ·left; simp; omega
       rcases hj with j1 | ⟨j1, j2⟩
       ·have hlm : (p ++ (u1 ++ v1)).length = mid := by have h := HSL.out.2.length; have := HA.out; have := HL1.out; have := HL2.out; simp at h ⊢; omega
        by_cases hright : mid < en ∧ en < b
        ·have k1 : decide ((mid : Int) < (en : Int)) = true := by simp <;> omega
         have k2 : decide ((en : Int) < (b : Int)) = true := by simp <;> omega
         have HCALL3 := hide (HIH.out (b - mid) (by have := HNN.out; omega) (p ++ (u1 ++ v1)) u2 v2 r g off N cap wr (mid : Int) (en : Int) (b : Int) (by have := HL3.out; have := HL4.out; omega) (by rw [hlm]) (by rw [hlm]; have := HL3.out; omega) (by rw [hlm]; have := HL3.out; have := HL4.out; omega) (by have := HL3.out; omega) (by have := HL4.out; omega) (by rw [hlm]; have := HL3.out; have := HL4.out; have := HN.out; omega) hcap HRV.out (Tm.Up.append.1 HUP1.out).2.1 (Tm.Up.append.1 HVP1.out).2.1 (by have h := HIL.out; simpa [List.append_assoc] using h) (HC.out.turn HT.out))
         unfold byClassFn at HCALL3
         clear hlm
         go_wp2_with fail
         all_goals
          refine HCALL3.out.mono ?_
          rintro e w9 ⟨rfl, ⟨s9, hso9, hI9⟩, hT9⟩
          have HT9 := hide (HT.out.trans hT9)
          have HI9 : Hid (Ints w9 g off (p ++ ((u1 ++ v1) ++ s9) ++ r)) := by unfold Hid; simpa [List.append_assoc] using hI9
          have HSO9 := hide hso9
          clear hT9 hI9 hso9
          go_wp2
          all_goals (first | go_end0 | refine bodyPost_ret (results_none rfl _ _ _) rfl ?_)
          all_goals exact ⟨rfl, ⟨_, HGOAL.out _ _ HSL.out HSO9.out, HI9.out⟩, HT9.out⟩
        ·have HSR : Hid (Tm.Sorts (Tm.classOf lns) (u2 ++ v2) (u2 ++ v2)) := Tm.Sorts.of_up (by
          by_cases hz : u2 = []
          ·rw [hz]; simpa using (Tm.Up.append.1 HVP1.out).2.1
          ·have hz2 : v2 = [] := List.eq_nil_of_length_eq_zero (by have h3 := HL3.out; have h4 := HL4.out; have h5 : 0 < u2.length := List.length_pos_iff.2 hz; omega)
           rw [hz2]; simpa using (Tm.Up.append.1 HUP1.out).2.1)
         have HI9 : Hid (Ints wr g off (p ++ ((u1 ++ v1) ++ (u2 ++ v2)) ++ r)) := by have h := HIL.out; unfold Hid; simpa [List.append_assoc] using h
         clear hlm
         by_cases hme2 : mid < en
         ·have k1 : decide ((mid : Int) < (en : Int)) = true := by simp <;> omega
          have k2 : decide ((en : Int) < (b : Int)) = false := by simp <;> omega
          go_wp2
          all_goals (first | go_end0 | refine bodyPost_ret (results_none rfl _ _ _) rfl ?_)
          all_goals exact ⟨rfl, ⟨_, HGOAL.out _ _ HSL.out HSR.out, HI9.out⟩, HT.out⟩
         ·have k1 : decide ((mid : Int) < (en : Int)) = false := by simp <;> omega
          go_wp2
          all_goals (first | go_end0 | refine bodyPost_ret (results_none rfl _ _ _) rfl ?_)
          all_goals exact ⟨rfl, ⟨_, HGOAL.out _ _ HSL.out HSR.out, HI9.out⟩, HT.out⟩
       ·have hlm : (p ++ (u1 ++ v1)).length = mid := by have h := HSL.out.2.length; have := HA.out; have := HL1.out; have := HL2.out; simp at h ⊢; omega
        by_cases hright : mid < en ∧ en < b
        ·have k1 : decide ((mid : Int) < (en : Int)) = true := by simp <;> omega
         have k2 : decide ((en : Int) < (b : Int)) = true := by simp <;> omega
         have HCALL3 := hide (HIH.out (b - mid) (by have := HNN.out; omega) (p ++ (u1 ++ v1)) u2 v2 r g off N cap wr (mid : Int) (en : Int) (b : Int) (by have := HL3.out; have := HL4.out; omega) (by rw [hlm]) (by rw [hlm]; have := HL3.out; omega) (by rw [hlm]; have := HL3.out; have := HL4.out; omega) (by have := HL3.out; omega) (by have := HL4.out; omega) (by rw [hlm]; have := HL3.out; have := HL4.out; have := HN.out; omega) hcap HRV.out (Tm.Up.append.1 HUP1.out).2.1 (Tm.Up.append.1 HVP1.out).2.1 (by have h := HIL.out; simpa [List.append_assoc] using h) (HC.out.turn HT.out))
         unfold byClassFn at HCALL3
         clear hlm
         go_wp2_with fail
         all_goals
          refine HCALL3.out.mono ?_
          rintro e w9 ⟨rfl, ⟨s9, hso9, hI9⟩, hT9⟩
          have HT9 := hide (HT.out.trans hT9)
          have HI9 : Hid (Ints w9 g off (p ++ ((u1 ++ v1) ++ s9) ++ r)) := by unfold Hid; simpa [List.append_assoc] using hI9
          have HSO9 := hide hso9
          clear hT9 hI9 hso9
          go_wp2
          all_goals (first | go_end0 | refine bodyPost_ret (results_none rfl _ _ _) rfl ?_)
          all_goals exact ⟨rfl, ⟨_, HGOAL.out _ _ HSL.out HSO9.out, HI9.out⟩, HT9.out⟩
        ·have HSR : Hid (Tm.Sorts (Tm.classOf lns) (u2 ++ v2) (u2 ++ v2)) := Tm.Sorts.of_up (by
          by_cases hz : u2 = []
          ·rw [hz]; simpa using (Tm.Up.append.1 HVP1.out).2.1
          ·have hz2 : v2 = [] := List.eq_nil_of_length_eq_zero (by have h3 := HL3.out; have h4 := HL4.out; have h5 : 0 < u2.length := List.length_pos_iff.2 hz; omega)
           rw [hz2]; simpa using (Tm.Up.append.1 HUP1.out).2.1)
         have HI9 : Hid (Ints wr g off (p ++ ((u1 ++ v1) ++ (u2 ++ v2)) ++ r)) := by have h := HIL.out; unfold Hid; simpa [List.append_assoc] using h
         clear hlm
         by_cases hme2 : mid < en
         ·have k1 : decide ((mid : Int) < (en : Int)) = true := by simp <;> omega
          have k2 : decide ((en : Int) < (b : Int)) = false := by simp <;> omega
          go_wp2
          all_goals (first | go_end0 | refine bodyPost_ret (results_none rfl _ _ _) rfl ?_)
          all_goals exact ⟨rfl, ⟨_, HGOAL.out _ _ HSL.out HSR.out, HI9.out⟩, HT.out⟩
         ·have k1 : decide ((mid : Int) < (en : Int)) = false := by simp <;> omega
          go_wp2
          all_goals (first | go_end0 | refine bodyPost_ret (results_none rfl _ _ _) rfl ?_)
          all_goals exact ⟨rfl, ⟨_, HGOAL.out _ _ HSL.out HSR.out, HI9.out⟩, HT.out⟩
 ·have hle : m ≤ mid := by omega
  obtain ⟨s0, hs0⟩ : ∃ s0 : Nat, s0 = a := ⟨_, rfl⟩
  have hdm : decide ((mid : Int) < (m : Int)) = false := by simp <;> omega
  obtain ⟨r0, hr0⟩ : ∃ r0 : Nat, r0 = m := ⟨_, rfl⟩
  have hs0a : a ≤ s0 := by omega
  have hs0r : s0 ≤ r0 := by omega
  have hr0m : r0 ≤ m := by omega
  have hr0d : r0 ≤ mid := by omega
  have hlow : m ≤ mid + m - r0 := by omega
  have hhi : mid + m - s0 ≤ b := by omega
  have HEA : Hid (∀ st, s0 ≤ st → st ≤ r0 → (st < m → st < mid → st ≠ r0) ∧ (a < st → mid + m - st < b → st ≠ s0)) := fun st h1 h2 => ⟨fun h3 h4 => by omega, fun h3 h4 => by omega⟩
  go_enter Tryz.func196, Tryz.ntmps196
  go_wp2
  go_loopw [20, 21] (fun vi vj wr => ∃ st re : Nat, vi = .int .i64 st ∧ vj = .int .i64 re ∧ s0 ≤ st ∧ st ≤ re ∧ re ≤ r0 ∧ (st = s0 ∨ Tm.classOf lns (u.getD (st - 1 - a) 0) ≤ Tm.classOf lns (v.getD (mid - st) 0)) ∧ (re = r0 ∨ Tm.classOf lns (v.getD (mid - 1 - re) 0) < Tm.classOf lns (u.getD (re - a) 0)) ∧ Ints wr g off (p ++ u ++ v ++ r) ∧ Turn g off N w wr) (fun vi vj _ => (intOf vj).toNat - (intOf vi).toNat)
  case atStart => exact ⟨s0, r0, by rw [hs0], by rw [hr0], Nat.le_refl _, hs0r, Nat.le_refl _, .inl rfl, .inl rfl, HI.out, Turn.refl _ _ _ _⟩
  case round =>
   obtain ⟨st, re, rfl, rfl, hst0, hsr, hrr, hlo, hhi2, hI, hT⟩ := hrel
   have HIr := hide hI
   have HT := hide hT
   have HCr := hide (HC.out.turn hT)
   have HLO := hide hlo
   have HHI := hide hhi2
   clear hlo hhi2 hI hT
   by_cases hlt : st < re
   ·have hd : decide ((st : Int) < (re : Int)) = true := by simp <;> omega
    go_wp2_with fail
    obtain ⟨c, hce⟩ : ∃ c : Nat, ((st : Int) + (re : Int)) / 2 = (c : Int) := ⟨(st + re) / 2, by omega⟩
    obtain ⟨pc, hpc⟩ : ∃ pc : Nat, (mid : Int) + (m : Int) - 1 - (c : Int) = (pc : Int) := ⟨mid + m - 1 - c, by omega⟩
    rw [hce]
    have hc1 : st ≤ c := by omega
    have hc2 : c < re := by omega
    have hcu : c - a < u.length := by have := HM.out; omega
    have hpv : pc - m < v.length := by have := HB.out; omega
    have hpm : m ≤ pc := by omega
    have hpu : (p ++ u).length = m := by have := HA.out; have := HM.out; simp; omega
    have cx := HIr.out c u[c - a] (by have h := get_in (p := p) (v := u) (r := v ++ r) (i := c) (by have := HA.out; omega) (by rw [HA.out]; exact hcu); rw [List.append_assoc (p ++ u), h]; simp only [HA.out])
    have cy := HIr.out pc v[pc - m] (by have h := get_in (p := p ++ u) (v := v) (r := r) (i := pc) (by omega) (by rw [hpu]; exact hpv); rw [h]; simp only [hpu])
    have hxr := HR.out u[c - a] (by simp)
    have hyr := HR.out v[pc - m] (by simp)
    have gx : u.getD (c - a) 0 = u[c - a] := by rw [List.getD_eq_getElem?_getD, List.getElem?_eq_getElem hcu]; rfl
    have gy : v.getD (mid - 1 - c) 0 = v[pc - m] := by rw [show mid - 1 - c = pc - m from by omega, List.getD_eq_getElem?_getD, List.getElem?_eq_getElem hpv]; rfl
    have HCALL : Hid (∀ n, Calls Tryz.prog 166 #[.map (some bm), .int .i64 v[pc - m], .int .i64 u[c - a]] (wr.drewN n) fun e w' => e = .returned (.int .i64 (cmpInt (Tm.classOf lns v[pc - m]) (Tm.classOf lns u[c - a]))) ∧ w' = wr.drewN n) := fun n => HCr.out.call hyr hxr n
    have HGX := hide gx
    have HGY := hide gy
    clear gx gy
    generalize u[c - a] = x at *
    generalize v[pc - m] = y at *
    obtain ⟨cy, fy⟩ := cy
    obtain ⟨cx, fx⟩ := cx
    have i1 : (c : Int) < (N : Int) := by omega
    have i2 : (pc : Int) < (N : Int) := by omega
    obtain ⟨q, hq⟩ : ∃ q, decide (cmpInt (Tm.classOf lns y) (Tm.classOf lns x) < 0) = q := ⟨_, rfl⟩
    have hq' : decide (Tm.classOf lns y < Tm.classOf lns x) = q := by rw [← hq, cmpInt_neg]
    generalize cmpInt (Tm.classOf lns y) (Tm.classOf lns x) = cv at *
    clear hce hpu
    cases q
    ·have hle2 : Tm.classOf lns x ≤ Tm.classOf lns y := by simpa using hq'
     have HL2 : Hid (Tm.classOf lns (u.getD (c + 1 - 1 - a) 0) ≤ Tm.classOf lns (v.getD (mid - (c + 1)) 0)) := by
      unfold Hid; rw [show c + 1 - 1 - a = c - a from by omega, show mid - (c + 1) = mid - 1 - c from by omega, HGX.out, HGY.out]; exact hle2
     clear hq' hle2
     go_quiet (first | (go_at_call 166; exact Calls.quiet_of_same (HCALL.out _)))
     go_wp2
     go_roundw
     case rel => exact ⟨c + 1, re, by go_num, rfl, by omega, by omega, hrr, .inr HL2.out, HHI.out, HIr.out, HT.out.drewN _⟩
     case measure => simp [intOf]; omega
    ·have hle2 : Tm.classOf lns y < Tm.classOf lns x := by simpa using hq'
     have HH2 : Hid (Tm.classOf lns (v.getD (mid - 1 - c) 0) < Tm.classOf lns (u.getD (c - a) 0)) := by unfold Hid; rw [HGX.out, HGY.out]; exact hle2
     clear hq' hle2
     go_quiet (first | (go_at_call 166; exact Calls.quiet_of_same (HCALL.out _)))
     go_wp2
     go_roundw
     case rel => exact ⟨st, c, rfl, rfl, hst0, hc1, by omega, HLO.out, .inr HH2.out, HIr.out, HT.out.drewN _⟩
     case measure => simp [intOf]; omega
   ·have hsre : st = re := by omega
    subst hsre
    have hd : decide ((st : Int) < (st : Int)) = false := by simp
    obtain ⟨en, hen⟩ : ∃ en : Nat, (mid : Int) + (m : Int) - (st : Int) = (en : Int) := ⟨mid + m - st, by omega⟩
    have hae : a ≤ st := by omega
    have hsm : st ≤ m := by omega
    have hsd : st ≤ mid := by omega
    have hme : m ≤ en := by omega
    have heb : en ≤ b := by omega
    have hde : mid ≤ en := by omega
    have hul : st - a ≤ u.length := by have := HM.out; omega
    have hvl : en - m ≤ v.length := by have := HB.out; omega
    have hspl := Tm.Up.split (T := st - a) (E := en - m) HUP.out HVP.out (fun q1 q2 _ => by
      rcases HHI.out with e | e
      ·exact absurd e ((HEA.out st hst0 hrr).1 (by have := HM.out; omega) (by omega))
      ·rw [show en - m - 1 = mid - 1 - st from by omega]; exact e) (fun q1 _ q3 => by
      rcases HLO.out with e | e
      ·exact absurd e ((HEA.out st hst0 hrr).2 (by omega) (by have := HB.out; omega))
      ·rw [show st - a - 1 = st - 1 - a from by omega, show en - m = mid - st from by omega]; exact e) hul hvl
    obtain ⟨u1, u2, hu12, hl1⟩ : ∃ u1 u2, u = u1 ++ u2 ∧ u1.length = st - a := ⟨u.take (st - a), u.drop (st - a), by rw [List.take_append_drop], by simp <;> omega⟩
    obtain ⟨v1, v2, hv12, hl2⟩ : ∃ v1 v2, v = v1 ++ v2 ∧ v1.length = en - m := ⟨v.take (en - m), v.drop (en - m), by rw [List.take_append_drop], by simp <;> omega⟩
    have e1 : u.take (st - a) = u1 := by rw [hu12, ← hl1]; simp
    have e2 : u.drop (st - a) = u2 := by rw [hu12, ← hl1]; simp
    have e3 : v.take (en - m) = v1 := by rw [hv12, ← hl2]; simp
    have e4 : v.drop (en - m) = v2 := by rw [hv12, ← hl2]; simp
    rw [e1, e2, e3, e4] at hspl
    have HSPL := hide hspl
    have HU12 := hide hu12
    have HV12 := hide hv12
    have HL1 := hide hl1
    have HL2 := hide hl2
    have HL3 : Hid (u2.length = m - st) := by have h := congrArg List.length hu12; have := HM.out; simp at h; unfold Hid; omega
    have HL4 : Hid (v2.length = b - en) := by have h := congrArg List.length hv12; have := HB.out; simp at h; unfold Hid; omega
    have HUP1 : Hid (Tm.Up (Tm.classOf lns) (u1 ++ u2)) := by unfold Hid; rw [← hu12]; exact HUP.out
    have HVP1 : Hid (Tm.Up (Tm.classOf lns) (v1 ++ v2)) := by unfold Hid; rw [← hv12]; exact HVP.out
    have HI0 : Hid (Ints wr g off ((p ++ u1) ++ u2 ++ v1 ++ (v2 ++ r))) := by have h := HIr.out; rw [hu12, hv12] at h; unfold Hid; simpa [List.append_assoc] using h
    have HRU : Hid (∀ z ∈ u1 ++ v1, 0 ≤ z ∧ z ≤ 1114111) := fun z hz => HR.out z (by rw [hu12, hv12]; simp at hz ⊢; rcases hz with h | h <;> simp [h])
    have HRV : Hid (∀ z ∈ u2 ++ v2, 0 ≤ z ∧ z ≤ 1114111) := fun z hz => HR.out z (by rw [hu12, hv12]; simp at hz ⊢; rcases hz with h | h <;> simp [h])
    have HGOAL : Hid (∀ l s : List Int, Tm.Sorts (Tm.classOf lns) (u1 ++ v1) l → Tm.Sorts (Tm.classOf lns) (u2 ++ v2) s → Tm.Sorts (Tm.classOf lns) (u ++ v) (l ++ s)) := fun l s h1 h2 => by rw [hu12, hv12]; exact Tm.Sorts.merge h1 h2 HUP1.out HVP1.out hspl.1 hspl.2
    clear hspl hu12 hv12 hl1 hl2 e1 e2 e3 e4
    by_cases hrot : st < m ∧ m < en
    ·have g1 : decide ((st : Int) < (m : Int)) = true := by simp <;> omega
     have g2 : decide ((m : Int) < (en : Int)) = true := by simp <;> omega
     go_wp2_with fail
     refine (rotate_at (p ++ u1) u2 v1 (v2 ++ r) g off N cap _ wr (by have := HA.out; have := HL1.out; simp; omega) (by have := HA.out; have := HL1.out; have := HL3.out; simp; omega) (by have := HA.out; have := HL1.out; have := HL3.out; have := HL2.out; simp; omega) (by have := HL3.out; omega) (by have := HL2.out; omega) (by have := HA.out; have := HL1.out; have := HL2.out; have := HL3.out; have := HL4.out; have := HN.out; simp; omega) hcap HI0.out).mono ?_
     rintro e w7 ⟨rfl, hI7, hT7⟩
     have HT7 := hide (HT.out.trans hT7)
     have HI1 : Hid (Ints w7 g off (p ++ u1 ++ v1 ++ u2 ++ (v2 ++ r))) := hI7
     clear hI7 hT7
     by_cases hleft : a < st ∧ st < mid
     ·have j1 : decide ((a : Int) < (st : Int)) = true := by simp <;> omega
      have j2 : decide ((st : Int) < (mid : Int)) = true := by simp <;> omega
      have HCALL2 := hide (HIH.out (mid - a) (by have := HNN.out; omega) p u1 v1 (u2 ++ v2 ++ r) g off N cap w7 (a : Int) (st : Int) (mid : Int) (by have := HL1.out; have := HL2.out; omega) (by have := HA.out; omega) (by have := HA.out; have := HL1.out; omega) (by have := HA.out; have := HL1.out; have := HL2.out; omega) (by have := HL1.out; omega) (by have := HL2.out; omega) (by have := HA.out; have := HL1.out; have := HL2.out; have := HL3.out; have := HL4.out; have := HN.out; simp; omega) hcap HRU.out (Tm.Up.append.1 HUP1.out).1 (Tm.Up.append.1 HVP1.out).1 (by have h := HI1.out; simpa [List.append_assoc] using h) (HC.out.turn HT7.out))
      unfold byClassFn at HCALL2
      go_wp2_with fail
      all_goals
       refine HCALL2.out.mono ?_
       rintro e w8 ⟨rfl, ⟨l, hso8, hI8⟩, hT8⟩
       have HT8 := hide (HT7.out.trans hT8)
       have HIL := hide hI8
       have HSL := hide hso8
       clear hT8 hI8 hso8
       have hlm : (p ++ l).length = mid := by have h := HSL.out.2.length; have := HA.out; have := HL1.out; have := HL2.out; simp at h ⊢; omega
       by_cases hright : mid < en ∧ en < b
       ·have k1 : decide ((mid : Int) < (en : Int)) = true := by simp <;> omega
        have k2 : decide ((en : Int) < (b : Int)) = true := by simp <;> omega
        have HCALL3 := hide (HIH.out (b - mid) (by have := HNN.out; omega) (p ++ l) u2 v2 r g off N cap w8 (mid : Int) (en : Int) (b : Int) (by have := HL3.out; have := HL4.out; omega) (by rw [hlm]) (by rw [hlm]; have := HL3.out; omega) (by rw [hlm]; have := HL3.out; have := HL4.out; omega) (by have := HL3.out; omega) (by have := HL4.out; omega) (by rw [hlm]; have := HL3.out; have := HL4.out; have := HN.out; omega) hcap HRV.out (Tm.Up.append.1 HUP1.out).2.1 (Tm.Up.append.1 HVP1.out).2.1 (by have h := HIL.out; simpa [List.append_assoc] using h) (HC.out.turn HT8.out))
        unfold byClassFn at HCALL3
        clear hlm
        go_wp2_with fail
        all_goals
         refine HCALL3.out.mono ?_
         rintro e w9 ⟨rfl, ⟨s9, hso9, hI9⟩, hT9⟩
         have HT9 := hide (HT8.out.trans hT9)
         have HI9 : Hid (Ints w9 g off (p ++ (l ++ s9) ++ r)) := by unfold Hid; simpa [List.append_assoc] using hI9
         have HSO9 := hide hso9
         clear hT9 hI9 hso9
         go_wp2
         all_goals (first | go_end0 | refine bodyPost_ret (results_none rfl _ _ _) rfl ?_)
         all_goals exact ⟨rfl, ⟨_, HGOAL.out _ _ HSL.out HSO9.out, HI9.out⟩, HT9.out⟩
       ·have HSR : Hid (Tm.Sorts (Tm.classOf lns) (u2 ++ v2) (u2 ++ v2)) := Tm.Sorts.of_up (by
         by_cases hz : u2 = []
         ·rw [hz]; simpa using (Tm.Up.append.1 HVP1.out).2.1
         ·have hz2 : v2 = [] := List.eq_nil_of_length_eq_zero (by have h3 := HL3.out; have h4 := HL4.out; have h5 : 0 < u2.length := List.length_pos_iff.2 hz; omega)
          rw [hz2]; simpa using (Tm.Up.append.1 HUP1.out).2.1)
        have HI9 : Hid (Ints w8 g off (p ++ (l ++ (u2 ++ v2)) ++ r)) := by have h := HIL.out; unfold Hid; simpa [List.append_assoc] using h
        clear hlm
        by_cases hme2 : mid < en
        ·have k1 : decide ((mid : Int) < (en : Int)) = true := by simp <;> omega
         have k2 : decide ((en : Int) < (b : Int)) = false := by simp <;> omega
         go_wp2
         all_goals (first | go_end0 | refine bodyPost_ret (results_none rfl _ _ _) rfl ?_)
         all_goals exact ⟨rfl, ⟨_, HGOAL.out _ _ HSL.out HSR.out, HI9.out⟩, HT8.out⟩
        ·have k1 : decide ((mid : Int) < (en : Int)) = false := by simp <;> omega
         go_wp2
         all_goals (first | go_end0 | refine bodyPost_ret (results_none rfl _ _ _) rfl ?_)
         all_goals exact ⟨rfl, ⟨_, HGOAL.out _ _ HSL.out HSR.out, HI9.out⟩, HT8.out⟩
     ·have HSL : Hid (Tm.Sorts (Tm.classOf lns) (u1 ++ v1) (u1 ++ v1)) := Tm.Sorts.of_up (by
       by_cases hz : u1 = []
       ·rw [hz]; simpa using (Tm.Up.append.1 HVP1.out).1
       ·have hz2 : v1 = [] := List.eq_nil_of_length_eq_zero (by have h3 := HL1.out; have h4 := HL2.out; have h5 : 0 < u1.length := List.length_pos_iff.2 hz; omega)
        rw [hz2]; simpa using (Tm.Up.append.1 HUP1.out).1)
      have HIL : Hid (Ints w7 g off (p ++ (u1 ++ v1) ++ (u2 ++ v2 ++ r))) := by have h := HI1.out; unfold Hid; simpa [List.append_assoc] using h
      have hj : decide ((a : Int) < (st : Int)) = false ∨ (decide ((a : Int) < (st : Int)) = true ∧ decide ((st : Int) < (mid : Int)) = false) := by
       by_cases h : a < st
       ·right; exact ⟨by simp <;> omega, by simp <;> omega⟩
       ·left; simp; omega
      rcases hj with j1 | ⟨j1, j2⟩
      ·have hlm : (p ++ (u1 ++ v1)).length = mid := by have h := HSL.out.2.length; have := HA.out; have := HL1.out; have := HL2.out; simp at h ⊢; omega
       by_cases hright : mid < en ∧ en < b
       ·have k1 : decide ((mid : Int) < (en : Int)) = true := by simp <;> omega
        have k2 : decide ((en : Int) < (b : Int)) = true := by simp <;> omega
        have HCALL3 := hide (HIH.out (b - mid) (by have := HNN.out; omega) (p ++ (u1 ++ v1)) u2 v2 r g off N cap w7 (mid : Int) (en : Int) (b : Int) (by have := HL3.out; have := HL4.out; omega) (by rw [hlm]) (by rw [hlm]; have := HL3.out; omega) (by rw [hlm]; have := HL3.out; have := HL4.out; omega) (by have := HL3.out; omega) (by have := HL4.out; omega) (by rw [hlm]; have := HL3.out; have := HL4.out; have := HN.out; omega) hcap HRV.out (Tm.Up.append.1 HUP1.out).2.1 (Tm.Up.append.1 HVP1.out).2.1 (by have h := HIL.out; simpa [List.append_assoc] using h) (HC.out.turn HT7.out))
        unfold byClassFn at HCALL3
        clear hlm
        go_wp2_with fail
        all_goals
         refine HCALL3.out.mono ?_
         rintro e w9 ⟨rfl, ⟨s9, hso9, hI9⟩, hT9⟩
         have HT9 := hide (HT7.out.trans hT9)
         have HI9 : Hid (Ints w9 g off (p ++ ((u1 ++ v1) ++ s9) ++ r)) := by unfold Hid; simpa [List.append_assoc] using hI9
         have HSO9 := hide hso9
         clear hT9 hI9 hso9
         go_wp2
         all_goals (first | go_end0 | refine bodyPost_ret (results_none rfl _ _ _) rfl ?_)
         all_goals exact ⟨rfl, ⟨_, HGOAL.out _ _ HSL.out HSO9.out, HI9.out⟩, HT9.out⟩
       ·have HSR : Hid (Tm.Sorts (Tm.classOf lns) (u2 ++ v2) (u2 ++ v2)) := Tm.Sorts.of_up (by
         by_cases hz : u2 = []
         ·rw [hz]; simpa using (Tm.Up.append.1 HVP1.out).2.1
         ·have hz2 : v2 = [] := List.eq_nil_of_length_eq_zero (by have h3 := HL3.out; have h4 := HL4.out; have h5 : 0 < u2.length := List.length_pos_iff.2 hz; omega)
          rw [hz2]; simpa using (Tm.Up.append.1 HUP1.out).2.1)
        have HI9 : Hid (Ints w7 g off (p ++ ((u1 ++ v1) ++ (u2 ++ v2)) ++ r)) := by have h := HIL.out; unfold Hid; simpa [List.append_assoc] using h
        clear hlm
        by_cases hme2 : mid < en
        ·have k1 : decide ((mid : Int) < (en : Int)) = true := by simp <;> omega
         have k2 : decide ((en : Int) < (b : Int)) = false := by simp <;> omega
         go_wp2
         all_goals (first | go_end0 | refine bodyPost_ret (results_none rfl _ _ _) rfl ?_)
         all_goals exact ⟨rfl, ⟨_, HGOAL.out _ _ HSL.out HSR.out, HI9.out⟩, HT7.out⟩
        ·have k1 : decide ((mid : Int) < (en : Int)) = false := by simp <;> omega
         go_wp2
         all_goals (first | go_end0 | refine bodyPost_ret (results_none rfl _ _ _) rfl ?_)
         all_goals exact ⟨rfl, ⟨_, HGOAL.out _ _ HSL.out HSR.out, HI9.out⟩, HT7.out⟩
      ·have hlm : (p ++ (u1 ++ v1)).length = mid := by have h := HSL.out.2.length; have := HA.out; have := HL1.out; have := HL2.out; simp at h ⊢; omega
       by_cases hright : mid < en ∧ en < b
       ·have k1 : decide ((mid : Int) < (en : Int)) = true := by simp <;> omega
        have k2 : decide ((en : Int) < (b : Int)) = true := by simp <;> omega
        have HCALL3 := hide (HIH.out (b - mid) (by have := HNN.out; omega) (p ++ (u1 ++ v1)) u2 v2 r g off N cap w7 (mid : Int) (en : Int) (b : Int) (by have := HL3.out; have := HL4.out; omega) (by rw [hlm]) (by rw [hlm]; have := HL3.out; omega) (by rw [hlm]; have := HL3.out; have := HL4.out; omega) (by have := HL3.out; omega) (by have := HL4.out; omega) (by rw [hlm]; have := HL3.out; have := HL4.out; have := HN.out; omega) hcap HRV.out (Tm.Up.append.1 HUP1.out).2.1 (Tm.Up.append.1 HVP1.out).2.1 (by have h := HIL.out; simpa [List.append_assoc] using h) (HC.out.turn HT7.out))
        unfold byClassFn at HCALL3
        clear hlm
        go_wp2_with fail
        all_goals
         refine HCALL3.out.mono ?_
         rintro e w9 ⟨rfl, ⟨s9, hso9, hI9⟩, hT9⟩
         have HT9 := hide (HT7.out.trans hT9)
         have HI9 : Hid (Ints w9 g off (p ++ ((u1 ++ v1) ++ s9) ++ r)) := by unfold Hid; simpa [List.append_assoc] using hI9
         have HSO9 := hide hso9
         clear hT9 hI9 hso9
         go_wp2
         all_goals (first | go_end0 | refine bodyPost_ret (results_none rfl _ _ _) rfl ?_)
         all_goals exact ⟨rfl, ⟨_, HGOAL.out _ _ HSL.out HSO9.out, HI9.out⟩, HT9.out⟩
       ·have HSR : Hid (Tm.Sorts (Tm.classOf lns) (u2 ++ v2) (u2 ++ v2)) := Tm.Sorts.of_up (by
         by_cases hz : u2 = []
         ·rw [hz]; simpa using (Tm.Up.append.1 HVP1.out).2.1
         ·have hz2 : v2 = [] := List.eq_nil_of_length_eq_zero (by have h3 := HL3.out; have h4 := HL4.out; have h5 : 0 < u2.length := List.length_pos_iff.2 hz; omega)
          rw [hz2]; simpa using (Tm.Up.append.1 HUP1.out).2.1)
        have HI9 : Hid (Ints w7 g off (p ++ ((u1 ++ v1) ++ (u2 ++ v2)) ++ r)) := by have h := HIL.out; unfold Hid; simpa [List.append_assoc] using h
        clear hlm
        by_cases hme2 : mid < en
        ·have k1 : decide ((mid : Int) < (en : Int)) = true := by simp <;> omega
         have k2 : decide ((en : Int) < (b : Int)) = false := by simp <;> omega
         go_wp2
         all_goals (first | go_end0 | refine bodyPost_ret (results_none rfl _ _ _) rfl ?_)
         all_goals exact ⟨rfl, ⟨_, HGOAL.out _ _ HSL.out HSR.out, HI9.out⟩, HT7.out⟩
        ·have k1 : decide ((mid : Int) < (en : Int)) = false := by simp <;> omega
         go_wp2
         all_goals (first | go_end0 | refine bodyPost_ret (results_none rfl _ _ _) rfl ?_)
         all_goals exact ⟨rfl, ⟨_, HGOAL.out _ _ HSL.out HSR.out, HI9.out⟩, HT7.out⟩
    ·have HI1 : Hid (Ints wr g off (p ++ u1 ++ v1 ++ u2 ++ (v2 ++ r))) := by
      have h := HI0.out
      unfold Hid
      by_cases hz : u2 = []
      ·rw [hz] at h ⊢; simpa [List.append_assoc] using h
      ·have hz2 : v1 = [] := List.eq_nil_of_length_eq_zero (by have h3 := HL3.out; have h4 := HL2.out; have h5 : 0 < u2.length := List.length_pos_iff.2 hz; omega)
       rw [hz2] at h ⊢; simpa [List.append_assoc] using h
     have hg : decide ((st : Int) < (m : Int)) = false ∨ (decide ((st : Int) < (m : Int)) = true ∧ decide ((m : Int) < (en : Int)) = false) := by
      by_cases h : st < m
      ·right; exact ⟨by simp <;> omega, by simp <;> omega⟩
      ·left; simp; omega
     rcases hg with g1 | ⟨g1, g2⟩
     ·by_cases hleft : a < st ∧ st < mid
      ·have j1 : decide ((a : Int) < (st : Int)) = true := by simp <;> omega
       have j2 : decide ((st : Int) < (mid : Int)) = true := by simp <;> omega
       have HCALL2 := hide (HIH.out (mid - a) (by have := HNN.out; omega) p u1 v1 (u2 ++ v2 ++ r) g off N cap wr (a : Int) (st : Int) (mid : Int) (by have := HL1.out; have := HL2.out; omega) (by have := HA.out; omega) (by have := HA.out; have := HL1.out; omega) (by have := HA.out; have := HL1.out; have := HL2.out; omega) (by have := HL1.out; omega) (by have := HL2.out; omega) (by have := HA.out; have := HL1.out; have := HL2.out; have := HL3.out; have := HL4.out; have := HN.out; simp; omega) hcap HRU.out (Tm.Up.append.1 HUP1.out).1 (Tm.Up.append.1 HVP1.out).1 (by have h := HI1.out; simpa [List.append_assoc] using h) (HC.out.turn HT.out))
       unfold byClassFn at HCALL2
       go_wp2_with fail
       all_goals
        refine HCALL2.out.mono ?_
        rintro e w8 ⟨rfl, ⟨l, hso8, hI8⟩, hT8⟩
        have HT8 := hide (HT.out.trans hT8)
        have HIL := hide hI8
        have HSL := hide hso8
        clear hT8 hI8 hso8
        have hlm : (p ++ l).length = mid := by have h := HSL.out.2.length; have := HA.out; have := HL1.out; have := HL2.out; simp at h ⊢; omega
        by_cases hright : mid < en ∧ en < b
        ·have k1 : decide ((mid : Int) < (en : Int)) = true := by simp <;> omega
         have k2 : decide ((en : Int) < (b : Int)) = true := by simp <;> omega
         have HCALL3 := hide (HIH.out (b - mid) (by have := HNN.out; omega) (p ++ l) u2 v2 r g off N cap w8 (mid : Int) (en : Int) (b : Int) (by have := HL3.out; have := HL4.out; omega) (by rw [hlm]) (by rw [hlm]; have := HL3.out; omega) (by rw [hlm]; have := HL3.out; have := HL4.out; omega) (by have := HL3.out; omega) (by have := HL4.out; omega) (by rw [hlm]; have := HL3.out; have := HL4.out; have := HN.out; omega) hcap HRV.out (Tm.Up.append.1 HUP1.out).2.1 (Tm.Up.append.1 HVP1.out).2.1 (by have h := HIL.out; simpa [List.append_assoc] using h) (HC.out.turn HT8.out))
         unfold byClassFn at HCALL3
         clear hlm
         go_wp2_with fail
         all_goals
          refine HCALL3.out.mono ?_
          rintro e w9 ⟨rfl, ⟨s9, hso9, hI9⟩, hT9⟩
          have HT9 := hide (HT8.out.trans hT9)
          have HI9 : Hid (Ints w9 g off (p ++ (l ++ s9) ++ r)) := by unfold Hid; simpa [List.append_assoc] using hI9
          have HSO9 := hide hso9
          clear hT9 hI9 hso9
          go_wp2
          all_goals (first | go_end0 | refine bodyPost_ret (results_none rfl _ _ _) rfl ?_)
          all_goals exact ⟨rfl, ⟨_, HGOAL.out _ _ HSL.out HSO9.out, HI9.out⟩, HT9.out⟩
        ·have HSR : Hid (Tm.Sorts (Tm.classOf lns) (u2 ++ v2) (u2 ++ v2)) := Tm.Sorts.of_up (by
          by_cases hz : u2 = []
          ·rw [hz]; simpa using (Tm.Up.append.1 HVP1.out).2.1
          ·have hz2 : v2 = [] := List.eq_nil_of_length_eq_zero (by have h3 := HL3.out; have h4 := HL4.out; have h5 : 0 < u2.length := List.length_pos_iff.2 hz; omega)
           rw [hz2]; simpa using (Tm.Up.append.1 HUP1.out).2.1)
         have HI9 : Hid (Ints w8 g off (p ++ (l ++ (u2 ++ v2)) ++ r)) := by have h := HIL.out; unfold Hid; simpa [List.append_assoc] using h
         clear hlm
         by_cases hme2 : mid < en
         ·have k1 : decide ((mid : Int) < (en : Int)) = true := by simp <;> omega
          have k2 : decide ((en : Int) < (b : Int)) = false := by simp <;> omega
          go_wp2
          all_goals (first | go_end0 | refine bodyPost_ret (results_none rfl _ _ _) rfl ?_)
          all_goals exact ⟨rfl, ⟨_, HGOAL.out _ _ HSL.out HSR.out, HI9.out⟩, HT8.out⟩
         ·have k1 : decide ((mid : Int) < (en : Int)) = false := by simp <;> omega
          go_wp2
          all_goals (first | go_end0 | refine bodyPost_ret (results_none rfl _ _ _) rfl ?_)
          all_goals exact ⟨rfl, ⟨_, HGOAL.out _ _ HSL.out HSR.out, HI9.out⟩, HT8.out⟩
      ·have HSL : Hid (Tm.Sorts (Tm.classOf lns) (u1 ++ v1) (u1 ++ v1)) := Tm.Sorts.of_up (by
        by_cases hz : u1 = []
        ·rw [hz]; simpa using (Tm.Up.append.1 HVP1.out).1
        ·have hz2 : v1 = [] := List.eq_nil_of_length_eq_zero (by have h3 := HL1.out; have h4 := HL2.out; have h5 : 0 < u1.length := List.length_pos_iff.2 hz; omega)
         rw [hz2]; simpa using (Tm.Up.append.1 HUP1.out).1)
       have HIL : Hid (Ints wr g off (p ++ (u1 ++ v1) ++ (u2 ++ v2 ++ r))) := by have h := HI1.out; unfold Hid; simpa [List.append_assoc] using h
       have hj : decide ((a : Int) < (st : Int)) = false ∨ (decide ((a : Int) < (st : Int)) = true ∧ decide ((st : Int) < (mid : Int)) = false) := by
        by_cases h : a < st
        ·right; exact ⟨by simp <;> omega, by simp <;> omega⟩
        ·left; simp; omega
       rcases hj with j1 | ⟨j1, j2⟩
       ·have hlm : (p ++ (u1 ++ v1)).length = mid := by have h := HSL.out.2.length; have := HA.out; have := HL1.out; have := HL2.out; simp at h ⊢; omega
        by_cases hright : mid < en ∧ en < b
        ·have k1 : decide ((mid : Int) < (en : Int)) = true := by simp <;> omega
         have k2 : decide ((en : Int) < (b : Int)) = true := by simp <;> omega
         have HCALL3 := hide (HIH.out (b - mid) (by have := HNN.out; omega) (p ++ (u1 ++ v1)) u2 v2 r g off N cap wr (mid : Int) (en : Int) (b : Int) (by have := HL3.out; have := HL4.out; omega) (by rw [hlm]) (by rw [hlm]; have := HL3.out; omega) (by rw [hlm]; have := HL3.out; have := HL4.out; omega) (by have := HL3.out; omega) (by have := HL4.out; omega) (by rw [hlm]; have := HL3.out; have := HL4.out; have := HN.out; omega) hcap HRV.out (Tm.Up.append.1 HUP1.out).2.1 (Tm.Up.append.1 HVP1.out).2.1 (by have h := HIL.out; simpa [List.append_assoc] using h) (HC.out.turn HT.out))
         unfold byClassFn at HCALL3
         clear hlm
         go_wp2_with fail
         all_goals
          refine HCALL3.out.mono ?_
          rintro e w9 ⟨rfl, ⟨s9, hso9, hI9⟩, hT9⟩
          have HT9 := hide (HT.out.trans hT9)
          have HI9 : Hid (Ints w9 g off (p ++ ((u1 ++ v1) ++ s9) ++ r)) := by unfold Hid; simpa [List.append_assoc] using hI9
          have HSO9 := hide hso9
          clear hT9 hI9 hso9
          go_wp2
          all_goals (first | go_end0 | refine bodyPost_ret (results_none rfl _ _ _) rfl ?_)
          all_goals exact ⟨rfl, ⟨_, HGOAL.out _ _ HSL.out HSO9.out, HI9.out⟩, HT9.out⟩
        ·have HSR : Hid (Tm.Sorts (Tm.classOf lns) (u2 ++ v2) (u2 ++ v2)) := Tm.Sorts.of_up (by
          by_cases hz : u2 = []
          ·rw [hz]; simpa using (Tm.Up.append.1 HVP1.out).2.1
          ·have hz2 : v2 = [] := List.eq_nil_of_length_eq_zero (by have h3 := HL3.out; have h4 := HL4.out; have h5 : 0 < u2.length := List.length_pos_iff.2 hz; omega)
           rw [hz2]; simpa using (Tm.Up.append.1 HUP1.out).2.1)
         have HI9 : Hid (Ints wr g off (p ++ ((u1 ++ v1) ++ (u2 ++ v2)) ++ r)) := by have h := HIL.out; unfold Hid; simpa [List.append_assoc] using h
         clear hlm
         by_cases hme2 : mid < en
         ·have k1 : decide ((mid : Int) < (en : Int)) = true := by simp <;> omega
          have k2 : decide ((en : Int) < (b : Int)) = false := by simp <;> omega
          go_wp2
          all_goals (first | go_end0 | refine bodyPost_ret (results_none rfl _ _ _) rfl ?_)
          all_goals exact ⟨rfl, ⟨_, HGOAL.out _ _ HSL.out HSR.out, HI9.out⟩, HT.out⟩
         ·have k1 : decide ((mid : Int) < (en : Int)) = false := by simp <;> omega
          go_wp2
          all_goals (first | go_end0 | refine bodyPost_ret (results_none rfl _ _ _) rfl ?_)
          all_goals exact ⟨rfl, ⟨_, HGOAL.out _ _ HSL.out HSR.out, HI9.out⟩, HT.out⟩
       ·have hlm : (p ++ (u1 ++ v1)).length = mid := by have h := HSL.out.2.length; have := HA.out; have := HL1.out; have := HL2.out; simp at h ⊢; omega
        by_cases hright : mid < en ∧ en < b
        ·have k1 : decide ((mid : Int) < (en : Int)) = true := by simp <;> omega
         have k2 : decide ((en : Int) < (b : Int)) = true := by simp <;> omega
         have HCALL3 := hide (HIH.out (b - mid) (by have := HNN.out; omega) (p ++ (u1 ++ v1)) u2 v2 r g off N cap wr (mid : Int) (en : Int) (b : Int) (by have := HL3.out; have := HL4.out; omega) (by rw [hlm]) (by rw [hlm]; have := HL3.out; omega) (by rw [hlm]; have := HL3.out; have := HL4.out; omega) (by have := HL3.out; omega) (by have := HL4.out; omega) (by rw [hlm]; have := HL3.out; have := HL4.out; have := HN.out; omega) hcap HRV.out (Tm.Up.append.1 HUP1.out).2.1 (Tm.Up.append.1 HVP1.out).2.1 (by have h := HIL.out; simpa [List.append_assoc] using h) (HC.out.turn HT.out))
         unfold byClassFn at HCALL3
         clear hlm
         go_wp2_with fail
         all_goals
          refine HCALL3.out.mono ?_
          rintro e w9 ⟨rfl, ⟨s9, hso9, hI9⟩, hT9⟩
          have HT9 := hide (HT.out.trans hT9)
          have HI9 : Hid (Ints w9 g off (p ++ ((u1 ++ v1) ++ s9) ++ r)) := by unfold Hid; simpa [List.append_assoc] using hI9
          have HSO9 := hide hso9
          clear hT9 hI9 hso9
          go_wp2
          all_goals (first | go_end0 | refine bodyPost_ret (results_none rfl _ _ _) rfl ?_)
          all_goals exact ⟨rfl, ⟨_, HGOAL.out _ _ HSL.out HSO9.out, HI9.out⟩, HT9.out⟩
        ·have HSR : Hid (Tm.Sorts (Tm.classOf lns) (u2 ++ v2) (u2 ++ v2)) := Tm.Sorts.of_up (by
          by_cases hz : u2 = []
          ·rw [hz]; simpa using (Tm.Up.append.1 HVP1.out).2.1
          ·have hz2 : v2 = [] := List.eq_nil_of_length_eq_zero (by have h3 := HL3.out; have h4 := HL4.out; have h5 : 0 < u2.length := List.length_pos_iff.2 hz; omega)
           rw [hz2]; simpa using (Tm.Up.append.1 HUP1.out).2.1)
         have HI9 : Hid (Ints wr g off (p ++ ((u1 ++ v1) ++ (u2 ++ v2)) ++ r)) := by have h := HIL.out; unfold Hid; simpa [List.append_assoc] using h
         clear hlm
         by_cases hme2 : mid < en
         ·have k1 : decide ((mid : Int) < (en : Int)) = true := by simp <;> omega
          have k2 : decide ((en : Int) < (b : Int)) = false := by simp <;> omega
          go_wp2
          all_goals (first | go_end0 | refine bodyPost_ret (results_none rfl _ _ _) rfl ?_)
          all_goals exact ⟨rfl, ⟨_, HGOAL.out _ _ HSL.out HSR.out, HI9.out⟩, HT.out⟩
         ·have k1 : decide ((mid : Int) < (en : Int)) = false := by simp <;> omega
          go_wp2
          all_goals (first | go_end0 | refine bodyPost_ret (results_none rfl _ _ _) rfl ?_)
          all_goals exact ⟨rfl, ⟨_, HGOAL.out _ _ HSL.out HSR.out, HI9.out⟩, HT.out⟩
     ·by_cases hleft : a < st ∧ st < mid
      ·have j1 : decide ((a : Int) < (st : Int)) = true := by simp <;> omega
       have j2 : decide ((st : Int) < (mid : Int)) = true := by simp <;> omega
       have HCALL2 := hide (HIH.out (mid - a) (by have := HNN.out; omega) p u1 v1 (u2 ++ v2 ++ r) g off N cap wr (a : Int) (st : Int) (mid : Int) (by have := HL1.out; have := HL2.out; omega) (by have := HA.out; omega) (by have := HA.out; have := HL1.out; omega) (by have := HA.out; have := HL1.out; have := HL2.out; omega) (by have := HL1.out; omega) (by have := HL2.out; omega) (by have := HA.out; have := HL1.out; have := HL2.out; have := HL3.out; have := HL4.out; have := HN.out; simp; omega) hcap HRU.out (Tm.Up.append.1 HUP1.out).1 (Tm.Up.append.1 HVP1.out).1 (by have h := HI1.out; simpa [List.append_assoc] using h) (HC.out.turn HT.out))
       unfold byClassFn at HCALL2
       go_wp2_with fail
       all_goals
        refine HCALL2.out.mono ?_
        rintro e w8 ⟨rfl, ⟨l, hso8, hI8⟩, hT8⟩
        have HT8 := hide (HT.out.trans hT8)
        have HIL := hide hI8
        have HSL := hide hso8
        clear hT8 hI8 hso8
        have hlm : (p ++ l).length = mid := by have h := HSL.out.2.length; have := HA.out; have := HL1.out; have := HL2.out; simp at h ⊢; omega
        by_cases hright : mid < en ∧ en < b
        ·have k1 : decide ((mid : Int) < (en : Int)) = true := by simp <;> omega
         have k2 : decide ((en : Int) < (b : Int)) = true := by simp <;> omega
         have HCALL3 := hide (HIH.out (b - mid) (by have := HNN.out; omega) (p ++ l) u2 v2 r g off N cap w8 (mid : Int) (en : Int) (b : Int) (by have := HL3.out; have := HL4.out; omega) (by rw [hlm]) (by rw [hlm]; have := HL3.out; omega) (by rw [hlm]; have := HL3.out; have := HL4.out; omega) (by have := HL3.out; omega) (by have := HL4.out; omega) (by rw [hlm]; have := HL3.out; have := HL4.out; have := HN.out; omega) hcap HRV.out (Tm.Up.append.1 HUP1.out).2.1 (Tm.Up.append.1 HVP1.out).2.1 (by have h := HIL.out; simpa [List.append_assoc] using h) (HC.out.turn HT8.out))
         unfold byClassFn at HCALL3
         clear hlm
         go_wp2_with fail
         all_goals
          refine HCALL3.out.mono ?_
          rintro e w9 ⟨rfl, ⟨s9, hso9, hI9⟩, hT9⟩
          have HT9 := hide (HT8.out.trans hT9)
          have HI9 : Hid (Ints w9 g off (p ++ (l ++ s9) ++ r)) := by unfold Hid; simpa [List.append_assoc] using hI9
          have HSO9 := hide hso9
          clear hT9 hI9 hso9
          go_wp2
          all_goals (first | go_end0 | refine bodyPost_ret (results_none rfl _ _ _) rfl ?_)
          all_goals exact ⟨rfl, ⟨_, HGOAL.out _ _ HSL.out HSO9.out, HI9.out⟩, HT9.out⟩
        ·have HSR : Hid (Tm.Sorts (Tm.classOf lns) (u2 ++ v2) (u2 ++ v2)) := Tm.Sorts.of_up (by
          by_cases hz : u2 = []
          ·rw [hz]; simpa using (Tm.Up.append.1 HVP1.out).2.1
          ·have hz2 : v2 = [] := List.eq_nil_of_length_eq_zero (by have h3 := HL3.out; have h4 := HL4.out; have h5 : 0 < u2.length := List.length_pos_iff.2 hz; omega)
           rw [hz2]; simpa using (Tm.Up.append.1 HUP1.out).2.1)
         have HI9 : Hid (Ints w8 g off (p ++ (l ++ (u2 ++ v2)) ++ r)) := by have h := HIL.out; unfold Hid; simpa [List.append_assoc] using h
         clear hlm
         by_cases hme2 : mid < en
         ·have k1 : decide ((mid : Int) < (en : Int)) = true := by simp <;> omega
          have k2 : decide ((en : Int) < (b : Int)) = false := by simp <;> omega
          go_wp2
          all_goals (first | go_end0 | refine bodyPost_ret (results_none rfl _ _ _) rfl ?_)
          all_goals exact ⟨rfl, ⟨_, HGOAL.out _ _ HSL.out HSR.out, HI9.out⟩, HT8.out⟩
         ·have k1 : decide ((mid : Int) < (en : Int)) = false := by simp <;> omega
          go_wp2
          all_goals (first | go_end0 | refine bodyPost_ret (results_none rfl _ _ _) rfl ?_)
          all_goals exact ⟨rfl, ⟨_, HGOAL.out _ _ HSL.out HSR.out, HI9.out⟩, HT8.out⟩
      ·have HSL : Hid (Tm.Sorts (Tm.classOf lns) (u1 ++ v1) (u1 ++ v1)) := Tm.Sorts.of_up (by
        by_cases hz : u1 = []
        ·rw [hz]; simpa using (Tm.Up.append.1 HVP1.out).1
        ·have hz2 : v1 = [] := List.eq_nil_of_length_eq_zero (by have h3 := HL1.out; have h4 := HL2.out; have h5 : 0 < u1.length := List.length_pos_iff.2 hz; omega)
         rw [hz2]; simpa using (Tm.Up.append.1 HUP1.out).1)
       have HIL : Hid (Ints wr g off (p ++ (u1 ++ v1) ++ (u2 ++ v2 ++ r))) := by have h := HI1.out; unfold Hid; simpa [List.append_assoc] using h
       have hj : decide ((a : Int) < (st : Int)) = false ∨ (decide ((a : Int) < (st : Int)) = true ∧ decide ((st : Int) < (mid : Int)) = false) := by
        by_cases h : a < st
        ·right; exact ⟨by simp <;> omega, by simp <;> omega⟩
        ·left; simp; omega
       rcases hj with j1 | ⟨j1, j2⟩
       ·have hlm : (p ++ (u1 ++ v1)).length = mid := by have h := HSL.out.2.length; have := HA.out; have := HL1.out; have := HL2.out; simp at h ⊢; omega
        by_cases hright : mid < en ∧ en < b
        ·have k1 : decide ((mid : Int) < (en : Int)) = true := by simp <;> omega
         have k2 : decide ((en : Int) < (b : Int)) = true := by simp <;> omega
         have HCALL3 := hide (HIH.out (b - mid) (by have := HNN.out; omega) (p ++ (u1 ++ v1)) u2 v2 r g off N cap wr (mid : Int) (en : Int) (b : Int) (by have := HL3.out; have := HL4.out; omega) (by rw [hlm]) (by rw [hlm]; have := HL3.out; omega) (by rw [hlm]; have := HL3.out; have := HL4.out; omega) (by have := HL3.out; omega) (by have := HL4.out; omega) (by rw [hlm]; have := HL3.out; have := HL4.out; have := HN.out; omega) hcap HRV.out (Tm.Up.append.1 HUP1.out).2.1 (Tm.Up.append.1 HVP1.out).2.1 (by have h := HIL.out; simpa [List.append_assoc] using h) (HC.out.turn HT.out))
         unfold byClassFn at HCALL3
         clear hlm
         go_wp2_with fail
         all_goals
          refine HCALL3.out.mono ?_
          rintro e w9 ⟨rfl, ⟨s9, hso9, hI9⟩, hT9⟩
          have HT9 := hide (HT.out.trans hT9)
          have HI9 : Hid (Ints w9 g off (p ++ ((u1 ++ v1) ++ s9) ++ r)) := by unfold Hid; simpa [List.append_assoc] using hI9
          have HSO9 := hide hso9
          clear hT9 hI9 hso9
          go_wp2
          all_goals (first | go_end0 | refine bodyPost_ret (results_none rfl _ _ _) rfl ?_)
          all_goals exact ⟨rfl, ⟨_, HGOAL.out _ _ HSL.out HSO9.out, HI9.out⟩, HT9.out⟩
        ·have HSR : Hid (Tm.Sorts (Tm.classOf lns) (u2 ++ v2) (u2 ++ v2)) := Tm.Sorts.of_up (by
          by_cases hz : u2 = []
          ·rw [hz]; simpa using (Tm.Up.append.1 HVP1.out).2.1
          ·have hz2 : v2 = [] := List.eq_nil_of_length_eq_zero (by have h3 := HL3.out; have h4 := HL4.out; have h5 : 0 < u2.length := List.length_pos_iff.2 hz; omega)
           rw [hz2]; simpa using (Tm.Up.append.1 HUP1.out).2.1)
         have HI9 : Hid (Ints wr g off (p ++ ((u1 ++ v1) ++ (u2 ++ v2)) ++ r)) := by have h := HIL.out; unfold Hid; simpa [List.append_assoc] using h
         clear hlm
         by_cases hme2 : mid < en
         ·have k1 : decide ((mid : Int) < (en : Int)) = true := by simp <;> omega
          have k2 : decide ((en : Int) < (b : Int)) = false := by simp <;> omega
          go_wp2
          all_goals (first | go_end0 | refine bodyPost_ret (results_none rfl _ _ _) rfl ?_)
          all_goals exact ⟨rfl, ⟨_, HGOAL.out _ _ HSL.out HSR.out, HI9.out⟩, HT.out⟩
         ·have k1 : decide ((mid : Int) < (en : Int)) = false := by simp <;> omega
          go_wp2
          all_goals (first | go_end0 | refine bodyPost_ret (results_none rfl _ _ _) rfl ?_)
          all_goals exact ⟨rfl, ⟨_, HGOAL.out _ _ HSL.out HSR.out, HI9.out⟩, HT.out⟩
       ·have hlm : (p ++ (u1 ++ v1)).length = mid := by have h := HSL.out.2.length; have := HA.out; have := HL1.out; have := HL2.out; simp at h ⊢; omega
        by_cases hright : mid < en ∧ en < b
        ·have k1 : decide ((mid : Int) < (en : Int)) = true := by simp <;> omega
         have k2 : decide ((en : Int) < (b : Int)) = true := by simp <;> omega
         have HCALL3 := hide (HIH.out (b - mid) (by have := HNN.out; omega) (p ++ (u1 ++ v1)) u2 v2 r g off N cap wr (mid : Int) (en : Int) (b : Int) (by have := HL3.out; have := HL4.out; omega) (by rw [hlm]) (by rw [hlm]; have := HL3.out; omega) (by rw [hlm]; have := HL3.out; have := HL4.out; omega) (by have := HL3.out; omega) (by have := HL4.out; omega) (by rw [hlm]; have := HL3.out; have := HL4.out; have := HN.out; omega) hcap HRV.out (Tm.Up.append.1 HUP1.out).2.1 (Tm.Up.append.1 HVP1.out).2.1 (by have h := HIL.out; simpa [List.append_assoc] using h) (HC.out.turn HT.out))
         unfold byClassFn at HCALL3
         clear hlm
         go_wp2_with fail
         all_goals
          refine HCALL3.out.mono ?_
          rintro e w9 ⟨rfl, ⟨s9, hso9, hI9⟩, hT9⟩
          have HT9 := hide (HT.out.trans hT9)
          have HI9 : Hid (Ints w9 g off (p ++ ((u1 ++ v1) ++ s9) ++ r)) := by unfold Hid; simpa [List.append_assoc] using hI9
          have HSO9 := hide hso9
          clear hT9 hI9 hso9
          go_wp2
          all_goals (first | go_end0 | refine bodyPost_ret (results_none rfl _ _ _) rfl ?_)
          all_goals exact ⟨rfl, ⟨_, HGOAL.out _ _ HSL.out HSO9.out, HI9.out⟩, HT9.out⟩
        ·have HSR : Hid (Tm.Sorts (Tm.classOf lns) (u2 ++ v2) (u2 ++ v2)) := Tm.Sorts.of_up (by
          by_cases hz : u2 = []
          ·rw [hz]; simpa using (Tm.Up.append.1 HVP1.out).2.1
          ·have hz2 : v2 = [] := List.eq_nil_of_length_eq_zero (by have h3 := HL3.out; have h4 := HL4.out; have h5 : 0 < u2.length := List.length_pos_iff.2 hz; omega)
           rw [hz2]; simpa using (Tm.Up.append.1 HUP1.out).2.1)
         have HI9 : Hid (Ints wr g off (p ++ ((u1 ++ v1) ++ (u2 ++ v2)) ++ r)) := by have h := HIL.out; unfold Hid; simpa [List.append_assoc] using h
         clear hlm
         by_cases hme2 : mid < en
         ·have k1 : decide ((mid : Int) < (en : Int)) = true := by simp <;> omega
          have k2 : decide ((en : Int) < (b : Int)) = false := by simp <;> omega
          go_wp2
          all_goals (first | go_end0 | refine bodyPost_ret (results_none rfl _ _ _) rfl ?_)
          all_goals exact ⟨rfl, ⟨_, HGOAL.out _ _ HSL.out HSR.out, HI9.out⟩, HT.out⟩
         ·have k1 : decide ((mid : Int) < (en : Int)) = false := by simp <;> omega
          go_wp2
          all_goals (first | go_end0 | refine bodyPost_ret (results_none rfl _ _ _) rfl ?_)
          all_goals exact ⟨rfl, ⟨_, HGOAL.out _ _ HSL.out HSR.out, HI9.out⟩, HT.out⟩
theorem merges_all (lns : List Tm.Ln) (bm : Nat) : ∀ n, Merges lns bm n := fun n => Nat.strongRecOn n fun n ih => symMerge_step lns bm n ih
theorem insertion_at (lns : List Tm.Ln) (bm : Nat) (p s r : List Int) (g off N cap : Nat) (w : World) {A B : Int} (hA : A = (p.length : Int)) (hB : B = ((p.length + s.length : Nat) : Int)) (hN : N = p.length + s.length + r.length) (hcap : N ≤ 1000000) (hR : ∀ z ∈ s, 0 ≤ z ∧ z ≤ 1114111) (hI : Ints w g off (p ++ s ++ r)) (hC : Cmp lns bm g w) :
  Calls Tryz.prog 195 #[.slice (some ⟨g, off, none⟩) N cap, .int .i64 A, .int .i64 B, byClassFn bm] w fun e w' => e = .returned (.tuple #[]) ∧ (∃ s', Tm.Sorts (Tm.classOf lns) s s' ∧ Ints w' g off (p ++ s' ++ r)) ∧ Turn g off N w w' := by
 subst hA hB
 exact insertion_any lns bm p s r g off N cap w hN hcap hR hI hC
def chunk (z o : Nat) (t : List Int) : List Int := (t.drop o).take z
theorem chunk_before {z o : Nat} {p x y : List Int} (h : o + z ≤ p.length) : chunk z o (p ++ x) = chunk z o (p ++ y) := by
 unfold chunk
 rw [List.drop_append_of_le_length (by omega), List.drop_append_of_le_length (by omega), List.take_append_of_le_length (by simp; omega), List.take_append_of_le_length (by simp; omega)]
theorem chunk_behind {z o : Nat} {p s s' r : List Int} (hs : s'.length = s.length) (h : p.length + s.length ≤ o) : chunk z o (p ++ s' ++ r) = chunk z o (p ++ s ++ r) := by
 unfold chunk
 have e1 : List.drop o (p ++ s') = [] := List.drop_eq_nil_of_le (by simp; omega)
 have e2 : List.drop o (p ++ s) = [] := List.drop_eq_nil_of_le (by simp; omega)
 rw [List.drop_append (l₁ := p ++ s'), List.drop_append (l₁ := p ++ s), e1, e2]
 simp [hs]
theorem chunk_at {z o : Nat} {p s r : List Int} (ho : o = p.length) (hz : z = s.length) : chunk z o (p ++ s ++ r) = s := by
 subst ho hz
 simp [chunk]
theorem chunk_last {z o : Nat} {p s : List Int} (ho : o = p.length) (hz : s.length ≤ z) : chunk z o (p ++ s) = s := by
 subst ho
 simp [chunk, List.take_of_length_le hz]
theorem chunk_none {z o : Nat} {t : List Int} (h : t.length ≤ o) : chunk z o t = [] := by unfold chunk; rw [List.drop_eq_nil_of_le h]; simp
theorem dvd_gap {d o a : Nat} (h1 : d ∣ o) (h2 : d ∣ a) (h : o < a) : o + d ≤ a := by
 have := Nat.le_of_dvd (by omega) (Nat.dvd_sub h2 h1)
 omega
theorem chunk_length {z o : Nat} {t : List Int} (h : o + z ≤ t.length) : (chunk z o t).length = z := by simp [chunk]; omega
theorem chunk_parts {z o : Nat} {t : List Int} : t = t.take o ++ chunk z o t ++ t.drop (o + z) := by
 unfold chunk
 rw [List.append_assoc, ← List.drop_drop, List.take_append_drop, List.take_append_drop]
theorem mem_chunk {z o : Nat} {t : List Int} {x : Int} (h : x ∈ chunk z o t) : x ∈ t := List.mem_of_mem_drop (List.mem_of_mem_take h)
set_option maxRecDepth 100000 in
set_option maxHeartbeats 4000000 in
theorem stable_any (lns : List Tm.Ln) (bm : Nat) (s : List Int) (g off N cap : Nat) (w : World) (hN : N = s.length) (hcap : N ≤ 100000) (hR : ∀ z ∈ s, 0 ≤ z ∧ z ≤ 1114111) (hI : Ints w g off s) (hC : Cmp lns bm g w) :
  Calls Tryz.prog 184 #[.slice (some ⟨g, off, none⟩) N cap, .int .i64 (N : Int), byClassFn bm] w fun e w' => e = .returned (.tuple #[]) ∧ (∃ s', Tm.Sorts (Tm.classOf lns) s s' ∧ Ints w' g off s') ∧ Turn g off N w w' := by
 have HI := hide hI
 have HR := hide hR
 have HC := hide hC
 have HN := hide hN
 have HBC : Hid (byClassFn bm = .func (.func 166) #[.map (some bm)] #[]) := rfl
 clear hI hR hC hN
 unfold byClassFn
 go_enter Tryz.func184, Tryz.ntmps184
 go_wp2
 go_loopw [7, 8] (fun va vb wr => ∃ (a : Nat) (t : List Int), va = .int .i64 a ∧ vb = .int .i64 ((a : Int) + 20) ∧ a ≤ N ∧ 20 ∣ a ∧ Tm.Same (Tm.classOf lns) s t ∧ (∀ o, o + 20 ≤ a → 20 ∣ o → Tm.Up (Tm.classOf lns) (chunk 20 o t)) ∧ Ints wr g off t ∧ Turn g off N w wr) (fun va _ _ => N + 20 - (intOf va).toNat)
 case atStart => exact ⟨0, s, rfl, by go_num, Nat.zero_le _, Nat.dvd_zero _, Tm.Same.refl _ _, fun o h => by omega, HI.out, Turn.refl _ _ _ _⟩
 case round =>
  obtain ⟨a, t, rfl, rfl, haN, had, hsame, hbef, hI, hT⟩ := hrel
  have HS := hide hsame
  have HBEF := hide hbef
  have HIr := hide hI
  have HT := hide hT
  have HAD := hide had
  have HTL : Hid (t.length = N) := by unfold Hid; rw [← hsame.length, HN.out]
  have HRt : Hid (∀ z ∈ t, 0 ≤ z ∧ z ≤ 1114111) := fun z hz => HR.out z (HS.out.mem.2 hz)
  clear hsame hbef hI hT had
  by_cases hb : a + 20 ≤ N
  ·have hd : decide ((a : Int) + 20 ≤ (N : Int)) = true := by simp <;> omega
   have hpl : (t.take a).length = a := by have := HTL.out; simp; omega
   have hcl : (chunk 20 a t).length = 20 := chunk_length (by have := HTL.out; omega)
   have hdl : (t.drop (a + 20)).length = N - (a + 20) := by have := HTL.out; simp; omega
   have HCALL := hide (insertion_at lns bm (t.take a) (chunk 20 a t) (t.drop (a + 20)) g off N cap wr (A := (a : Int)) (B := (a : Int) + 20) (by rw [hpl]) (by rw [hpl, hcl]; omega) (by rw [hpl, hcl, hdl]; omega) (by omega) (fun z hz => HRt.out z (mem_chunk hz)) (by rw [← chunk_parts]; exact HIr.out) (HC.out.turn HT.out))
   rw [HBC.out] at HCALL
   go_wp2_with fail
   refine HCALL.out.mono ?_
   rintro e w1 ⟨rfl, ⟨c, hso, hI1⟩, hT1⟩
   have hcc := hso.2.length
   have HT1 := hide (HT.out.trans hT1)
   have HI1 := hide hI1
   have HS1 : Hid (Tm.Same (Tm.classOf lns) s (t.take a ++ c ++ t.drop (a + 20))) := by
    refine HS.out.trans ?_
    conv => lhs; rw [chunk_parts (z := 20) (o := a) (t := t)]
    exact Tm.Same.append (Tm.Same.append (Tm.Same.refl _ _) hso.2) (Tm.Same.refl _ _)
   have HBEF1 : Hid (∀ o, o + 20 ≤ a + 20 → 20 ∣ o → Tm.Up (Tm.classOf lns) (chunk 20 o (t.take a ++ c ++ t.drop (a + 20)))) := by
    intro o ho hod
    by_cases e : o = a
    ·subst e
     rw [chunk_at hpl.symm (by rw [← hcc, hcl])]; exact hso.1
    ·have hg := dvd_gap hod HAD.out (by omega)
     have h := HBEF.out o hg hod
     rw [chunk_parts (z := 20) (o := a) (t := t), List.append_assoc] at h
     rw [List.append_assoc, chunk_before (y := chunk 20 a t ++ t.drop (a + 20)) (by rw [hpl]; exact hg)]
     exact h
   clear hso hI1 hT1 hcc hpl hcl hdl
   go_wp2
   go_roundw
   case rel => exact ⟨a + 20, _, by go_num, by go_num, hb, (Nat.dvd_add_right (Nat.dvd_refl 20)).2 HAD.out |> fun h => by rw [Nat.add_comm]; exact h, HS1.out, HBEF1.out, HI1.out, HT1.out⟩
   case measure => simp [intOf] <;> omega
  ·have hd : decide ((a : Int) + 20 ≤ (N : Int)) = false := by simp <;> omega
   have hpl : (t.take a).length = a := by have := HTL.out; simp; omega
   have hdl : (t.drop a).length = N - a := by have := HTL.out; simp; omega
   have HCALL := hide (insertion_at lns bm (t.take a) (t.drop a) [] g off N cap wr (A := (a : Int)) (B := (N : Int)) (by rw [hpl]) (by rw [hpl, hdl]; omega) (by rw [hpl, hdl]; simp; omega) (by omega) (fun z hz => HRt.out z (List.mem_of_mem_drop hz)) (by rw [List.append_nil, List.take_append_drop]; exact HIr.out) (HC.out.turn HT.out))
   rw [HBC.out] at HCALL
   go_wp2_with fail
   refine HCALL.out.mono ?_
   rintro e w1 ⟨rfl, ⟨c, hso, hI1⟩, hT1⟩
   have hcc := hso.2.length
   have HT1 := hide (HT.out.trans hT1)
   have HI1 : Hid (Ints w1 g off (t.take a ++ c)) := by have h := hI1; rw [List.append_nil] at h; exact h
   have HS1 : Hid (Tm.Same (Tm.classOf lns) s (t.take a ++ c)) := by
    refine HS.out.trans ?_
    conv => lhs; rw [← List.take_append_drop a t]
    exact Tm.Same.append (Tm.Same.refl _ _) hso.2
   have HALL : Hid (∀ o, 20 ∣ o → Tm.Up (Tm.classOf lns) (chunk 20 o (t.take a ++ c))) := by
    intro o hod
    by_cases e : o = a
    ·subst e
     rw [chunk_last hpl.symm (by omega)]; exact hso.1
    ·by_cases e2 : o < a
     ·have hg := dvd_gap hod HAD.out e2
      have h := HBEF.out o hg hod
      rw [← List.take_append_drop a t] at h
      rw [chunk_before (y := t.drop a) (by rw [hpl]; exact hg)]
      exact h
     ·have hg := dvd_gap HAD.out hod (by omega)
      rw [chunk_none (by simp; omega)]
      exact List.Pairwise.nil
   clear hso hI1 hT1 hcc hpl hdl HIr HT HS HBEF HRt HTL
   generalize t.take a ++ c = t1 at *
   go_wp2_with fail
   go_loopw [6] (fun vz wr => ∃ (z : Nat) (t : List Int), vz = .int .i64 z ∧ 20 ≤ z ∧ z ≤ 2 * N + 20 ∧ Tm.Same (Tm.classOf lns) s t ∧ (∀ o, z ∣ o → Tm.Up (Tm.classOf lns) (chunk z o t)) ∧ Ints wr g off t ∧ Turn g off N w wr) (fun vz _ => 2 * N + 20 - (intOf vz).toNat)
   case atStart => exact ⟨20, t1, rfl, Nat.le_refl _, by omega, HS1.out, HALL.out, HI1.out, HT1.out⟩
   case round =>
    obtain ⟨z, t, rfl, hz20, hzN, hsame, hall, hI, hT⟩ := hrel
    have HS := hide hsame
    have HALLz := hide hall
    have HIr := hide hI
    have HT := hide hT
    have HTL : Hid (t.length = N) := by unfold Hid; rw [← hsame.length, HN.out]
    clear hsame hall hI hT
    by_cases hlt : z < N
    ·have hd2 : decide ((z : Int) < (N : Int)) = true := by simp <;> omega
     go_wp2_with fail
     go_loopw [7, 8] (fun va vb wi => ∃ (a : Nat) (t : List Int), va = .int .i64 a ∧ vb = .int .i64 ((a : Int) + 2 * (z : Int)) ∧ a ≤ N ∧ 2 * z ∣ a ∧ Tm.Same (Tm.classOf lns) s t ∧ (∀ o, o + 2 * z ≤ a → 2 * z ∣ o → Tm.Up (Tm.classOf lns) (chunk (2 * z) o t)) ∧ (∀ o, a ≤ o → z ∣ o → Tm.Up (Tm.classOf lns) (chunk z o t)) ∧ Ints wi g off t ∧ Turn g off N w wi) (fun va _ _ => N + 2 * z - (intOf va).toNat)
     case atStart => exact ⟨0, t, rfl, by go_num, Nat.zero_le _, Nat.dvd_zero _, HS.out, fun o h => by omega, fun o _ ho => HALLz.out o ho, HIr.out, HT.out⟩
     case round =>
      obtain ⟨a, t, rfl, rfl, haN, had, hsame, hbef, hbeh, hI, hT⟩ := hrel
      have HS2 := hide hsame
      have HBEF := hide hbef
      have HBEH := hide hbeh
      have HI2 := hide hI
      have HT2 := hide hT
      have HAD := hide had
      have HTL2 : Hid (t.length = N) := by unfold Hid; rw [← hsame.length, HN.out]
      have HRt : Hid (∀ y ∈ t, 0 ≤ y ∧ y ≤ 1114111) := fun y hy => HR.out y (HS2.out.mem.2 hy)
      have HZA : Hid (z ∣ a) := Nat.dvd_trans (Nat.dvd_mul_left z 2) had
      clear hsame hbef hbeh hI hT had
      have hpl : (t.take a).length = a := by have := HTL2.out; simp; omega
      by_cases hb : a + 2 * z ≤ N
      ·have hd3 : decide ((a : Int) + 2 * (z : Int) ≤ (N : Int)) = true := by simp <;> omega
       have hc1 : (chunk z a t).length = z := chunk_length (by have := HTL2.out; omega)
       have hc2 : (chunk z (a + z) t).length = z := chunk_length (by have := HTL2.out; omega)
       have hdl : (t.drop (a + 2 * z)).length = N - (a + 2 * z) := by have := HTL2.out; simp; omega
       have hpt : t = t.take a ++ chunk z a t ++ chunk z (a + z) t ++ t.drop (a + 2 * z) := by
        conv => lhs; rw [chunk_parts (z := z) (o := a) (t := t)]
        rw [List.append_assoc (t.take a ++ chunk z a t)]
        congr 1
        have h := (List.take_append_drop z (t.drop (a + z))).symm
        rw [List.drop_drop] at h
        rw [show a + 2 * z = a + z + z from by omega]
        exact h
       have HCALL := hide (merges_all lns bm (z + z) (t.take a) (chunk z a t) (chunk z (a + z) t) (t.drop (a + 2 * z)) g off N cap wr (a : Int) ((a : Int) + (z : Int)) ((a : Int) + 2 * (z : Int)) (by rw [hc1, hc2]) (by rw [hpl]) (by rw [hpl, hc1]; omega) (by rw [hpl, hc1, hc2]; omega) (by omega) (by omega) (by rw [hpl, hc1, hc2, hdl]; omega) (by omega) (fun y hy => HRt.out y (by rcases List.mem_append.1 hy with h | h <;> exact mem_chunk h)) (HBEH.out a (Nat.le_refl _) HZA.out) (HBEH.out (a + z) (by omega) ((Nat.dvd_add_right HZA.out).2 (Nat.dvd_refl z))) (by rw [← hpt]; exact HI2.out) (HC.out.turn HT2.out))
       rw [HBC.out] at HCALL
       go_wp2_with fail
       refine HCALL.out.mono ?_
       rintro e w3 ⟨rfl, ⟨c, hso, hI3⟩, hT3⟩
       have hcc : c.length = 2 * z := by have h := hso.2.length; rw [List.length_append, hc1, hc2] at h; omega
       have HT3 := hide (HT2.out.trans hT3)
       have HI3 := hide hI3
       have HS3 : Hid (Tm.Same (Tm.classOf lns) s (t.take a ++ c ++ t.drop (a + 2 * z))) := by
        refine HS2.out.trans ?_
        conv => lhs; rw [hpt]
        rw [List.append_assoc (t.take a) (chunk z a t)]
        exact Tm.Same.append (Tm.Same.append (Tm.Same.refl _ _) hso.2) (Tm.Same.refl _ _)
       have HBEF3 : Hid (∀ o, o + 2 * z ≤ a + 2 * z → 2 * z ∣ o → Tm.Up (Tm.classOf lns) (chunk (2 * z) o (t.take a ++ c ++ t.drop (a + 2 * z)))) := by
        intro o ho hod
        by_cases e : o = a
        ·subst e
         rw [chunk_at hpl.symm hcc.symm]; exact hso.1
        ·have hg := dvd_gap hod HAD.out (by omega)
         have h := HBEF.out o hg hod
         rw [← List.take_append_drop a t] at h
         rw [List.append_assoc, chunk_before (y := t.drop a) (by rw [hpl]; exact hg)]
         exact h
       have HBEH3 : Hid (∀ o, a + 2 * z ≤ o → z ∣ o → Tm.Up (Tm.classOf lns) (chunk z o (t.take a ++ c ++ t.drop (a + 2 * z)))) := by
        intro o ho hod
        have h := HBEH.out o (by omega) hod
        rw [hpt, List.append_assoc (t.take a) (chunk z a t)] at h
        rw [chunk_behind (s := chunk z a t ++ chunk z (a + z) t) (by rw [hcc, List.length_append, hc1, hc2]; omega) (by rw [hpl, List.length_append, hc1, hc2]; omega)]
        exact h
       clear hso hI3 hT3 hcc hpl hc1 hc2 hdl hpt
       go_wp2
       go_roundw
       case rel => exact ⟨a + 2 * z, _, by go_num, by go_num, hb, (Nat.dvd_add_right HAD.out).2 (Nat.dvd_refl _), HS3.out, HBEF3.out, HBEH3.out, HI3.out, HT3.out⟩
       case measure => simp [intOf] <;> omega
      ·have hd3 : decide ((a : Int) + 2 * (z : Int) ≤ (N : Int)) = false := by simp <;> omega
       by_cases hm : a + z < N
       ·have hd4 : decide ((a : Int) + (z : Int) < (N : Int)) = true := by simp <;> omega
        have hc1 : (chunk z a t).length = z := chunk_length (by have := HTL2.out; omega)
        have hdl : (t.drop (a + z)).length = N - (a + z) := by have := HTL2.out; simp; omega
        have hch : chunk z (a + z) t = t.drop (a + z) := by unfold chunk; rw [List.take_of_length_le (by rw [hdl]; omega)]
        have hpt : t = t.take a ++ chunk z a t ++ t.drop (a + z) := chunk_parts
        have HCALL := hide (merges_all lns bm (N - a) (t.take a) (chunk z a t) (t.drop (a + z)) [] g off N cap wr (a : Int) ((a : Int) + (z : Int)) (N : Int) (by rw [hc1, hdl]; omega) (by rw [hpl]) (by rw [hpl, hc1]; omega) (by rw [hpl, hc1, hdl]; omega) (by omega) (by omega) (by rw [hpl, hc1, hdl]; simp; omega) (by omega) (fun y hy => HRt.out y (by rcases List.mem_append.1 hy with h | h; exact mem_chunk h; exact List.mem_of_mem_drop h)) (HBEH.out a (Nat.le_refl _) HZA.out) (by rw [← hch]; exact HBEH.out (a + z) (by omega) ((Nat.dvd_add_right HZA.out).2 (Nat.dvd_refl z))) (by rw [List.append_nil, ← hpt]; exact HI2.out) (HC.out.turn HT2.out))
        rw [HBC.out] at HCALL
        go_wp2_with fail
        refine HCALL.out.mono ?_
        rintro e w3 ⟨rfl, ⟨c, hso, hI3⟩, hT3⟩
        have hcc : c.length = N - a := by have h := hso.2.length; rw [List.length_append, hc1, hdl] at h; omega
        have HT3 := hide (HT2.out.trans hT3)
        have HI3 : Hid (Ints w3 g off (t.take a ++ c)) := by have h := hI3; rw [List.append_nil] at h; exact h
        have HS3 : Hid (Tm.Same (Tm.classOf lns) s (t.take a ++ c)) := by
         refine HS2.out.trans ?_
         conv => lhs; rw [hpt]
         rw [List.append_assoc]
         exact Tm.Same.append (Tm.Same.refl _ _) hso.2
        have HALL3 : Hid (∀ o, 2 * z ∣ o → Tm.Up (Tm.classOf lns) (chunk (2 * z) o (t.take a ++ c))) := by
         intro o hod
         by_cases e : o = a
         ·subst e
          rw [chunk_last hpl.symm (by omega)]; exact hso.1
         ·by_cases e2 : o < a
          ·have hg := dvd_gap hod HAD.out e2
           have h := HBEF.out o hg hod
           rw [← List.take_append_drop a t] at h
           rw [chunk_before (y := t.drop a) (by rw [hpl]; exact hg)]
           exact h
          ·have hg := dvd_gap HAD.out hod (by omega)
           rw [chunk_none (by simp; omega)]
           exact List.Pairwise.nil
        clear hso hI3 hT3 hcc hpl hc1 hdl hpt hch
        go_wp2
        go_roundw
        case rel => exact ⟨2 * z, _, by go_num, by omega, by omega, HS3.out, HALL3.out, HI3.out, HT3.out⟩
        case measure => simp [intOf] <;> omega
       ·have hd4 : decide ((a : Int) + (z : Int) < (N : Int)) = false := by simp <;> omega
        have hdl : (t.drop a).length = N - a := by have := HTL2.out; simp; omega
        have HALL3 : Hid (∀ o, 2 * z ∣ o → Tm.Up (Tm.classOf lns) (chunk (2 * z) o t)) := by
         intro o hod
         by_cases e : o = a
         ·subst e
          have h := HBEH.out o (Nat.le_refl _) HZA.out
          unfold chunk at h ⊢
          rw [List.take_of_length_le (by rw [hdl]; omega)] at h ⊢
          exact h
         ·by_cases e2 : o < a
          ·exact HBEF.out o (dvd_gap hod HAD.out e2) hod
          ·have hg := dvd_gap HAD.out hod (by omega)
           rw [chunk_none (by have := HTL2.out; omega)]
           exact List.Pairwise.nil
        clear hpl hdl
        go_wp2
        go_roundw
        case rel => exact ⟨2 * z, t, by go_num, by omega, by omega, HS2.out, HALL3.out, HI2.out, HT2.out⟩
        case measure => simp [intOf] <;> omega
    ·have hd2 : decide ((z : Int) < (N : Int)) = false := by simp <;> omega
     have HF : Hid (Tm.Sorts (Tm.classOf lns) s t) := by
      refine ⟨?_, HS.out⟩
      have h := HALLz.out 0 (Nat.dvd_zero _)
      unfold chunk at h
      rw [List.drop_zero, List.take_of_length_le (by have := HTL.out; omega)] at h
      exact h
     go_wp2
     go_end0
     exact ⟨rfl, ⟨t, HF.out, HIr.out⟩, HT.out⟩
theorem insertion_none (v fv : Value) (a : Nat) (w : World) (ha : a ≤ 1000000) : Calls Tryz.prog 195 #[v, .int .i64 (a : Int), .int .i64 (a : Int), fv] w fun e w' => e = .returned (.tuple #[]) ∧ w' = w := by
 go_enter Tryz.func195, Tryz.ntmps195
 go_wp2
 go_loopw [8] (fun vi wr => vi = .int .i64 ((a : Int) + 1) ∧ wr = w) (fun _ _ => 0)
 case atStart => exact ⟨rfl, rfl⟩
 case round =>
  obtain ⟨rfl, rfl⟩ := hrel
  have hd : decide ((a : Int) + 1 < (a : Int)) = false := by simp <;> omega
  go_wp2
  go_end0
  exact ⟨rfl, rfl⟩
set_option maxRecDepth 100000 in
set_option maxHeartbeats 1000000 in
theorem stable_none (v fv : Value) (w : World) : Calls Tryz.prog 184 #[v, .int .i64 0, fv] w fun e w' => e = .returned (.tuple #[]) ∧ w' = w := by
 have HI := hide (insertion_none v fv 0 w (by omega))
 go_enter Tryz.func184, Tryz.ntmps184
 go_wp2
 go_loopw [7, 8] (fun va vb wr => va = .int .i64 0 ∧ vb = .int .i64 20 ∧ wr = w) (fun _ _ _ => 0)
 case atStart => exact ⟨rfl, rfl, rfl⟩
 case round =>
  obtain ⟨rfl, rfl, rfl⟩ := hrel
  go_wp2_with fail
  refine HI.out.mono ?_
  rintro e w1 ⟨rfl, rfl⟩
  go_wp2_with fail
  go_loopw [6] (fun vz wi => vz = .int .i64 20 ∧ wi = w1) (fun _ _ => 0)
  case atStart => exact ⟨rfl, rfl⟩
  case round =>
   obtain ⟨rfl, rfl⟩ := hrel
   go_wp2
   go_end0
   exact ⟨rfl, rfl⟩
set_option maxRecDepth 100000 in
theorem SortStableFunc_any (lns : List Tm.Ln) (bm : Nat) (s : List Int) (g off N cap : Nat) (w : World) (hN : N = s.length) (hcap : N ≤ 100000) (hR : ∀ z ∈ s, 0 ≤ z ∧ z ≤ 1114111) (hI : Ints w g off s) (hC : Cmp lns bm g w) :
  Calls Tryz.prog 165 #[.slice (some ⟨g, off, none⟩) N cap, byClassFn bm] w fun e w' => e = .returned (.tuple #[]) ∧ (∃ s', Tm.Sorts (Tm.classOf lns) s s' ∧ Ints w' g off s') ∧ Turn g off N w w' := by
 have HC := hide (stable_any lns bm s g off N cap w hN hcap hR hI hC)
 clear hI hC hR hN
 unfold byClassFn at HC ⊢
 go_enter Tryz.func165, Tryz.ntmps165
 go_wp2_with fail
 refine HC.out.mono ?_
 rintro e w1 ⟨rfl, h1, h2⟩
 have H1 := hide h1
 have H2 := hide h2
 clear h1 h2
 go_wp2
 go_end0
 exact ⟨rfl, H1.out, H2.out⟩
set_option maxRecDepth 100000 in
theorem SortStableFunc_none (a : Option Addr) (cap : Nat) (fv : Value) (w : World) : Calls Tryz.prog 165 #[.slice a 0 cap, fv] w fun e w' => e = .returned (.tuple #[]) ∧ w' = w := by
 go_enter Tryz.func165, Tryz.ntmps165
 go_wp2_with fail
 refine (stable_none _ _ _).mono ?_
 rintro e w1 ⟨rfl, rfl⟩
 go_wp2
 go_end0
 exact ⟨rfl, rfl⟩
structure NB (lns : List Tm.Ln) (bm base : Nat) (w : World) : Prop where
 base : ∃ w0, NodesRd w0 bm lns ∧ Below w0.heap.size w0 w ∧ w0.heap.size ≤ base
theorem NB.below {lns : List Tm.Ln} {bm base : Nat} {w w' : World} (h : NB lns bm base w) (hb : Below base w w') : NB lns bm base w' := by
 obtain ⟨w0, h1, h2, h3⟩ := h.base
 exact ⟨w0, h1, h2.trans (hb.mono h3), h3⟩
theorem NB.rd {lns : List Tm.Ln} {bm base : Nat} {w : World} (h : NB lns bm base w) : NodesRd w bm lns := by
 obtain ⟨w0, h1, h2, h3⟩ := h.base
 exact h1.below h2
def partsAns (base : Nat) (ys : List Int) (w : World) (e : Ending) (w' : World) : Prop := ∃ v', e = .returned v' ∧ w'.ownsRow base 3 1 v' ys.length (ints ys) ∧ Below base w w'
theorem ints_snoc (l : List Int) (x : Int) : ints (l ++ [x]) = ints l ++ [.int .i64 x] := by simp [ints]
set_option maxRecDepth 100000 in
set_option maxHeartbeats 2000000 in
theorem appendParts_leaf (lns : List Tm.Ln) (bm base : Nat) (r : Int) (v : Value) (xs : List Int) (w : World) (h0 : (Tm.parts lns r).length = 0) (hr : 0 ≤ r ∧ r ≤ 1114111) (hN : NB lns bm base w) (hown : w.ownsRow base 3 1 v xs.length (ints xs)) (hbase : base ≤ w.heap.size) (hlen : xs.length + 1 ≤ 100000) :
  Calls Tryz.prog 129 #[.map (some bm), v, .int .i64 r] w fun e w' => partsAns base (xs ++ [r]) w e w' := by
 obtain ⟨f, vp, vs, hmap, hfv, hp, hs⟩ := hN.rd.at hr.1
 obtain ⟨i0, hi, hz0, hz1, hz2⟩ := info_parts Tryz.infoInt
 obtain ⟨av, cv, rfl⟩ := (Reads.of_owns hown).shape
 have HMAP := hide hmap
 have HOWN := hide hown
 obtain ⟨pa, pc, rfl⟩ := hp.shape
 obtain ⟨sa, sc, rfl⟩ := hs.shape
 have HP := hide hp
 generalize hpl : (Tm.parts lns r).length = pl at *
 clear hmap hp hs hown hN hpl
 subst h0
 go_enter Tryz.func129, Tryz.ntmps129
 go_wp2_with (at_lookup; go_must (refine wpList_look rfl _ _ rfl bm lns.length f rfl HMAP.out r rfl (wf_rune hr) _ hfv ?_))
 have hbw : Below w.heap.size w (w.alloc (.cells #[.int .i64 (Tm.classOf lns r), .slice pa 0 pc, .slice sa (Tm.seqsAt lns r).length sc] 251)) := (Below.refl _ _).alloc (Nat.le_refl _) _
 refine (hasParts_any _ 0 (ints (Tm.parts lns r)) _ (HP.out.below hbw HP.out.2.1)).mono ?_
 rintro e w1 ⟨rfl, hb1⟩
 have HB1 : Hid (Below w.heap.size w w1) := hbw.trans (hb1.mono (by simp))
 have hs1 := HB1.out.size
 have HO1 := hide (owns_below HOWN.out HB1.out)
 clear hbw hb1
 go_wp2_with (at_builtin; go_must (refine wpList_append_own _ rfl _ _ 83 rfl base 3 i0 (.int .i64 0) 1 8 Tryz.underlying83 hi hz0 hz1 hz2 rfl (by decide) _ _ _ rfl (HO1.out.alloc _) ⟨w1.heap.size, 0, none⟩ 1 1 [.int .i64 r] rfl rfl news_one (by intro u hu; simp at hu; subst hu; rfl) (by unfold maxLen; omega) (by omega) (by simp; omega) ?_))
 intro v' w2 hown2 hg2 _
 have HB2 : Hid (Below base w w2) := ((HB1.out.mono hbase).alloc (by omega) _).grown hg2 (by simp; omega) (fun j hj => (HO1.out.lt j hj).1)
 have HO2 : Hid (w2.ownsRow base 3 1 v' (xs ++ [r]).length (ints (xs ++ [r]))) := by unfold Hid; rw [ints_snoc, List.length_append]; exact hown2
 clear hown2 hg2
 go_wp2
 go_ret
 exact ⟨v', rfl, HO2.out, HB2.out⟩
set_option maxRecDepth 100000 in
set_option maxHeartbeats 2000000 in
theorem appendParts_any (lns : List Tm.Ln) (hfit : ∀ o ∈ lns, Tm.Fit o) (bm base : Nat) : ∀ (n : Nat) (r : Int) (v : Value) (xs : List Int) (w : World), Tm.ends lns n r = true → 0 ≤ r ∧ r ≤ 1114111 → NB lns bm base w → w.ownsRow base 3 1 v xs.length (ints xs) → base ≤ w.heap.size → xs.length + 2 ^ n ≤ 100000 →
  Calls Tryz.prog 129 #[.map (some bm), v, .int .i64 r] w fun e w' => partsAns base (xs ++ Tm.expand lns n r) w e w' := by
 intro n
 induction n with
 | zero =>
  intro r v xs w hends hr hN hown hbase hlen
  exact appendParts_leaf lns bm base r v xs w (by simpa [Tm.ends] using hends) hr hN hown hbase (by simpa using hlen)
 | succ n ih =>
  intro r v xs w hends hr hN hown hbase hlen
  by_cases h0 : (Tm.parts lns r).length = 0
  ·rw [Tm.expand_leaf h0]
   exact appendParts_leaf lns bm base r v xs w h0 hr hN hown hbase (by have := Nat.one_le_two_pow (n := n + 1); omega)
  have hall : (Tm.parts lns r).all (Tm.ends lns n) = true := by
   rw [Tm.ends] at hends
   simpa [h0] using hends
  have hpf := parts_few hfit r
  have HEX := hide (Tm.expand_part (lns := lns) (n := n) h0)
  have HSH := hide (Tm.flat_short (lns := lns) (fun q => parts_few hfit q) n)
  have HALL := hide hall
  have HRG := hide (parts_range hfit r)
  have HIH := hide ih
  obtain ⟨w0, hw1, hw2, hw3⟩ := hN.base
  obtain ⟨f, vp, vs, hmap0, hfv, hp0, hs0⟩ := hw1.at hr.1
  have hmap : MapIs w bm lns.length f := hmap0.same (hw2.block bm hmap0.lt)
  have hp := hp0.below hw2 hp0.2.1
  have hs := hs0.below hw2
  have HMAP := hide hmap
  have HW2 := hide hw2
  have HP0 := hide hp0
  have HOWN := hide hown
  have HN := hide hN
  obtain ⟨pa, pc, rfl⟩ := hp.shape
  obtain ⟨sa, sc, rfl⟩ := hs.shape
  have HP := hide hp
  obtain ⟨pl, hpl⟩ : ∃ pl, (Tm.parts lns r).length = pl := ⟨_, rfl⟩
  rw [hpl] at hfv HP HP0 h0 hpf
  have HPL := hide hpl
  have hpow : 2 ^ (n + 1) = 2 ^ n + 2 ^ n := by rw [Nat.pow_succ]; omega
  have HLEN : Hid (xs.length + 2 ^ n + 2 ^ n ≤ 100000) := by unfold Hid; omega
  have hgt : decide (0 < pl) = true := by simp; omega
  clear hmap hp hs hown hN hpl ih hall hends hlen hpow hmap0 hp0 hs0 hw1 hw2
  go_enter Tryz.func129, Tryz.ntmps129
  go_wp2_with (at_lookup; go_must (refine wpList_look rfl _ _ rfl bm lns.length f rfl HMAP.out r rfl (wf_rune hr) _ hfv ?_))
  have hbw : Below w.heap.size w (w.alloc (.cells #[.int .i64 (Tm.classOf lns r), .slice pa pl pc, .slice sa (Tm.seqsAt lns r).length sc] 251)) := (Below.refl _ _).alloc (Nat.le_refl _) _
  have hnlt : w.heap.size < (w.alloc (.cells #[.int .i64 (Tm.classOf lns r), .slice pa pl pc, .slice sa (Tm.seqsAt lns r).length sc] 251)).heap.size := by simp
  refine (hasParts_any _ pl (ints (Tm.parts lns r)) _ (HP.out.below hbw HP.out.2.1)).mono ?_
  rintro e w1 ⟨rfl, hb1⟩
  have HB1 : Hid (Below w.heap.size w w1) := hbw.trans (hb1.mono (by simp))
  have hs1 := HB1.out.size
  have n1 : w1.cell? ⟨w.heap.size, 1, none⟩ = some (.slice pa pl pc) := by rw [hb1.cell (p := ⟨w.heap.size, 1, none⟩) hnlt, cell_new rfl]; rfl
  have HO1 := hide (owns_below HOWN.out HB1.out)
  have HN1 := hide (HN.out.below (HB1.out.mono hbase))
  have HP1 := hide (HP.out.below HB1.out HP.out.2.1)
  clear hbw hb1 hnlt
  go_wp2_with fail
  go_loopw [1, 25] (fun vv i wr => ∃ (k : Nat) (ys : List Int), k ≤ pl ∧ i = .int .i64 k ∧ ys = xs ++ ((Tm.parts lns r).take k).flatMap (Tm.expand lns n) ∧ wr.ownsRow base 3 1 vv ys.length (ints ys) ∧ Below base w1 wr) (fun _ i _ => pl - (intOf i).toNat)
  case atStart => exact ⟨0, xs, Nat.zero_le _, rfl, by simp, HO1.out, Below.refl _ _⟩
  case round =>
   obtain ⟨k, ys, hk, rfl, hys, hown2, hb2⟩ := hrel
   have HYS := hide hys
   have HO2 := hide hown2
   have HB2 := hide hb2
   have hz2 := hb2.size
   clear hys hown2 hb2
   by_cases hlt : k < pl
   ·have hlt' : k < (Tm.parts lns r).length := by rw [HPL.out]; exact hlt
    have hall2 : Below w0.heap.size w0 wr := HW2.out.trans (((HB1.out.mono hbase).trans HB2.out).mono hw3)
    obtain ⟨g, off, rfl, hg, hc⟩ := Reads.at (k := k) (by rw [HPL.out]; exact HP0.out.below hall2 HP0.out.2.1) hlt'
    have hx := HRG.out _ (List.getElem_mem hlt')
    have hex := List.all_eq_true.1 HALL.out _ (List.getElem_mem hlt')
    have HSN := hide (Tm.flat_snoc (f := Tm.expand lns n) hlt')
    have hyl : ys.length + 2 ^ n ≤ 100000 := by
     have h1 := HSH.out ((Tm.parts lns r).take k)
     have h2 : ((Tm.parts lns r).take k).length ≤ 1 := by rw [List.length_take]; omega
     have h3 := Nat.mul_le_mul_right (2 ^ n) h2
     have h4 := HLEN.out
     rw [HYS.out, List.length_append]
     omega
    have HNr := hide (HN1.out.below HB2.out)
    have hcell : wr.cell? ⟨g, off + k, none⟩ = some (.int .i64 (Tm.parts lns r)[k]) := hc
    generalize (Tm.parts lns r)[k] = x at *
    clear hall2 hc
    go_wp2_with fail
    refine (HIH.out x _ ys wr hex hx HNr.out HO2.out (by omega) hyl).mono ?_
    rintro e w3 ⟨v3, rfl, hown3, hb3⟩
    have HO3 := hide hown3
    have HB3 : Hid (Below base w1 w3) := HB2.out.trans hb3
    have HYS3 : Hid (ys ++ Tm.expand lns n x = xs ++ ((Tm.parts lns r).take (k + 1)).flatMap (Tm.expand lns n)) := by unfold Hid; rw [HSN.out, ← List.append_assoc, ← HYS.out]
    clear hown3 hb3
    go_wp2
    go_roundw
    case rel => exact ⟨k + 1, ys ++ Tm.expand lns n x, by omega, by go_num, HYS3.out, HO3.out, HB3.out⟩
    case measure => simp [intOf]; omega
   ·have HF : Hid (ys = xs ++ Tm.expand lns (n + 1) r) := by unfold Hid; rw [HYS.out, HEX.out, List.take_of_length_le (by rw [HPL.out]; omega)]
    have HBF : Hid (Below base w wr) := (HB1.out.mono hbase).trans HB2.out
    obtain ⟨a3, c3, rfl⟩ := (Reads.of_owns HO2.out).shape
    go_wp2
    go_ret
    refine ⟨_, rfl, ?_, HBF.out⟩
    rw [← HF.out]
    exact HO2.out
end Go.Proofs.YtmnjjjhmnhfapaaGreatDoor
