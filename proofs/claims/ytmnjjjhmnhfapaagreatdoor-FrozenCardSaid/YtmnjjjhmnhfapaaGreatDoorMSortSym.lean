import Derived.Test.YtmnjjjhmnhfapaaGreatDoorMSortTwo
namespace Go.Proofs.YtmnjjjhmnhfapaaGreatDoor
open Go.RowKit

theorem rotate_at (p u v r : List Int) (g off N cap : Nat) (fv : Value) (w : World) {A B C : Int} (hA : A = (p.length : Int)) (hB : B = ((p.length + u.length : Nat) : Int)) (hC : C = ((p.length + u.length + v.length : Nat) : Int)) (hu : 0 < u.length) (hv : 0 < v.length) (hN : N = p.length + u.length + v.length + r.length) (hcap : N ≤ 1000000) (hI : Ints w g off (p ++ u ++ v ++ r)) :
    Calls Tryz.prog 209 #[.slice (some ⟨g, off, none⟩) N cap, .int .i64 A, .int .i64 B, .int .i64 C, fv] w fun e w' => e = .returned (.tuple #[]) ∧ Ints w' g off (p ++ v ++ u ++ r) ∧ Turn g off N w w' := by
  subst hA hB hC
  exact rotate_any p u v r g off N cap fv w hu hv hN hcap hI

/-- What symMerge is to do with two sorted parts of n numbers together. -/
def Merges (lns : List Tm.Ln) (bm n : Nat) : Prop := ∀ (p u v r : List Int) (g off N cap : Nat) (w : World) (A B C : Int), u.length + v.length = n → A = (p.length : Int) → B = ((p.length + u.length : Nat) : Int) → C = ((p.length + u.length + v.length : Nat) : Int) → 0 < u.length → 0 < v.length → N = p.length + u.length + v.length + r.length → N ≤ 1000000 → (∀ z ∈ u ++ v, 0 ≤ z ∧ z ≤ 1114111) → Tm.Up (Tm.classOf lns) u → Tm.Up (Tm.classOf lns) v → Ints w g off (p ++ u ++ v ++ r) → Cmp lns bm g w →
  Calls Tryz.prog 196 #[.slice (some ⟨g, off, none⟩) N cap, .int .i64 A, .int .i64 B, .int .i64 C, byClassFn bm] w fun e w' => e = .returned (.tuple #[]) ∧ (∃ s', Tm.Sorts (Tm.classOf lns) (u ++ v) s' ∧ Ints w' g off (p ++ s' ++ r)) ∧ Turn g off N w w'

set_option maxRecDepth 100000 in
set_option maxHeartbeats 8000000 in
theorem symMerge_step (lns : List Tm.Ln) (bm n : Nat) (ih : ∀ k, k < n → Merges lns bm k) : Merges lns bm n := by
  intro p u v r g off N cap w A B C hn hA hB hC hu hv hN hcap hR hup hvp hI hC'
  by_cases hu1 : u.length = 1
  · obtain ⟨x, rfl⟩ : ∃ x, u = [x] := List.length_eq_one_iff.1 hu1
    subst hA hB hC
    exact symMerge_left lns bm p v r x g off N cap w hv hN hcap (hR x (by simp)) (fun z hz => hR z (by simp [hz])) hvp hI hC'
  by_cases hv1 : v.length = 1
  · obtain ⟨x, rfl⟩ : ∃ x, v = [x] := List.length_eq_one_iff.1 hv1
    subst hA hB hC
    exact symMerge_right lns bm p u r x g off N cap w (by omega) hN hcap (hR x (by simp)) (fun z hz => hR z (by simp [hz])) hup (by simpa using hI) hC'
  obtain ⟨a, ha⟩ : ∃ a, p.length = a := ⟨_, rfl⟩
  obtain ⟨m, hm⟩ : ∃ m, p.length + u.length = m := ⟨_, rfl⟩
  obtain ⟨b, hb⟩ : ∃ b, p.length + u.length + v.length = b := ⟨_, rfl⟩
  rw [ha] at hA
  rw [hm] at hB
  rw [hb] at hC
  subst hA hB hC
  have HI := hide hI
  have HR := hide hR
  have HC := hide hC'
  have HUP := hide hup
  have HVP := hide hvp
  have HIH := hide ih
  have HA := hide ha
  have HM : Hid (a + u.length = m) := by unfold Hid; omega
  have HB : Hid (m + v.length = b) := by unfold Hid; omega
  have HNN : Hid (n = b - a) := by unfold Hid; omega
  have HN : Hid (N = b + r.length) := by unfold Hid; omega
  have ham : a + 2 ≤ m := by omega
  have hmb : m + 2 ≤ b := by omega
  have hbN : b ≤ N := by omega
  have h0 : ((((m : Int) - (a : Int)) == 1) : Bool) = false := by rw [beq_eq_false_iff_ne]; omega
  have h1 : ((((b : Int) - (m : Int)) == 1) : Bool) = false := by rw [beq_eq_false_iff_ne]; omega
  obtain ⟨mid, hmid⟩ : ∃ mid : Nat, ((a : Int) + (b : Int)) / 2 = (mid : Int) := ⟨(a + b) / 2, by omega⟩
  have hmid1 : a < mid := by omega
  have hmid2 : mid < b := by omega
  have hmid3 : 2 * mid ≤ a + b := by omega
  have hmid4 : a + b ≤ 2 * mid + 1 := by omega
  clear hI hb hm ha hN hR hC' hup hvp ih hn hu hv hu1 hv1
  unfold byClassFn
  by_cases hcs : mid < m
  · have hgt : mid < m := hcs
    obtain ⟨s0, hs0⟩ : ∃ s0 : Nat, (mid : Int) + (m : Int) - (b : Int) = (s0 : Int) := ⟨mid + m - b, by omega⟩
    have hdm : decide ((mid : Int) < (m : Int)) = true := by simp <;> omega
    obtain ⟨r0, hr0⟩ : ∃ r0 : Nat, r0 = mid := ⟨_, rfl⟩
    have hs0a : a ≤ s0 := by omega
    have hs0r : s0 ≤ r0 := by omega
    have hr0m : r0 ≤ m := by omega
    have hr0d : r0 ≤ mid := by omega
    have hlow : m ≤ mid + m - r0 := by omega
    have hhi : mid + m - s0 ≤ b := by omega
    have HEA : Hid (∀ st, s0 ≤ st → st ≤ r0 → (st < m → st < mid → st ≠ r0) ∧ (a < st → mid + m - st < b → st ≠ s0)) := fun st h1 h2 => ⟨fun h3 h4 => by omega, fun h3 h4 => by omega⟩
    have HS0 := hide hs0
    go_enter Tryz.func196, Tryz.ntmps196
    go_wp2
    go_loopw [20, 21] (fun vi vj wr => ∃ st re : Nat, vi = .int .i64 st ∧ vj = .int .i64 re ∧ s0 ≤ st ∧ st ≤ re ∧ re ≤ r0 ∧ (st = s0 ∨ Tm.classOf lns (u.getD (st - 1 - a) 0) ≤ Tm.classOf lns (v.getD (mid - st) 0)) ∧ (re = r0 ∨ Tm.classOf lns (v.getD (mid - 1 - re) 0) < Tm.classOf lns (u.getD (re - a) 0)) ∧ Ints wr g off (p ++ u ++ v ++ r) ∧ Turn g off N w wr) (fun vi vj _ => (intOf vj).toNat - (intOf vi).toNat)
    case atStart => exact ⟨s0, r0, by first | rfl | (rw [hs0]) | go_num, by rw [hr0], Nat.le_refl _, hs0r, Nat.le_refl _, .inl rfl, .inl rfl, HI.out, Turn.refl _ _ _ _⟩
    case round =>
      obtain ⟨st, re, rfl, rfl, hst0, hsr, hrr, hlo, hhi2, hI, hT⟩ := hrel
      have HIr := hide hI
      have HT := hide hT
      have HCr := hide (HC.out.turn hT)
      have HLO := hide hlo
      have HHI := hide hhi2
      clear hlo hhi2 hI hT
      by_cases hlt : st < re
      · have hd : decide ((st : Int) < (re : Int)) = true := by simp <;> omega
        go_wp2_with fail
        obtain ⟨c, hce⟩ : ∃ c : Nat, ((st : Int) + (re : Int)) / 2 = (c : Int) := ⟨(st + re) / 2, by omega⟩
        obtain ⟨pc, hpc⟩ : ∃ pc : Nat, (mid : Int) + (m : Int) - 1 - (c : Int) = (pc : Int) := ⟨mid + m - 1 - c, by omega⟩
        rw [hce]
        have hc1 : st ≤ c := by omega
        have hc2 : c < re := by omega
        have hcu : c - a < u.length := by have := HM.out; omega
        have hpv : pc - m < v.length := by have := HB.out; omega
        have hpm : m ≤ pc := by omega
        have hpu : (p ++ u).length = m := by have := HA.out; have := HM.out; simp; omega
        have cx := HIr.out c u[c - a] (by have h := get_in (p := p) (v := u) (r := v ++ r) (i := c) (by have := HA.out; omega) (by rw [HA.out]; exact hcu); rw [List.append_assoc (p ++ u), h]; simp only [HA.out])
        have cy := HIr.out pc v[pc - m] (by have h := get_in (p := p ++ u) (v := v) (r := r) (i := pc) (by omega) (by rw [hpu]; exact hpv); rw [h]; simp only [hpu])
        have hxr := HR.out u[c - a] (by simp)
        have hyr := HR.out v[pc - m] (by simp)
        have gx : u.getD (c - a) 0 = u[c - a] := by rw [List.getD_eq_getElem?_getD, List.getElem?_eq_getElem hcu]; rfl
        have gy : v.getD (mid - 1 - c) 0 = v[pc - m] := by rw [show mid - 1 - c = pc - m from by omega, List.getD_eq_getElem?_getD, List.getElem?_eq_getElem hpv]; rfl
        have HCALL : Hid (∀ n, Calls Tryz.prog 166 #[.map (some bm), .int .i64 v[pc - m], .int .i64 u[c - a]] (wr.drewN n) fun e w' => e = .returned (.int .i64 (cmpInt (Tm.classOf lns v[pc - m]) (Tm.classOf lns u[c - a]))) ∧ w' = wr.drewN n) := fun n => HCr.out.call hyr hxr n
        have HGX := hide gx
        have HGY := hide gy
        clear gx gy
        generalize u[c - a] = x at *
        generalize v[pc - m] = y at *
        obtain ⟨cy, fy⟩ := cy
        obtain ⟨cx, fx⟩ := cx
        have i1 : (c : Int) < (N : Int) := by omega
        have i2 : (pc : Int) < (N : Int) := by omega
        obtain ⟨q, hq⟩ : ∃ q, decide (cmpInt (Tm.classOf lns y) (Tm.classOf lns x) < 0) = q := ⟨_, rfl⟩
        have hq' : decide (Tm.classOf lns y < Tm.classOf lns x) = q := by rw [← hq, cmpInt_neg]
        generalize cmpInt (Tm.classOf lns y) (Tm.classOf lns x) = cv at *
        clear hce hpu
        cases q
        · have hle2 : Tm.classOf lns x ≤ Tm.classOf lns y := by simpa using hq'
          have HL2 : Hid (Tm.classOf lns (u.getD (c + 1 - 1 - a) 0) ≤ Tm.classOf lns (v.getD (mid - (c + 1)) 0)) := by
            unfold Hid; rw [show c + 1 - 1 - a = c - a from by omega, show mid - (c + 1) = mid - 1 - c from by omega, HGX.out, HGY.out]; exact hle2
          clear hq' hle2
          go_quiet (first | (go_at_call 166; exact Calls.quiet_of_same (HCALL.out _)))
          go_wp2
          go_roundw
          case rel => exact ⟨c + 1, re, by go_num, rfl, by omega, by omega, hrr, .inr HL2.out, HHI.out, HIr.out, HT.out.drewN _⟩
          case measure => simp [intOf]; omega
        · have hle2 : Tm.classOf lns y < Tm.classOf lns x := by simpa using hq'
          have HH2 : Hid (Tm.classOf lns (v.getD (mid - 1 - c) 0) < Tm.classOf lns (u.getD (c - a) 0)) := by unfold Hid; rw [HGX.out, HGY.out]; exact hle2
          clear hq' hle2
          go_quiet (first | (go_at_call 166; exact Calls.quiet_of_same (HCALL.out _)))
          go_wp2
          go_roundw
          case rel => exact ⟨st, c, rfl, rfl, hst0, hc1, by omega, HLO.out, .inr HH2.out, HIr.out, HT.out.drewN _⟩
          case measure => simp [intOf]; omega
      · have hsre : st = re := by omega
        subst hsre
        have hd : decide ((st : Int) < (st : Int)) = false := by simp
        obtain ⟨en, hen⟩ : ∃ en : Nat, (mid : Int) + (m : Int) - (st : Int) = (en : Int) := ⟨mid + m - st, by omega⟩
        have hae : a ≤ st := by omega
        have hsm : st ≤ m := by omega
        have hsd : st ≤ mid := by omega
        have hme : m ≤ en := by omega
        have heb : en ≤ b := by omega
        have hde : mid ≤ en := by omega
        have hul : st - a ≤ u.length := by have := HM.out; omega
        have hvl : en - m ≤ v.length := by have := HB.out; omega
        have hspl := Tm.Up.split (T := st - a) (E := en - m) HUP.out HVP.out (fun q1 q2 _ => by
            rcases HHI.out with e | e
            · exact absurd e ((HEA.out st hst0 hrr).1 (by have := HM.out; omega) (by omega))
            · rw [show en - m - 1 = mid - 1 - st from by omega]; exact e) (fun q1 _ q3 => by
            rcases HLO.out with e | e
            · exact absurd e ((HEA.out st hst0 hrr).2 (by omega) (by have := HB.out; omega))
            · rw [show st - a - 1 = st - 1 - a from by omega, show en - m = mid - st from by omega]; exact e) hul hvl
        obtain ⟨u1, u2, hu12, hl1⟩ : ∃ u1 u2, u = u1 ++ u2 ∧ u1.length = st - a := ⟨u.take (st - a), u.drop (st - a), by rw [List.take_append_drop], by simp <;> omega⟩
        obtain ⟨v1, v2, hv12, hl2⟩ : ∃ v1 v2, v = v1 ++ v2 ∧ v1.length = en - m := ⟨v.take (en - m), v.drop (en - m), by rw [List.take_append_drop], by simp <;> omega⟩
        have e1 : u.take (st - a) = u1 := by rw [hu12, ← hl1]; simp
        have e2 : u.drop (st - a) = u2 := by rw [hu12, ← hl1]; simp
        have e3 : v.take (en - m) = v1 := by rw [hv12, ← hl2]; simp
        have e4 : v.drop (en - m) = v2 := by rw [hv12, ← hl2]; simp
        rw [e1, e2, e3, e4] at hspl
        have HSPL := hide hspl
        have HU12 := hide hu12
        have HV12 := hide hv12
        have HL1 := hide hl1
        have HL2 := hide hl2
        have HL3 : Hid (u2.length = m - st) := by have h := congrArg List.length hu12; have := HM.out; simp at h; unfold Hid; omega
        have HL4 : Hid (v2.length = b - en) := by have h := congrArg List.length hv12; have := HB.out; simp at h; unfold Hid; omega
        have HUP1 : Hid (Tm.Up (Tm.classOf lns) (u1 ++ u2)) := by unfold Hid; rw [← hu12]; exact HUP.out
        have HVP1 : Hid (Tm.Up (Tm.classOf lns) (v1 ++ v2)) := by unfold Hid; rw [← hv12]; exact HVP.out
        have HI0 : Hid (Ints wr g off ((p ++ u1) ++ u2 ++ v1 ++ (v2 ++ r))) := by have h := HIr.out; rw [hu12, hv12] at h; unfold Hid; simpa [List.append_assoc] using h
        have HRU : Hid (∀ z ∈ u1 ++ v1, 0 ≤ z ∧ z ≤ 1114111) := fun z hz => HR.out z (by rw [hu12, hv12]; simp at hz ⊢; rcases hz with h | h <;> simp [h])
        have HRV : Hid (∀ z ∈ u2 ++ v2, 0 ≤ z ∧ z ≤ 1114111) := fun z hz => HR.out z (by rw [hu12, hv12]; simp at hz ⊢; rcases hz with h | h <;> simp [h])
        have HGOAL : Hid (∀ l s : List Int, Tm.Sorts (Tm.classOf lns) (u1 ++ v1) l → Tm.Sorts (Tm.classOf lns) (u2 ++ v2) s → Tm.Sorts (Tm.classOf lns) (u ++ v) (l ++ s)) := fun l s h1 h2 => by rw [hu12, hv12]; exact Tm.Sorts.merge h1 h2 HUP1.out HVP1.out hspl.1 hspl.2
        clear hspl hu12 hv12 hl1 hl2 e1 e2 e3 e4
        by_cases hrot : st < m ∧ m < en
        · have g1 : decide ((st : Int) < (m : Int)) = true := by simp <;> omega
          have g2 : decide ((m : Int) < (en : Int)) = true := by simp <;> omega
          go_wp2_with fail
          refine (rotate_at (p ++ u1) u2 v1 (v2 ++ r) g off N cap _ wr (by have := HA.out; have := HL1.out; simp; omega) (by have := HA.out; have := HL1.out; have := HL3.out; simp; omega) (by have := HA.out; have := HL1.out; have := HL3.out; have := HL2.out; simp; omega) (by have := HL3.out; omega) (by have := HL2.out; omega) (by have := HA.out; have := HL1.out; have := HL2.out; have := HL3.out; have := HL4.out; have := HN.out; simp; omega) hcap HI0.out).mono ?_
          rintro e w7 ⟨rfl, hI7, hT7⟩
          have HT7 := hide (HT.out.trans hT7)
          have HI1 : Hid (Ints w7 g off (p ++ u1 ++ v1 ++ u2 ++ (v2 ++ r))) := hI7
          clear hI7 hT7
          by_cases hleft : a < st ∧ st < mid
          · have j1 : decide ((a : Int) < (st : Int)) = true := by simp <;> omega
            have j2 : decide ((st : Int) < (mid : Int)) = true := by simp <;> omega
            have HCALL2 := hide (HIH.out (mid - a) (by have := HNN.out; omega) p u1 v1 (u2 ++ v2 ++ r) g off N cap w7 (a : Int) (st : Int) (mid : Int) (by have := HL1.out; have := HL2.out; omega) (by have := HA.out; omega) (by have := HA.out; have := HL1.out; omega) (by have := HA.out; have := HL1.out; have := HL2.out; omega) (by have := HL1.out; omega) (by have := HL2.out; omega) (by have := HA.out; have := HL1.out; have := HL2.out; have := HL3.out; have := HL4.out; have := HN.out; simp; omega) hcap HRU.out (Tm.Up.append.1 HUP1.out).1 (Tm.Up.append.1 HVP1.out).1 (by have h := HI1.out; simpa [List.append_assoc] using h) (HC.out.turn HT7.out))
            unfold byClassFn at HCALL2
            go_wp2_with fail
            all_goals
              refine HCALL2.out.mono ?_
              rintro e w8 ⟨rfl, ⟨l, hso8, hI8⟩, hT8⟩
              have HT8 := hide (HT7.out.trans hT8)
              have HIL := hide hI8
              have HSL := hide hso8
              clear hT8 hI8 hso8
              have hlm : (p ++ l).length = mid := by have h := HSL.out.2.length; have := HA.out; have := HL1.out; have := HL2.out; simp at h ⊢; omega
              by_cases hright : mid < en ∧ en < b
              · have k1 : decide ((mid : Int) < (en : Int)) = true := by simp <;> omega
                have k2 : decide ((en : Int) < (b : Int)) = true := by simp <;> omega
                have HCALL3 := hide (HIH.out (b - mid) (by have := HNN.out; omega) (p ++ l) u2 v2 r g off N cap w8 (mid : Int) (en : Int) (b : Int) (by have := HL3.out; have := HL4.out; omega) (by rw [hlm]) (by rw [hlm]; have := HL3.out; omega) (by rw [hlm]; have := HL3.out; have := HL4.out; omega) (by have := HL3.out; omega) (by have := HL4.out; omega) (by rw [hlm]; have := HL3.out; have := HL4.out; have := HN.out; omega) hcap HRV.out (Tm.Up.append.1 HUP1.out).2.1 (Tm.Up.append.1 HVP1.out).2.1 (by have h := HIL.out; simpa [List.append_assoc] using h) (HC.out.turn HT8.out))
                unfold byClassFn at HCALL3
                clear hlm
                go_wp2_with fail
                all_goals
                  refine HCALL3.out.mono ?_
                  rintro e w9 ⟨rfl, ⟨s9, hso9, hI9⟩, hT9⟩
                  have HT9 := hide (HT8.out.trans hT9)
                  have HI9 : Hid (Ints w9 g off (p ++ (l ++ s9) ++ r)) := by unfold Hid; simpa [List.append_assoc] using hI9
                  have HSO9 := hide hso9
                  clear hT9 hI9 hso9
                  go_wp2
                  all_goals (first | go_end0 | refine bodyPost_ret (results_none rfl _ _ _) rfl ?_)
                  all_goals exact ⟨rfl, ⟨_, HGOAL.out _ _ HSL.out HSO9.out, HI9.out⟩, HT9.out⟩
              · have HSR : Hid (Tm.Sorts (Tm.classOf lns) (u2 ++ v2) (u2 ++ v2)) := Tm.Sorts.of_up (by
                  by_cases hz : u2 = []
                  · rw [hz]; simpa using (Tm.Up.append.1 HVP1.out).2.1
                  · have hz2 : v2 = [] := List.eq_nil_of_length_eq_zero (by have h3 := HL3.out; have h4 := HL4.out; have h5 : 0 < u2.length := List.length_pos_iff.2 hz; omega)
                    rw [hz2]; simpa using (Tm.Up.append.1 HUP1.out).2.1)
                have HI9 : Hid (Ints w8 g off (p ++ (l ++ (u2 ++ v2)) ++ r)) := by have h := HIL.out; unfold Hid; simpa [List.append_assoc] using h
                clear hlm
                by_cases hme2 : mid < en
                · have k1 : decide ((mid : Int) < (en : Int)) = true := by simp <;> omega
                  have k2 : decide ((en : Int) < (b : Int)) = false := by simp <;> omega
                  go_wp2
                  all_goals (first | go_end0 | refine bodyPost_ret (results_none rfl _ _ _) rfl ?_)
                  all_goals exact ⟨rfl, ⟨_, HGOAL.out _ _ HSL.out HSR.out, HI9.out⟩, HT8.out⟩
                · have k1 : decide ((mid : Int) < (en : Int)) = false := by simp <;> omega
                  go_wp2
                  all_goals (first | go_end0 | refine bodyPost_ret (results_none rfl _ _ _) rfl ?_)
                  all_goals exact ⟨rfl, ⟨_, HGOAL.out _ _ HSL.out HSR.out, HI9.out⟩, HT8.out⟩
          · have HSL : Hid (Tm.Sorts (Tm.classOf lns) (u1 ++ v1) (u1 ++ v1)) := Tm.Sorts.of_up (by
              by_cases hz : u1 = []
              · rw [hz]; simpa using (Tm.Up.append.1 HVP1.out).1
              · have hz2 : v1 = [] := List.eq_nil_of_length_eq_zero (by have h3 := HL1.out; have h4 := HL2.out; have h5 : 0 < u1.length := List.length_pos_iff.2 hz; omega)
                rw [hz2]; simpa using (Tm.Up.append.1 HUP1.out).1)
            have HIL : Hid (Ints w7 g off (p ++ (u1 ++ v1) ++ (u2 ++ v2 ++ r))) := by have h := HI1.out; unfold Hid; simpa [List.append_assoc] using h
            have hj : decide ((a : Int) < (st : Int)) = false ∨ (decide ((a : Int) < (st : Int)) = true ∧ decide ((st : Int) < (mid : Int)) = false) := by
              by_cases h : a < st
              · right; exact ⟨by simp <;> omega, by simp <;> omega⟩
              · left; simp; omega
            rcases hj with j1 | ⟨j1, j2⟩
            · have hlm : (p ++ (u1 ++ v1)).length = mid := by have h := HSL.out.2.length; have := HA.out; have := HL1.out; have := HL2.out; simp at h ⊢; omega
              by_cases hright : mid < en ∧ en < b
              · have k1 : decide ((mid : Int) < (en : Int)) = true := by simp <;> omega
                have k2 : decide ((en : Int) < (b : Int)) = true := by simp <;> omega
                have HCALL3 := hide (HIH.out (b - mid) (by have := HNN.out; omega) (p ++ (u1 ++ v1)) u2 v2 r g off N cap w7 (mid : Int) (en : Int) (b : Int) (by have := HL3.out; have := HL4.out; omega) (by rw [hlm]) (by rw [hlm]; have := HL3.out; omega) (by rw [hlm]; have := HL3.out; have := HL4.out; omega) (by have := HL3.out; omega) (by have := HL4.out; omega) (by rw [hlm]; have := HL3.out; have := HL4.out; have := HN.out; omega) hcap HRV.out (Tm.Up.append.1 HUP1.out).2.1 (Tm.Up.append.1 HVP1.out).2.1 (by have h := HIL.out; simpa [List.append_assoc] using h) (HC.out.turn HT7.out))
                unfold byClassFn at HCALL3
                clear hlm
                go_wp2_with fail
                all_goals
                  refine HCALL3.out.mono ?_
                  rintro e w9 ⟨rfl, ⟨s9, hso9, hI9⟩, hT9⟩
                  have HT9 := hide (HT7.out.trans hT9)
                  have HI9 : Hid (Ints w9 g off (p ++ ((u1 ++ v1) ++ s9) ++ r)) := by unfold Hid; simpa [List.append_assoc] using hI9
                  have HSO9 := hide hso9
                  clear hT9 hI9 hso9
                  go_wp2
                  all_goals (first | go_end0 | refine bodyPost_ret (results_none rfl _ _ _) rfl ?_)
                  all_goals exact ⟨rfl, ⟨_, HGOAL.out _ _ HSL.out HSO9.out, HI9.out⟩, HT9.out⟩
              · have HSR : Hid (Tm.Sorts (Tm.classOf lns) (u2 ++ v2) (u2 ++ v2)) := Tm.Sorts.of_up (by
                  by_cases hz : u2 = []
                  · rw [hz]; simpa using (Tm.Up.append.1 HVP1.out).2.1
                  · have hz2 : v2 = [] := List.eq_nil_of_length_eq_zero (by have h3 := HL3.out; have h4 := HL4.out; have h5 : 0 < u2.length := List.length_pos_iff.2 hz; omega)
                    rw [hz2]; simpa using (Tm.Up.append.1 HUP1.out).2.1)
                have HI9 : Hid (Ints w7 g off (p ++ ((u1 ++ v1) ++ (u2 ++ v2)) ++ r)) := by have h := HIL.out; unfold Hid; simpa [List.append_assoc] using h
                clear hlm
                by_cases hme2 : mid < en
                · have k1 : decide ((mid : Int) < (en : Int)) = true := by simp <;> omega
                  have k2 : decide ((en : Int) < (b : Int)) = false := by simp <;> omega
                  go_wp2
                  all_goals (first | go_end0 | refine bodyPost_ret (results_none rfl _ _ _) rfl ?_)
                  all_goals exact ⟨rfl, ⟨_, HGOAL.out _ _ HSL.out HSR.out, HI9.out⟩, HT7.out⟩
                · have k1 : decide ((mid : Int) < (en : Int)) = false := by simp <;> omega
                  go_wp2
                  all_goals (first | go_end0 | refine bodyPost_ret (results_none rfl _ _ _) rfl ?_)
                  all_goals exact ⟨rfl, ⟨_, HGOAL.out _ _ HSL.out HSR.out, HI9.out⟩, HT7.out⟩
            · have hlm : (p ++ (u1 ++ v1)).length = mid := by have h := HSL.out.2.length; have := HA.out; have := HL1.out; have := HL2.out; simp at h ⊢; omega
              by_cases hright : mid < en ∧ en < b
              · have k1 : decide ((mid : Int) < (en : Int)) = true := by simp <;> omega
                have k2 : decide ((en : Int) < (b : Int)) = true := by simp <;> omega
                have HCALL3 := hide (HIH.out (b - mid) (by have := HNN.out; omega) (p ++ (u1 ++ v1)) u2 v2 r g off N cap w7 (mid : Int) (en : Int) (b : Int) (by have := HL3.out; have := HL4.out; omega) (by rw [hlm]) (by rw [hlm]; have := HL3.out; omega) (by rw [hlm]; have := HL3.out; have := HL4.out; omega) (by have := HL3.out; omega) (by have := HL4.out; omega) (by rw [hlm]; have := HL3.out; have := HL4.out; have := HN.out; omega) hcap HRV.out (Tm.Up.append.1 HUP1.out).2.1 (Tm.Up.append.1 HVP1.out).2.1 (by have h := HIL.out; simpa [List.append_assoc] using h) (HC.out.turn HT7.out))
                unfold byClassFn at HCALL3
                clear hlm
                go_wp2_with fail
                all_goals
                  refine HCALL3.out.mono ?_
                  rintro e w9 ⟨rfl, ⟨s9, hso9, hI9⟩, hT9⟩
                  have HT9 := hide (HT7.out.trans hT9)
                  have HI9 : Hid (Ints w9 g off (p ++ ((u1 ++ v1) ++ s9) ++ r)) := by unfold Hid; simpa [List.append_assoc] using hI9
                  have HSO9 := hide hso9
                  clear hT9 hI9 hso9
                  go_wp2
                  all_goals (first | go_end0 | refine bodyPost_ret (results_none rfl _ _ _) rfl ?_)
                  all_goals exact ⟨rfl, ⟨_, HGOAL.out _ _ HSL.out HSO9.out, HI9.out⟩, HT9.out⟩
              · have HSR : Hid (Tm.Sorts (Tm.classOf lns) (u2 ++ v2) (u2 ++ v2)) := Tm.Sorts.of_up (by
                  by_cases hz : u2 = []
                  · rw [hz]; simpa using (Tm.Up.append.1 HVP1.out).2.1
                  · have hz2 : v2 = [] := List.eq_nil_of_length_eq_zero (by have h3 := HL3.out; have h4 := HL4.out; have h5 : 0 < u2.length := List.length_pos_iff.2 hz; omega)
                    rw [hz2]; simpa using (Tm.Up.append.1 HUP1.out).2.1)
                have HI9 : Hid (Ints w7 g off (p ++ ((u1 ++ v1) ++ (u2 ++ v2)) ++ r)) := by have h := HIL.out; unfold Hid; simpa [List.append_assoc] using h
                clear hlm
                by_cases hme2 : mid < en
                · have k1 : decide ((mid : Int) < (en : Int)) = true := by simp <;> omega
                  have k2 : decide ((en : Int) < (b : Int)) = false := by simp <;> omega
                  go_wp2
                  all_goals (first | go_end0 | refine bodyPost_ret (results_none rfl _ _ _) rfl ?_)
                  all_goals exact ⟨rfl, ⟨_, HGOAL.out _ _ HSL.out HSR.out, HI9.out⟩, HT7.out⟩
                · have k1 : decide ((mid : Int) < (en : Int)) = false := by simp <;> omega
                  go_wp2
                  all_goals (first | go_end0 | refine bodyPost_ret (results_none rfl _ _ _) rfl ?_)
                  all_goals exact ⟨rfl, ⟨_, HGOAL.out _ _ HSL.out HSR.out, HI9.out⟩, HT7.out⟩
        · have HI1 : Hid (Ints wr g off (p ++ u1 ++ v1 ++ u2 ++ (v2 ++ r))) := by
            have h := HI0.out
            unfold Hid
            by_cases hz : u2 = []
            · rw [hz] at h ⊢; simpa [List.append_assoc] using h
            · have hz2 : v1 = [] := List.eq_nil_of_length_eq_zero (by have h3 := HL3.out; have h4 := HL2.out; have h5 : 0 < u2.length := List.length_pos_iff.2 hz; omega)
              rw [hz2] at h ⊢; simpa [List.append_assoc] using h
          have hg : decide ((st : Int) < (m : Int)) = false ∨ (decide ((st : Int) < (m : Int)) = true ∧ decide ((m : Int) < (en : Int)) = false) := by
            by_cases h : st < m
            · right; exact ⟨by simp <;> omega, by simp <;> omega⟩
            · left; simp; omega
          rcases hg with g1 | ⟨g1, g2⟩
          · by_cases hleft : a < st ∧ st < mid
            · have j1 : decide ((a : Int) < (st : Int)) = true := by simp <;> omega
              have j2 : decide ((st : Int) < (mid : Int)) = true := by simp <;> omega
              have HCALL2 := hide (HIH.out (mid - a) (by have := HNN.out; omega) p u1 v1 (u2 ++ v2 ++ r) g off N cap wr (a : Int) (st : Int) (mid : Int) (by have := HL1.out; have := HL2.out; omega) (by have := HA.out; omega) (by have := HA.out; have := HL1.out; omega) (by have := HA.out; have := HL1.out; have := HL2.out; omega) (by have := HL1.out; omega) (by have := HL2.out; omega) (by have := HA.out; have := HL1.out; have := HL2.out; have := HL3.out; have := HL4.out; have := HN.out; simp; omega) hcap HRU.out (Tm.Up.append.1 HUP1.out).1 (Tm.Up.append.1 HVP1.out).1 (by have h := HI1.out; simpa [List.append_assoc] using h) (HC.out.turn HT.out))
              unfold byClassFn at HCALL2
              go_wp2_with fail
              all_goals
                refine HCALL2.out.mono ?_
                rintro e w8 ⟨rfl, ⟨l, hso8, hI8⟩, hT8⟩
                have HT8 := hide (HT.out.trans hT8)
                have HIL := hide hI8
                have HSL := hide hso8
                clear hT8 hI8 hso8
                have hlm : (p ++ l).length = mid := by have h := HSL.out.2.length; have := HA.out; have := HL1.out; have := HL2.out; simp at h ⊢; omega
                by_cases hright : mid < en ∧ en < b
                · have k1 : decide ((mid : Int) < (en : Int)) = true := by simp <;> omega
                  have k2 : decide ((en : Int) < (b : Int)) = true := by simp <;> omega
                  have HCALL3 := hide (HIH.out (b - mid) (by have := HNN.out; omega) (p ++ l) u2 v2 r g off N cap w8 (mid : Int) (en : Int) (b : Int) (by have := HL3.out; have := HL4.out; omega) (by rw [hlm]) (by rw [hlm]; have := HL3.out; omega) (by rw [hlm]; have := HL3.out; have := HL4.out; omega) (by have := HL3.out; omega) (by have := HL4.out; omega) (by rw [hlm]; have := HL3.out; have := HL4.out; have := HN.out; omega) hcap HRV.out (Tm.Up.append.1 HUP1.out).2.1 (Tm.Up.append.1 HVP1.out).2.1 (by have h := HIL.out; simpa [List.append_assoc] using h) (HC.out.turn HT8.out))
                  unfold byClassFn at HCALL3
                  clear hlm
                  go_wp2_with fail
                  all_goals
                    refine HCALL3.out.mono ?_
                    rintro e w9 ⟨rfl, ⟨s9, hso9, hI9⟩, hT9⟩
                    have HT9 := hide (HT8.out.trans hT9)
                    have HI9 : Hid (Ints w9 g off (p ++ (l ++ s9) ++ r)) := by unfold Hid; simpa [List.append_assoc] using hI9
                    have HSO9 := hide hso9
                    clear hT9 hI9 hso9
                    go_wp2
                    all_goals (first | go_end0 | refine bodyPost_ret (results_none rfl _ _ _) rfl ?_)
                    all_goals exact ⟨rfl, ⟨_, HGOAL.out _ _ HSL.out HSO9.out, HI9.out⟩, HT9.out⟩
                · have HSR : Hid (Tm.Sorts (Tm.classOf lns) (u2 ++ v2) (u2 ++ v2)) := Tm.Sorts.of_up (by
                    by_cases hz : u2 = []
                    · rw [hz]; simpa using (Tm.Up.append.1 HVP1.out).2.1
                    · have hz2 : v2 = [] := List.eq_nil_of_length_eq_zero (by have h3 := HL3.out; have h4 := HL4.out; have h5 : 0 < u2.length := List.length_pos_iff.2 hz; omega)
                      rw [hz2]; simpa using (Tm.Up.append.1 HUP1.out).2.1)
                  have HI9 : Hid (Ints w8 g off (p ++ (l ++ (u2 ++ v2)) ++ r)) := by have h := HIL.out; unfold Hid; simpa [List.append_assoc] using h
                  clear hlm
                  by_cases hme2 : mid < en
                  · have k1 : decide ((mid : Int) < (en : Int)) = true := by simp <;> omega
                    have k2 : decide ((en : Int) < (b : Int)) = false := by simp <;> omega
                    go_wp2
                    all_goals (first | go_end0 | refine bodyPost_ret (results_none rfl _ _ _) rfl ?_)
                    all_goals exact ⟨rfl, ⟨_, HGOAL.out _ _ HSL.out HSR.out, HI9.out⟩, HT8.out⟩
                  · have k1 : decide ((mid : Int) < (en : Int)) = false := by simp <;> omega
                    go_wp2
                    all_goals (first | go_end0 | refine bodyPost_ret (results_none rfl _ _ _) rfl ?_)
                    all_goals exact ⟨rfl, ⟨_, HGOAL.out _ _ HSL.out HSR.out, HI9.out⟩, HT8.out⟩
            · have HSL : Hid (Tm.Sorts (Tm.classOf lns) (u1 ++ v1) (u1 ++ v1)) := Tm.Sorts.of_up (by
                by_cases hz : u1 = []
                · rw [hz]; simpa using (Tm.Up.append.1 HVP1.out).1
                · have hz2 : v1 = [] := List.eq_nil_of_length_eq_zero (by have h3 := HL1.out; have h4 := HL2.out; have h5 : 0 < u1.length := List.length_pos_iff.2 hz; omega)
                  rw [hz2]; simpa using (Tm.Up.append.1 HUP1.out).1)
              have HIL : Hid (Ints wr g off (p ++ (u1 ++ v1) ++ (u2 ++ v2 ++ r))) := by have h := HI1.out; unfold Hid; simpa [List.append_assoc] using h
              have hj : decide ((a : Int) < (st : Int)) = false ∨ (decide ((a : Int) < (st : Int)) = true ∧ decide ((st : Int) < (mid : Int)) = false) := by
                by_cases h : a < st
                · right; exact ⟨by simp <;> omega, by simp <;> omega⟩
                · left; simp; omega
              rcases hj with j1 | ⟨j1, j2⟩
              · have hlm : (p ++ (u1 ++ v1)).length = mid := by have h := HSL.out.2.length; have := HA.out; have := HL1.out; have := HL2.out; simp at h ⊢; omega
                by_cases hright : mid < en ∧ en < b
                · have k1 : decide ((mid : Int) < (en : Int)) = true := by simp <;> omega
                  have k2 : decide ((en : Int) < (b : Int)) = true := by simp <;> omega
                  have HCALL3 := hide (HIH.out (b - mid) (by have := HNN.out; omega) (p ++ (u1 ++ v1)) u2 v2 r g off N cap wr (mid : Int) (en : Int) (b : Int) (by have := HL3.out; have := HL4.out; omega) (by rw [hlm]) (by rw [hlm]; have := HL3.out; omega) (by rw [hlm]; have := HL3.out; have := HL4.out; omega) (by have := HL3.out; omega) (by have := HL4.out; omega) (by rw [hlm]; have := HL3.out; have := HL4.out; have := HN.out; omega) hcap HRV.out (Tm.Up.append.1 HUP1.out).2.1 (Tm.Up.append.1 HVP1.out).2.1 (by have h := HIL.out; simpa [List.append_assoc] using h) (HC.out.turn HT.out))
                  unfold byClassFn at HCALL3
                  clear hlm
                  go_wp2_with fail
                  all_goals
                    refine HCALL3.out.mono ?_
                    rintro e w9 ⟨rfl, ⟨s9, hso9, hI9⟩, hT9⟩
                    have HT9 := hide (HT.out.trans hT9)
                    have HI9 : Hid (Ints w9 g off (p ++ ((u1 ++ v1) ++ s9) ++ r)) := by unfold Hid; simpa [List.append_assoc] using hI9
                    have HSO9 := hide hso9
                    clear hT9 hI9 hso9
                    go_wp2
                    all_goals (first | go_end0 | refine bodyPost_ret (results_none rfl _ _ _) rfl ?_)
                    all_goals exact ⟨rfl, ⟨_, HGOAL.out _ _ HSL.out HSO9.out, HI9.out⟩, HT9.out⟩
                · have HSR : Hid (Tm.Sorts (Tm.classOf lns) (u2 ++ v2) (u2 ++ v2)) := Tm.Sorts.of_up (by
                    by_cases hz : u2 = []
                    · rw [hz]; simpa using (Tm.Up.append.1 HVP1.out).2.1
                    · have hz2 : v2 = [] := List.eq_nil_of_length_eq_zero (by have h3 := HL3.out; have h4 := HL4.out; have h5 : 0 < u2.length := List.length_pos_iff.2 hz; omega)
                      rw [hz2]; simpa using (Tm.Up.append.1 HUP1.out).2.1)
                  have HI9 : Hid (Ints wr g off (p ++ ((u1 ++ v1) ++ (u2 ++ v2)) ++ r)) := by have h := HIL.out; unfold Hid; simpa [List.append_assoc] using h
                  clear hlm
                  by_cases hme2 : mid < en
                  · have k1 : decide ((mid : Int) < (en : Int)) = true := by simp <;> omega
                    have k2 : decide ((en : Int) < (b : Int)) = false := by simp <;> omega
                    go_wp2
                    all_goals (first | go_end0 | refine bodyPost_ret (results_none rfl _ _ _) rfl ?_)
                    all_goals exact ⟨rfl, ⟨_, HGOAL.out _ _ HSL.out HSR.out, HI9.out⟩, HT.out⟩
                  · have k1 : decide ((mid : Int) < (en : Int)) = false := by simp <;> omega
                    go_wp2
                    all_goals (first | go_end0 | refine bodyPost_ret (results_none rfl _ _ _) rfl ?_)
                    all_goals exact ⟨rfl, ⟨_, HGOAL.out _ _ HSL.out HSR.out, HI9.out⟩, HT.out⟩
              · have hlm : (p ++ (u1 ++ v1)).length = mid := by have h := HSL.out.2.length; have := HA.out; have := HL1.out; have := HL2.out; simp at h ⊢; omega
                by_cases hright : mid < en ∧ en < b
                · have k1 : decide ((mid : Int) < (en : Int)) = true := by simp <;> omega
                  have k2 : decide ((en : Int) < (b : Int)) = true := by simp <;> omega
                  have HCALL3 := hide (HIH.out (b - mid) (by have := HNN.out; omega) (p ++ (u1 ++ v1)) u2 v2 r g off N cap wr (mid : Int) (en : Int) (b : Int) (by have := HL3.out; have := HL4.out; omega) (by rw [hlm]) (by rw [hlm]; have := HL3.out; omega) (by rw [hlm]; have := HL3.out; have := HL4.out; omega) (by have := HL3.out; omega) (by have := HL4.out; omega) (by rw [hlm]; have := HL3.out; have := HL4.out; have := HN.out; omega) hcap HRV.out (Tm.Up.append.1 HUP1.out).2.1 (Tm.Up.append.1 HVP1.out).2.1 (by have h := HIL.out; simpa [List.append_assoc] using h) (HC.out.turn HT.out))
                  unfold byClassFn at HCALL3
                  clear hlm
                  go_wp2_with fail
                  all_goals
                    refine HCALL3.out.mono ?_
                    rintro e w9 ⟨rfl, ⟨s9, hso9, hI9⟩, hT9⟩
                    have HT9 := hide (HT.out.trans hT9)
                    have HI9 : Hid (Ints w9 g off (p ++ ((u1 ++ v1) ++ s9) ++ r)) := by unfold Hid; simpa [List.append_assoc] using hI9
                    have HSO9 := hide hso9
                    clear hT9 hI9 hso9
                    go_wp2
                    all_goals (first | go_end0 | refine bodyPost_ret (results_none rfl _ _ _) rfl ?_)
                    all_goals exact ⟨rfl, ⟨_, HGOAL.out _ _ HSL.out HSO9.out, HI9.out⟩, HT9.out⟩
                · have HSR : Hid (Tm.Sorts (Tm.classOf lns) (u2 ++ v2) (u2 ++ v2)) := Tm.Sorts.of_up (by
                    by_cases hz : u2 = []
                    · rw [hz]; simpa using (Tm.Up.append.1 HVP1.out).2.1
                    · have hz2 : v2 = [] := List.eq_nil_of_length_eq_zero (by have h3 := HL3.out; have h4 := HL4.out; have h5 : 0 < u2.length := List.length_pos_iff.2 hz; omega)
                      rw [hz2]; simpa using (Tm.Up.append.1 HUP1.out).2.1)
                  have HI9 : Hid (Ints wr g off (p ++ ((u1 ++ v1) ++ (u2 ++ v2)) ++ r)) := by have h := HIL.out; unfold Hid; simpa [List.append_assoc] using h
                  clear hlm
                  by_cases hme2 : mid < en
                  · have k1 : decide ((mid : Int) < (en : Int)) = true := by simp <;> omega
                    have k2 : decide ((en : Int) < (b : Int)) = false := by simp <;> omega
                    go_wp2
                    all_goals (first | go_end0 | refine bodyPost_ret (results_none rfl _ _ _) rfl ?_)
                    all_goals exact ⟨rfl, ⟨_, HGOAL.out _ _ HSL.out HSR.out, HI9.out⟩, HT.out⟩
                  · have k1 : decide ((mid : Int) < (en : Int)) = false := by simp <;> omega
                    go_wp2
                    all_goals (first | go_end0 | refine bodyPost_ret (results_none rfl _ _ _) rfl ?_)
                    all_goals exact ⟨rfl, ⟨_, HGOAL.out _ _ HSL.out HSR.out, HI9.out⟩, HT.out⟩
          · by_cases hleft : a < st ∧ st < mid
            · have j1 : decide ((a : Int) < (st : Int)) = true := by simp <;> omega
              have j2 : decide ((st : Int) < (mid : Int)) = true := by simp <;> omega
              have HCALL2 := hide (HIH.out (mid - a) (by have := HNN.out; omega) p u1 v1 (u2 ++ v2 ++ r) g off N cap wr (a : Int) (st : Int) (mid : Int) (by have := HL1.out; have := HL2.out; omega) (by have := HA.out; omega) (by have := HA.out; have := HL1.out; omega) (by have := HA.out; have := HL1.out; have := HL2.out; omega) (by have := HL1.out; omega) (by have := HL2.out; omega) (by have := HA.out; have := HL1.out; have := HL2.out; have := HL3.out; have := HL4.out; have := HN.out; simp; omega) hcap HRU.out (Tm.Up.append.1 HUP1.out).1 (Tm.Up.append.1 HVP1.out).1 (by have h := HI1.out; simpa [List.append_assoc] using h) (HC.out.turn HT.out))
              unfold byClassFn at HCALL2
              go_wp2_with fail
              all_goals
                refine HCALL2.out.mono ?_
                rintro e w8 ⟨rfl, ⟨l, hso8, hI8⟩, hT8⟩
                have HT8 := hide (HT.out.trans hT8)
                have HIL := hide hI8
                have HSL := hide hso8
                clear hT8 hI8 hso8
                have hlm : (p ++ l).length = mid := by have h := HSL.out.2.length; have := HA.out; have := HL1.out; have := HL2.out; simp at h ⊢; omega
                by_cases hright : mid < en ∧ en < b
                · have k1 : decide ((mid : Int) < (en : Int)) = true := by simp <;> omega
                  have k2 : decide ((en : Int) < (b : Int)) = true := by simp <;> omega
                  have HCALL3 := hide (HIH.out (b - mid) (by have := HNN.out; omega) (p ++ l) u2 v2 r g off N cap w8 (mid : Int) (en : Int) (b : Int) (by have := HL3.out; have := HL4.out; omega) (by rw [hlm]) (by rw [hlm]; have := HL3.out; omega) (by rw [hlm]; have := HL3.out; have := HL4.out; omega) (by have := HL3.out; omega) (by have := HL4.out; omega) (by rw [hlm]; have := HL3.out; have := HL4.out; have := HN.out; omega) hcap HRV.out (Tm.Up.append.1 HUP1.out).2.1 (Tm.Up.append.1 HVP1.out).2.1 (by have h := HIL.out; simpa [List.append_assoc] using h) (HC.out.turn HT8.out))
                  unfold byClassFn at HCALL3
                  clear hlm
                  go_wp2_with fail
                  all_goals
                    refine HCALL3.out.mono ?_
                    rintro e w9 ⟨rfl, ⟨s9, hso9, hI9⟩, hT9⟩
                    have HT9 := hide (HT8.out.trans hT9)
                    have HI9 : Hid (Ints w9 g off (p ++ (l ++ s9) ++ r)) := by unfold Hid; simpa [List.append_assoc] using hI9
                    have HSO9 := hide hso9
                    clear hT9 hI9 hso9
                    go_wp2
                    all_goals (first | go_end0 | refine bodyPost_ret (results_none rfl _ _ _) rfl ?_)
                    all_goals exact ⟨rfl, ⟨_, HGOAL.out _ _ HSL.out HSO9.out, HI9.out⟩, HT9.out⟩
                · have HSR : Hid (Tm.Sorts (Tm.classOf lns) (u2 ++ v2) (u2 ++ v2)) := Tm.Sorts.of_up (by
                    by_cases hz : u2 = []
                    · rw [hz]; simpa using (Tm.Up.append.1 HVP1.out).2.1
                    · have hz2 : v2 = [] := List.eq_nil_of_length_eq_zero (by have h3 := HL3.out; have h4 := HL4.out; have h5 : 0 < u2.length := List.length_pos_iff.2 hz; omega)
                      rw [hz2]; simpa using (Tm.Up.append.1 HUP1.out).2.1)
                  have HI9 : Hid (Ints w8 g off (p ++ (l ++ (u2 ++ v2)) ++ r)) := by have h := HIL.out; unfold Hid; simpa [List.append_assoc] using h
                  clear hlm
                  by_cases hme2 : mid < en
                  · have k1 : decide ((mid : Int) < (en : Int)) = true := by simp <;> omega
                    have k2 : decide ((en : Int) < (b : Int)) = false := by simp <;> omega
                    go_wp2
                    all_goals (first | go_end0 | refine bodyPost_ret (results_none rfl _ _ _) rfl ?_)
                    all_goals exact ⟨rfl, ⟨_, HGOAL.out _ _ HSL.out HSR.out, HI9.out⟩, HT8.out⟩
                  · have k1 : decide ((mid : Int) < (en : Int)) = false := by simp <;> omega
                    go_wp2
                    all_goals (first | go_end0 | refine bodyPost_ret (results_none rfl _ _ _) rfl ?_)
                    all_goals exact ⟨rfl, ⟨_, HGOAL.out _ _ HSL.out HSR.out, HI9.out⟩, HT8.out⟩
            · have HSL : Hid (Tm.Sorts (Tm.classOf lns) (u1 ++ v1) (u1 ++ v1)) := Tm.Sorts.of_up (by
                by_cases hz : u1 = []
                · rw [hz]; simpa using (Tm.Up.append.1 HVP1.out).1
                · have hz2 : v1 = [] := List.eq_nil_of_length_eq_zero (by have h3 := HL1.out; have h4 := HL2.out; have h5 : 0 < u1.length := List.length_pos_iff.2 hz; omega)
                  rw [hz2]; simpa using (Tm.Up.append.1 HUP1.out).1)
              have HIL : Hid (Ints wr g off (p ++ (u1 ++ v1) ++ (u2 ++ v2 ++ r))) := by have h := HI1.out; unfold Hid; simpa [List.append_assoc] using h
              have hj : decide ((a : Int) < (st : Int)) = false ∨ (decide ((a : Int) < (st : Int)) = true ∧ decide ((st : Int) < (mid : Int)) = false) := by
                by_cases h : a < st
                · right; exact ⟨by simp <;> omega, by simp <;> omega⟩
                · left; simp; omega
              rcases hj with j1 | ⟨j1, j2⟩
              · have hlm : (p ++ (u1 ++ v1)).length = mid := by have h := HSL.out.2.length; have := HA.out; have := HL1.out; have := HL2.out; simp at h ⊢; omega
                by_cases hright : mid < en ∧ en < b
                · have k1 : decide ((mid : Int) < (en : Int)) = true := by simp <;> omega
                  have k2 : decide ((en : Int) < (b : Int)) = true := by simp <;> omega
                  have HCALL3 := hide (HIH.out (b - mid) (by have := HNN.out; omega) (p ++ (u1 ++ v1)) u2 v2 r g off N cap wr (mid : Int) (en : Int) (b : Int) (by have := HL3.out; have := HL4.out; omega) (by rw [hlm]) (by rw [hlm]; have := HL3.out; omega) (by rw [hlm]; have := HL3.out; have := HL4.out; omega) (by have := HL3.out; omega) (by have := HL4.out; omega) (by rw [hlm]; have := HL3.out; have := HL4.out; have := HN.out; omega) hcap HRV.out (Tm.Up.append.1 HUP1.out).2.1 (Tm.Up.append.1 HVP1.out).2.1 (by have h := HIL.out; simpa [List.append_assoc] using h) (HC.out.turn HT.out))
                  unfold byClassFn at HCALL3
                  clear hlm
                  go_wp2_with fail
                  all_goals
                    refine HCALL3.out.mono ?_
                    rintro e w9 ⟨rfl, ⟨s9, hso9, hI9⟩, hT9⟩
                    have HT9 := hide (HT.out.trans hT9)
                    have HI9 : Hid (Ints w9 g off (p ++ ((u1 ++ v1) ++ s9) ++ r)) := by unfold Hid; simpa [List.append_assoc] using hI9
                    have HSO9 := hide hso9
                    clear hT9 hI9 hso9
                    go_wp2
                    all_goals (first | go_end0 | refine bodyPost_ret (results_none rfl _ _ _) rfl ?_)
                    all_goals exact ⟨rfl, ⟨_, HGOAL.out _ _ HSL.out HSO9.out, HI9.out⟩, HT9.out⟩
                · have HSR : Hid (Tm.Sorts (Tm.classOf lns) (u2 ++ v2) (u2 ++ v2)) := Tm.Sorts.of_up (by
                    by_cases hz : u2 = []
                    · rw [hz]; simpa using (Tm.Up.append.1 HVP1.out).2.1
                    · have hz2 : v2 = [] := List.eq_nil_of_length_eq_zero (by have h3 := HL3.out; have h4 := HL4.out; have h5 : 0 < u2.length := List.length_pos_iff.2 hz; omega)
                      rw [hz2]; simpa using (Tm.Up.append.1 HUP1.out).2.1)
                  have HI9 : Hid (Ints wr g off (p ++ ((u1 ++ v1) ++ (u2 ++ v2)) ++ r)) := by have h := HIL.out; unfold Hid; simpa [List.append_assoc] using h
                  clear hlm
                  by_cases hme2 : mid < en
                  · have k1 : decide ((mid : Int) < (en : Int)) = true := by simp <;> omega
                    have k2 : decide ((en : Int) < (b : Int)) = false := by simp <;> omega
                    go_wp2
                    all_goals (first | go_end0 | refine bodyPost_ret (results_none rfl _ _ _) rfl ?_)
                    all_goals exact ⟨rfl, ⟨_, HGOAL.out _ _ HSL.out HSR.out, HI9.out⟩, HT.out⟩
                  · have k1 : decide ((mid : Int) < (en : Int)) = false := by simp <;> omega
                    go_wp2
                    all_goals (first | go_end0 | refine bodyPost_ret (results_none rfl _ _ _) rfl ?_)
                    all_goals exact ⟨rfl, ⟨_, HGOAL.out _ _ HSL.out HSR.out, HI9.out⟩, HT.out⟩
              · have hlm : (p ++ (u1 ++ v1)).length = mid := by have h := HSL.out.2.length; have := HA.out; have := HL1.out; have := HL2.out; simp at h ⊢; omega
                by_cases hright : mid < en ∧ en < b
                · have k1 : decide ((mid : Int) < (en : Int)) = true := by simp <;> omega
                  have k2 : decide ((en : Int) < (b : Int)) = true := by simp <;> omega
                  have HCALL3 := hide (HIH.out (b - mid) (by have := HNN.out; omega) (p ++ (u1 ++ v1)) u2 v2 r g off N cap wr (mid : Int) (en : Int) (b : Int) (by have := HL3.out; have := HL4.out; omega) (by rw [hlm]) (by rw [hlm]; have := HL3.out; omega) (by rw [hlm]; have := HL3.out; have := HL4.out; omega) (by have := HL3.out; omega) (by have := HL4.out; omega) (by rw [hlm]; have := HL3.out; have := HL4.out; have := HN.out; omega) hcap HRV.out (Tm.Up.append.1 HUP1.out).2.1 (Tm.Up.append.1 HVP1.out).2.1 (by have h := HIL.out; simpa [List.append_assoc] using h) (HC.out.turn HT.out))
                  unfold byClassFn at HCALL3
                  clear hlm
                  go_wp2_with fail
                  all_goals
                    refine HCALL3.out.mono ?_
                    rintro e w9 ⟨rfl, ⟨s9, hso9, hI9⟩, hT9⟩
                    have HT9 := hide (HT.out.trans hT9)
                    have HI9 : Hid (Ints w9 g off (p ++ ((u1 ++ v1) ++ s9) ++ r)) := by unfold Hid; simpa [List.append_assoc] using hI9
                    have HSO9 := hide hso9
                    clear hT9 hI9 hso9
                    go_wp2
                    all_goals (first | go_end0 | refine bodyPost_ret (results_none rfl _ _ _) rfl ?_)
                    all_goals exact ⟨rfl, ⟨_, HGOAL.out _ _ HSL.out HSO9.out, HI9.out⟩, HT9.out⟩
                · have HSR : Hid (Tm.Sorts (Tm.classOf lns) (u2 ++ v2) (u2 ++ v2)) := Tm.Sorts.of_up (by
                    by_cases hz : u2 = []
                    · rw [hz]; simpa using (Tm.Up.append.1 HVP1.out).2.1
                    · have hz2 : v2 = [] := List.eq_nil_of_length_eq_zero (by have h3 := HL3.out; have h4 := HL4.out; have h5 : 0 < u2.length := List.length_pos_iff.2 hz; omega)
                      rw [hz2]; simpa using (Tm.Up.append.1 HUP1.out).2.1)
                  have HI9 : Hid (Ints wr g off (p ++ ((u1 ++ v1) ++ (u2 ++ v2)) ++ r)) := by have h := HIL.out; unfold Hid; simpa [List.append_assoc] using h
                  clear hlm
                  by_cases hme2 : mid < en
                  · have k1 : decide ((mid : Int) < (en : Int)) = true := by simp <;> omega
                    have k2 : decide ((en : Int) < (b : Int)) = false := by simp <;> omega
                    go_wp2
                    all_goals (first | go_end0 | refine bodyPost_ret (results_none rfl _ _ _) rfl ?_)
                    all_goals exact ⟨rfl, ⟨_, HGOAL.out _ _ HSL.out HSR.out, HI9.out⟩, HT.out⟩
                  · have k1 : decide ((mid : Int) < (en : Int)) = false := by simp <;> omega
                    go_wp2
                    all_goals (first | go_end0 | refine bodyPost_ret (results_none rfl _ _ _) rfl ?_)
                    all_goals exact ⟨rfl, ⟨_, HGOAL.out _ _ HSL.out HSR.out, HI9.out⟩, HT.out⟩
  · have hle : m ≤ mid := by omega
    obtain ⟨s0, hs0⟩ : ∃ s0 : Nat, s0 = a := ⟨_, rfl⟩
    have hdm : decide ((mid : Int) < (m : Int)) = false := by simp <;> omega
    obtain ⟨r0, hr0⟩ : ∃ r0 : Nat, r0 = m := ⟨_, rfl⟩
    have hs0a : a ≤ s0 := by omega
    have hs0r : s0 ≤ r0 := by omega
    have hr0m : r0 ≤ m := by omega
    have hr0d : r0 ≤ mid := by omega
    have hlow : m ≤ mid + m - r0 := by omega
    have hhi : mid + m - s0 ≤ b := by omega
    have HEA : Hid (∀ st, s0 ≤ st → st ≤ r0 → (st < m → st < mid → st ≠ r0) ∧ (a < st → mid + m - st < b → st ≠ s0)) := fun st h1 h2 => ⟨fun h3 h4 => by omega, fun h3 h4 => by omega⟩
    go_enter Tryz.func196, Tryz.ntmps196
    go_wp2
    go_loopw [20, 21] (fun vi vj wr => ∃ st re : Nat, vi = .int .i64 st ∧ vj = .int .i64 re ∧ s0 ≤ st ∧ st ≤ re ∧ re ≤ r0 ∧ (st = s0 ∨ Tm.classOf lns (u.getD (st - 1 - a) 0) ≤ Tm.classOf lns (v.getD (mid - st) 0)) ∧ (re = r0 ∨ Tm.classOf lns (v.getD (mid - 1 - re) 0) < Tm.classOf lns (u.getD (re - a) 0)) ∧ Ints wr g off (p ++ u ++ v ++ r) ∧ Turn g off N w wr) (fun vi vj _ => (intOf vj).toNat - (intOf vi).toNat)
    case atStart => exact ⟨s0, r0, by rw [hs0], by rw [hr0], Nat.le_refl _, hs0r, Nat.le_refl _, .inl rfl, .inl rfl, HI.out, Turn.refl _ _ _ _⟩
    case round =>
      obtain ⟨st, re, rfl, rfl, hst0, hsr, hrr, hlo, hhi2, hI, hT⟩ := hrel
      have HIr := hide hI
      have HT := hide hT
      have HCr := hide (HC.out.turn hT)
      have HLO := hide hlo
      have HHI := hide hhi2
      clear hlo hhi2 hI hT
      by_cases hlt : st < re
      · have hd : decide ((st : Int) < (re : Int)) = true := by simp <;> omega
        go_wp2_with fail
        obtain ⟨c, hce⟩ : ∃ c : Nat, ((st : Int) + (re : Int)) / 2 = (c : Int) := ⟨(st + re) / 2, by omega⟩
        obtain ⟨pc, hpc⟩ : ∃ pc : Nat, (mid : Int) + (m : Int) - 1 - (c : Int) = (pc : Int) := ⟨mid + m - 1 - c, by omega⟩
        rw [hce]
        have hc1 : st ≤ c := by omega
        have hc2 : c < re := by omega
        have hcu : c - a < u.length := by have := HM.out; omega
        have hpv : pc - m < v.length := by have := HB.out; omega
        have hpm : m ≤ pc := by omega
        have hpu : (p ++ u).length = m := by have := HA.out; have := HM.out; simp; omega
        have cx := HIr.out c u[c - a] (by have h := get_in (p := p) (v := u) (r := v ++ r) (i := c) (by have := HA.out; omega) (by rw [HA.out]; exact hcu); rw [List.append_assoc (p ++ u), h]; simp only [HA.out])
        have cy := HIr.out pc v[pc - m] (by have h := get_in (p := p ++ u) (v := v) (r := r) (i := pc) (by omega) (by rw [hpu]; exact hpv); rw [h]; simp only [hpu])
        have hxr := HR.out u[c - a] (by simp)
        have hyr := HR.out v[pc - m] (by simp)
        have gx : u.getD (c - a) 0 = u[c - a] := by rw [List.getD_eq_getElem?_getD, List.getElem?_eq_getElem hcu]; rfl
        have gy : v.getD (mid - 1 - c) 0 = v[pc - m] := by rw [show mid - 1 - c = pc - m from by omega, List.getD_eq_getElem?_getD, List.getElem?_eq_getElem hpv]; rfl
        have HCALL : Hid (∀ n, Calls Tryz.prog 166 #[.map (some bm), .int .i64 v[pc - m], .int .i64 u[c - a]] (wr.drewN n) fun e w' => e = .returned (.int .i64 (cmpInt (Tm.classOf lns v[pc - m]) (Tm.classOf lns u[c - a]))) ∧ w' = wr.drewN n) := fun n => HCr.out.call hyr hxr n
        have HGX := hide gx
        have HGY := hide gy
        clear gx gy
        generalize u[c - a] = x at *
        generalize v[pc - m] = y at *
        obtain ⟨cy, fy⟩ := cy
        obtain ⟨cx, fx⟩ := cx
        have i1 : (c : Int) < (N : Int) := by omega
        have i2 : (pc : Int) < (N : Int) := by omega
        obtain ⟨q, hq⟩ : ∃ q, decide (cmpInt (Tm.classOf lns y) (Tm.classOf lns x) < 0) = q := ⟨_, rfl⟩
        have hq' : decide (Tm.classOf lns y < Tm.classOf lns x) = q := by rw [← hq, cmpInt_neg]
        generalize cmpInt (Tm.classOf lns y) (Tm.classOf lns x) = cv at *
        clear hce hpu
        cases q
        · have hle2 : Tm.classOf lns x ≤ Tm.classOf lns y := by simpa using hq'
          have HL2 : Hid (Tm.classOf lns (u.getD (c + 1 - 1 - a) 0) ≤ Tm.classOf lns (v.getD (mid - (c + 1)) 0)) := by
            unfold Hid; rw [show c + 1 - 1 - a = c - a from by omega, show mid - (c + 1) = mid - 1 - c from by omega, HGX.out, HGY.out]; exact hle2
          clear hq' hle2
          go_quiet (first | (go_at_call 166; exact Calls.quiet_of_same (HCALL.out _)))
          go_wp2
          go_roundw
          case rel => exact ⟨c + 1, re, by go_num, rfl, by omega, by omega, hrr, .inr HL2.out, HHI.out, HIr.out, HT.out.drewN _⟩
          case measure => simp [intOf]; omega
        · have hle2 : Tm.classOf lns y < Tm.classOf lns x := by simpa using hq'
          have HH2 : Hid (Tm.classOf lns (v.getD (mid - 1 - c) 0) < Tm.classOf lns (u.getD (c - a) 0)) := by unfold Hid; rw [HGX.out, HGY.out]; exact hle2
          clear hq' hle2
          go_quiet (first | (go_at_call 166; exact Calls.quiet_of_same (HCALL.out _)))
          go_wp2
          go_roundw
          case rel => exact ⟨st, c, rfl, rfl, hst0, hc1, by omega, HLO.out, .inr HH2.out, HIr.out, HT.out.drewN _⟩
          case measure => simp [intOf]; omega
      · have hsre : st = re := by omega
        subst hsre
        have hd : decide ((st : Int) < (st : Int)) = false := by simp
        obtain ⟨en, hen⟩ : ∃ en : Nat, (mid : Int) + (m : Int) - (st : Int) = (en : Int) := ⟨mid + m - st, by omega⟩
        have hae : a ≤ st := by omega
        have hsm : st ≤ m := by omega
        have hsd : st ≤ mid := by omega
        have hme : m ≤ en := by omega
        have heb : en ≤ b := by omega
        have hde : mid ≤ en := by omega
        have hul : st - a ≤ u.length := by have := HM.out; omega
        have hvl : en - m ≤ v.length := by have := HB.out; omega
        have hspl := Tm.Up.split (T := st - a) (E := en - m) HUP.out HVP.out (fun q1 q2 _ => by
            rcases HHI.out with e | e
            · exact absurd e ((HEA.out st hst0 hrr).1 (by have := HM.out; omega) (by omega))
            · rw [show en - m - 1 = mid - 1 - st from by omega]; exact e) (fun q1 _ q3 => by
            rcases HLO.out with e | e
            · exact absurd e ((HEA.out st hst0 hrr).2 (by omega) (by have := HB.out; omega))
            · rw [show st - a - 1 = st - 1 - a from by omega, show en - m = mid - st from by omega]; exact e) hul hvl
        obtain ⟨u1, u2, hu12, hl1⟩ : ∃ u1 u2, u = u1 ++ u2 ∧ u1.length = st - a := ⟨u.take (st - a), u.drop (st - a), by rw [List.take_append_drop], by simp <;> omega⟩
        obtain ⟨v1, v2, hv12, hl2⟩ : ∃ v1 v2, v = v1 ++ v2 ∧ v1.length = en - m := ⟨v.take (en - m), v.drop (en - m), by rw [List.take_append_drop], by simp <;> omega⟩
        have e1 : u.take (st - a) = u1 := by rw [hu12, ← hl1]; simp
        have e2 : u.drop (st - a) = u2 := by rw [hu12, ← hl1]; simp
        have e3 : v.take (en - m) = v1 := by rw [hv12, ← hl2]; simp
        have e4 : v.drop (en - m) = v2 := by rw [hv12, ← hl2]; simp
        rw [e1, e2, e3, e4] at hspl
        have HSPL := hide hspl
        have HU12 := hide hu12
        have HV12 := hide hv12
        have HL1 := hide hl1
        have HL2 := hide hl2
        have HL3 : Hid (u2.length = m - st) := by have h := congrArg List.length hu12; have := HM.out; simp at h; unfold Hid; omega
        have HL4 : Hid (v2.length = b - en) := by have h := congrArg List.length hv12; have := HB.out; simp at h; unfold Hid; omega
        have HUP1 : Hid (Tm.Up (Tm.classOf lns) (u1 ++ u2)) := by unfold Hid; rw [← hu12]; exact HUP.out
        have HVP1 : Hid (Tm.Up (Tm.classOf lns) (v1 ++ v2)) := by unfold Hid; rw [← hv12]; exact HVP.out
        have HI0 : Hid (Ints wr g off ((p ++ u1) ++ u2 ++ v1 ++ (v2 ++ r))) := by have h := HIr.out; rw [hu12, hv12] at h; unfold Hid; simpa [List.append_assoc] using h
        have HRU : Hid (∀ z ∈ u1 ++ v1, 0 ≤ z ∧ z ≤ 1114111) := fun z hz => HR.out z (by rw [hu12, hv12]; simp at hz ⊢; rcases hz with h | h <;> simp [h])
        have HRV : Hid (∀ z ∈ u2 ++ v2, 0 ≤ z ∧ z ≤ 1114111) := fun z hz => HR.out z (by rw [hu12, hv12]; simp at hz ⊢; rcases hz with h | h <;> simp [h])
        have HGOAL : Hid (∀ l s : List Int, Tm.Sorts (Tm.classOf lns) (u1 ++ v1) l → Tm.Sorts (Tm.classOf lns) (u2 ++ v2) s → Tm.Sorts (Tm.classOf lns) (u ++ v) (l ++ s)) := fun l s h1 h2 => by rw [hu12, hv12]; exact Tm.Sorts.merge h1 h2 HUP1.out HVP1.out hspl.1 hspl.2
        clear hspl hu12 hv12 hl1 hl2 e1 e2 e3 e4
        by_cases hrot : st < m ∧ m < en
        · have g1 : decide ((st : Int) < (m : Int)) = true := by simp <;> omega
          have g2 : decide ((m : Int) < (en : Int)) = true := by simp <;> omega
          go_wp2_with fail
          refine (rotate_at (p ++ u1) u2 v1 (v2 ++ r) g off N cap _ wr (by have := HA.out; have := HL1.out; simp; omega) (by have := HA.out; have := HL1.out; have := HL3.out; simp; omega) (by have := HA.out; have := HL1.out; have := HL3.out; have := HL2.out; simp; omega) (by have := HL3.out; omega) (by have := HL2.out; omega) (by have := HA.out; have := HL1.out; have := HL2.out; have := HL3.out; have := HL4.out; have := HN.out; simp; omega) hcap HI0.out).mono ?_
          rintro e w7 ⟨rfl, hI7, hT7⟩
          have HT7 := hide (HT.out.trans hT7)
          have HI1 : Hid (Ints w7 g off (p ++ u1 ++ v1 ++ u2 ++ (v2 ++ r))) := hI7
          clear hI7 hT7
          by_cases hleft : a < st ∧ st < mid
          · have j1 : decide ((a : Int) < (st : Int)) = true := by simp <;> omega
            have j2 : decide ((st : Int) < (mid : Int)) = true := by simp <;> omega
            have HCALL2 := hide (HIH.out (mid - a) (by have := HNN.out; omega) p u1 v1 (u2 ++ v2 ++ r) g off N cap w7 (a : Int) (st : Int) (mid : Int) (by have := HL1.out; have := HL2.out; omega) (by have := HA.out; omega) (by have := HA.out; have := HL1.out; omega) (by have := HA.out; have := HL1.out; have := HL2.out; omega) (by have := HL1.out; omega) (by have := HL2.out; omega) (by have := HA.out; have := HL1.out; have := HL2.out; have := HL3.out; have := HL4.out; have := HN.out; simp; omega) hcap HRU.out (Tm.Up.append.1 HUP1.out).1 (Tm.Up.append.1 HVP1.out).1 (by have h := HI1.out; simpa [List.append_assoc] using h) (HC.out.turn HT7.out))
            unfold byClassFn at HCALL2
            go_wp2_with fail
            all_goals
              refine HCALL2.out.mono ?_
              rintro e w8 ⟨rfl, ⟨l, hso8, hI8⟩, hT8⟩
              have HT8 := hide (HT7.out.trans hT8)
              have HIL := hide hI8
              have HSL := hide hso8
              clear hT8 hI8 hso8
              have hlm : (p ++ l).length = mid := by have h := HSL.out.2.length; have := HA.out; have := HL1.out; have := HL2.out; simp at h ⊢; omega
              by_cases hright : mid < en ∧ en < b
              · have k1 : decide ((mid : Int) < (en : Int)) = true := by simp <;> omega
                have k2 : decide ((en : Int) < (b : Int)) = true := by simp <;> omega
                have HCALL3 := hide (HIH.out (b - mid) (by have := HNN.out; omega) (p ++ l) u2 v2 r g off N cap w8 (mid : Int) (en : Int) (b : Int) (by have := HL3.out; have := HL4.out; omega) (by rw [hlm]) (by rw [hlm]; have := HL3.out; omega) (by rw [hlm]; have := HL3.out; have := HL4.out; omega) (by have := HL3.out; omega) (by have := HL4.out; omega) (by rw [hlm]; have := HL3.out; have := HL4.out; have := HN.out; omega) hcap HRV.out (Tm.Up.append.1 HUP1.out).2.1 (Tm.Up.append.1 HVP1.out).2.1 (by have h := HIL.out; simpa [List.append_assoc] using h) (HC.out.turn HT8.out))
                unfold byClassFn at HCALL3
                clear hlm
                go_wp2_with fail
                all_goals
                  refine HCALL3.out.mono ?_
                  rintro e w9 ⟨rfl, ⟨s9, hso9, hI9⟩, hT9⟩
                  have HT9 := hide (HT8.out.trans hT9)
                  have HI9 : Hid (Ints w9 g off (p ++ (l ++ s9) ++ r)) := by unfold Hid; simpa [List.append_assoc] using hI9
                  have HSO9 := hide hso9
                  clear hT9 hI9 hso9
                  go_wp2
                  all_goals (first | go_end0 | refine bodyPost_ret (results_none rfl _ _ _) rfl ?_)
                  all_goals exact ⟨rfl, ⟨_, HGOAL.out _ _ HSL.out HSO9.out, HI9.out⟩, HT9.out⟩
              · have HSR : Hid (Tm.Sorts (Tm.classOf lns) (u2 ++ v2) (u2 ++ v2)) := Tm.Sorts.of_up (by
                  by_cases hz : u2 = []
                  · rw [hz]; simpa using (Tm.Up.append.1 HVP1.out).2.1
                  · have hz2 : v2 = [] := List.eq_nil_of_length_eq_zero (by have h3 := HL3.out; have h4 := HL4.out; have h5 : 0 < u2.length := List.length_pos_iff.2 hz; omega)
                    rw [hz2]; simpa using (Tm.Up.append.1 HUP1.out).2.1)
                have HI9 : Hid (Ints w8 g off (p ++ (l ++ (u2 ++ v2)) ++ r)) := by have h := HIL.out; unfold Hid; simpa [List.append_assoc] using h
                clear hlm
                by_cases hme2 : mid < en
                · have k1 : decide ((mid : Int) < (en : Int)) = true := by simp <;> omega
                  have k2 : decide ((en : Int) < (b : Int)) = false := by simp <;> omega
                  go_wp2
                  all_goals (first | go_end0 | refine bodyPost_ret (results_none rfl _ _ _) rfl ?_)
                  all_goals exact ⟨rfl, ⟨_, HGOAL.out _ _ HSL.out HSR.out, HI9.out⟩, HT8.out⟩
                · have k1 : decide ((mid : Int) < (en : Int)) = false := by simp <;> omega
                  go_wp2
                  all_goals (first | go_end0 | refine bodyPost_ret (results_none rfl _ _ _) rfl ?_)
                  all_goals exact ⟨rfl, ⟨_, HGOAL.out _ _ HSL.out HSR.out, HI9.out⟩, HT8.out⟩
          · have HSL : Hid (Tm.Sorts (Tm.classOf lns) (u1 ++ v1) (u1 ++ v1)) := Tm.Sorts.of_up (by
              by_cases hz : u1 = []
              · rw [hz]; simpa using (Tm.Up.append.1 HVP1.out).1
              · have hz2 : v1 = [] := List.eq_nil_of_length_eq_zero (by have h3 := HL1.out; have h4 := HL2.out; have h5 : 0 < u1.length := List.length_pos_iff.2 hz; omega)
                rw [hz2]; simpa using (Tm.Up.append.1 HUP1.out).1)
            have HIL : Hid (Ints w7 g off (p ++ (u1 ++ v1) ++ (u2 ++ v2 ++ r))) := by have h := HI1.out; unfold Hid; simpa [List.append_assoc] using h
            have hj : decide ((a : Int) < (st : Int)) = false ∨ (decide ((a : Int) < (st : Int)) = true ∧ decide ((st : Int) < (mid : Int)) = false) := by
              by_cases h : a < st
              · right; exact ⟨by simp <;> omega, by simp <;> omega⟩
              · left; simp; omega
            rcases hj with j1 | ⟨j1, j2⟩
            · have hlm : (p ++ (u1 ++ v1)).length = mid := by have h := HSL.out.2.length; have := HA.out; have := HL1.out; have := HL2.out; simp at h ⊢; omega
              by_cases hright : mid < en ∧ en < b
              · have k1 : decide ((mid : Int) < (en : Int)) = true := by simp <;> omega
                have k2 : decide ((en : Int) < (b : Int)) = true := by simp <;> omega
                have HCALL3 := hide (HIH.out (b - mid) (by have := HNN.out; omega) (p ++ (u1 ++ v1)) u2 v2 r g off N cap w7 (mid : Int) (en : Int) (b : Int) (by have := HL3.out; have := HL4.out; omega) (by rw [hlm]) (by rw [hlm]; have := HL3.out; omega) (by rw [hlm]; have := HL3.out; have := HL4.out; omega) (by have := HL3.out; omega) (by have := HL4.out; omega) (by rw [hlm]; have := HL3.out; have := HL4.out; have := HN.out; omega) hcap HRV.out (Tm.Up.append.1 HUP1.out).2.1 (Tm.Up.append.1 HVP1.out).2.1 (by have h := HIL.out; simpa [List.append_assoc] using h) (HC.out.turn HT7.out))
                unfold byClassFn at HCALL3
                clear hlm
                go_wp2_with fail
                all_goals
                  refine HCALL3.out.mono ?_
                  rintro e w9 ⟨rfl, ⟨s9, hso9, hI9⟩, hT9⟩
                  have HT9 := hide (HT7.out.trans hT9)
                  have HI9 : Hid (Ints w9 g off (p ++ ((u1 ++ v1) ++ s9) ++ r)) := by unfold Hid; simpa [List.append_assoc] using hI9
                  have HSO9 := hide hso9
                  clear hT9 hI9 hso9
                  go_wp2
                  all_goals (first | go_end0 | refine bodyPost_ret (results_none rfl _ _ _) rfl ?_)
                  all_goals exact ⟨rfl, ⟨_, HGOAL.out _ _ HSL.out HSO9.out, HI9.out⟩, HT9.out⟩
              · have HSR : Hid (Tm.Sorts (Tm.classOf lns) (u2 ++ v2) (u2 ++ v2)) := Tm.Sorts.of_up (by
                  by_cases hz : u2 = []
                  · rw [hz]; simpa using (Tm.Up.append.1 HVP1.out).2.1
                  · have hz2 : v2 = [] := List.eq_nil_of_length_eq_zero (by have h3 := HL3.out; have h4 := HL4.out; have h5 : 0 < u2.length := List.length_pos_iff.2 hz; omega)
                    rw [hz2]; simpa using (Tm.Up.append.1 HUP1.out).2.1)
                have HI9 : Hid (Ints w7 g off (p ++ ((u1 ++ v1) ++ (u2 ++ v2)) ++ r)) := by have h := HIL.out; unfold Hid; simpa [List.append_assoc] using h
                clear hlm
                by_cases hme2 : mid < en
                · have k1 : decide ((mid : Int) < (en : Int)) = true := by simp <;> omega
                  have k2 : decide ((en : Int) < (b : Int)) = false := by simp <;> omega
                  go_wp2
                  all_goals (first | go_end0 | refine bodyPost_ret (results_none rfl _ _ _) rfl ?_)
                  all_goals exact ⟨rfl, ⟨_, HGOAL.out _ _ HSL.out HSR.out, HI9.out⟩, HT7.out⟩
                · have k1 : decide ((mid : Int) < (en : Int)) = false := by simp <;> omega
                  go_wp2
                  all_goals (first | go_end0 | refine bodyPost_ret (results_none rfl _ _ _) rfl ?_)
                  all_goals exact ⟨rfl, ⟨_, HGOAL.out _ _ HSL.out HSR.out, HI9.out⟩, HT7.out⟩
            · have hlm : (p ++ (u1 ++ v1)).length = mid := by have h := HSL.out.2.length; have := HA.out; have := HL1.out; have := HL2.out; simp at h ⊢; omega
              by_cases hright : mid < en ∧ en < b
              · have k1 : decide ((mid : Int) < (en : Int)) = true := by simp <;> omega
                have k2 : decide ((en : Int) < (b : Int)) = true := by simp <;> omega
                have HCALL3 := hide (HIH.out (b - mid) (by have := HNN.out; omega) (p ++ (u1 ++ v1)) u2 v2 r g off N cap w7 (mid : Int) (en : Int) (b : Int) (by have := HL3.out; have := HL4.out; omega) (by rw [hlm]) (by rw [hlm]; have := HL3.out; omega) (by rw [hlm]; have := HL3.out; have := HL4.out; omega) (by have := HL3.out; omega) (by have := HL4.out; omega) (by rw [hlm]; have := HL3.out; have := HL4.out; have := HN.out; omega) hcap HRV.out (Tm.Up.append.1 HUP1.out).2.1 (Tm.Up.append.1 HVP1.out).2.1 (by have h := HIL.out; simpa [List.append_assoc] using h) (HC.out.turn HT7.out))
                unfold byClassFn at HCALL3
                clear hlm
                go_wp2_with fail
                all_goals
                  refine HCALL3.out.mono ?_
                  rintro e w9 ⟨rfl, ⟨s9, hso9, hI9⟩, hT9⟩
                  have HT9 := hide (HT7.out.trans hT9)
                  have HI9 : Hid (Ints w9 g off (p ++ ((u1 ++ v1) ++ s9) ++ r)) := by unfold Hid; simpa [List.append_assoc] using hI9
                  have HSO9 := hide hso9
                  clear hT9 hI9 hso9
                  go_wp2
                  all_goals (first | go_end0 | refine bodyPost_ret (results_none rfl _ _ _) rfl ?_)
                  all_goals exact ⟨rfl, ⟨_, HGOAL.out _ _ HSL.out HSO9.out, HI9.out⟩, HT9.out⟩
              · have HSR : Hid (Tm.Sorts (Tm.classOf lns) (u2 ++ v2) (u2 ++ v2)) := Tm.Sorts.of_up (by
                  by_cases hz : u2 = []
                  · rw [hz]; simpa using (Tm.Up.append.1 HVP1.out).2.1
                  · have hz2 : v2 = [] := List.eq_nil_of_length_eq_zero (by have h3 := HL3.out; have h4 := HL4.out; have h5 : 0 < u2.length := List.length_pos_iff.2 hz; omega)
                    rw [hz2]; simpa using (Tm.Up.append.1 HUP1.out).2.1)
                have HI9 : Hid (Ints w7 g off (p ++ ((u1 ++ v1) ++ (u2 ++ v2)) ++ r)) := by have h := HIL.out; unfold Hid; simpa [List.append_assoc] using h
                clear hlm
                by_cases hme2 : mid < en
                · have k1 : decide ((mid : Int) < (en : Int)) = true := by simp <;> omega
                  have k2 : decide ((en : Int) < (b : Int)) = false := by simp <;> omega
                  go_wp2
                  all_goals (first | go_end0 | refine bodyPost_ret (results_none rfl _ _ _) rfl ?_)
                  all_goals exact ⟨rfl, ⟨_, HGOAL.out _ _ HSL.out HSR.out, HI9.out⟩, HT7.out⟩
                · have k1 : decide ((mid : Int) < (en : Int)) = false := by simp <;> omega
                  go_wp2
                  all_goals (first | go_end0 | refine bodyPost_ret (results_none rfl _ _ _) rfl ?_)
                  all_goals exact ⟨rfl, ⟨_, HGOAL.out _ _ HSL.out HSR.out, HI9.out⟩, HT7.out⟩
        · have HI1 : Hid (Ints wr g off (p ++ u1 ++ v1 ++ u2 ++ (v2 ++ r))) := by
            have h := HI0.out
            unfold Hid
            by_cases hz : u2 = []
            · rw [hz] at h ⊢; simpa [List.append_assoc] using h
            · have hz2 : v1 = [] := List.eq_nil_of_length_eq_zero (by have h3 := HL3.out; have h4 := HL2.out; have h5 : 0 < u2.length := List.length_pos_iff.2 hz; omega)
              rw [hz2] at h ⊢; simpa [List.append_assoc] using h
          have hg : decide ((st : Int) < (m : Int)) = false ∨ (decide ((st : Int) < (m : Int)) = true ∧ decide ((m : Int) < (en : Int)) = false) := by
            by_cases h : st < m
            · right; exact ⟨by simp <;> omega, by simp <;> omega⟩
            · left; simp; omega
          rcases hg with g1 | ⟨g1, g2⟩
          · by_cases hleft : a < st ∧ st < mid
            · have j1 : decide ((a : Int) < (st : Int)) = true := by simp <;> omega
              have j2 : decide ((st : Int) < (mid : Int)) = true := by simp <;> omega
              have HCALL2 := hide (HIH.out (mid - a) (by have := HNN.out; omega) p u1 v1 (u2 ++ v2 ++ r) g off N cap wr (a : Int) (st : Int) (mid : Int) (by have := HL1.out; have := HL2.out; omega) (by have := HA.out; omega) (by have := HA.out; have := HL1.out; omega) (by have := HA.out; have := HL1.out; have := HL2.out; omega) (by have := HL1.out; omega) (by have := HL2.out; omega) (by have := HA.out; have := HL1.out; have := HL2.out; have := HL3.out; have := HL4.out; have := HN.out; simp; omega) hcap HRU.out (Tm.Up.append.1 HUP1.out).1 (Tm.Up.append.1 HVP1.out).1 (by have h := HI1.out; simpa [List.append_assoc] using h) (HC.out.turn HT.out))
              unfold byClassFn at HCALL2
              go_wp2_with fail
              all_goals
                refine HCALL2.out.mono ?_
                rintro e w8 ⟨rfl, ⟨l, hso8, hI8⟩, hT8⟩
                have HT8 := hide (HT.out.trans hT8)
                have HIL := hide hI8
                have HSL := hide hso8
                clear hT8 hI8 hso8
                have hlm : (p ++ l).length = mid := by have h := HSL.out.2.length; have := HA.out; have := HL1.out; have := HL2.out; simp at h ⊢; omega
                by_cases hright : mid < en ∧ en < b
                · have k1 : decide ((mid : Int) < (en : Int)) = true := by simp <;> omega
                  have k2 : decide ((en : Int) < (b : Int)) = true := by simp <;> omega
                  have HCALL3 := hide (HIH.out (b - mid) (by have := HNN.out; omega) (p ++ l) u2 v2 r g off N cap w8 (mid : Int) (en : Int) (b : Int) (by have := HL3.out; have := HL4.out; omega) (by rw [hlm]) (by rw [hlm]; have := HL3.out; omega) (by rw [hlm]; have := HL3.out; have := HL4.out; omega) (by have := HL3.out; omega) (by have := HL4.out; omega) (by rw [hlm]; have := HL3.out; have := HL4.out; have := HN.out; omega) hcap HRV.out (Tm.Up.append.1 HUP1.out).2.1 (Tm.Up.append.1 HVP1.out).2.1 (by have h := HIL.out; simpa [List.append_assoc] using h) (HC.out.turn HT8.out))
                  unfold byClassFn at HCALL3
                  clear hlm
                  go_wp2_with fail
                  all_goals
                    refine HCALL3.out.mono ?_
                    rintro e w9 ⟨rfl, ⟨s9, hso9, hI9⟩, hT9⟩
                    have HT9 := hide (HT8.out.trans hT9)
                    have HI9 : Hid (Ints w9 g off (p ++ (l ++ s9) ++ r)) := by unfold Hid; simpa [List.append_assoc] using hI9
                    have HSO9 := hide hso9
                    clear hT9 hI9 hso9
                    go_wp2
                    all_goals (first | go_end0 | refine bodyPost_ret (results_none rfl _ _ _) rfl ?_)
                    all_goals exact ⟨rfl, ⟨_, HGOAL.out _ _ HSL.out HSO9.out, HI9.out⟩, HT9.out⟩
                · have HSR : Hid (Tm.Sorts (Tm.classOf lns) (u2 ++ v2) (u2 ++ v2)) := Tm.Sorts.of_up (by
                    by_cases hz : u2 = []
                    · rw [hz]; simpa using (Tm.Up.append.1 HVP1.out).2.1
                    · have hz2 : v2 = [] := List.eq_nil_of_length_eq_zero (by have h3 := HL3.out; have h4 := HL4.out; have h5 : 0 < u2.length := List.length_pos_iff.2 hz; omega)
                      rw [hz2]; simpa using (Tm.Up.append.1 HUP1.out).2.1)
                  have HI9 : Hid (Ints w8 g off (p ++ (l ++ (u2 ++ v2)) ++ r)) := by have h := HIL.out; unfold Hid; simpa [List.append_assoc] using h
                  clear hlm
                  by_cases hme2 : mid < en
                  · have k1 : decide ((mid : Int) < (en : Int)) = true := by simp <;> omega
                    have k2 : decide ((en : Int) < (b : Int)) = false := by simp <;> omega
                    go_wp2
                    all_goals (first | go_end0 | refine bodyPost_ret (results_none rfl _ _ _) rfl ?_)
                    all_goals exact ⟨rfl, ⟨_, HGOAL.out _ _ HSL.out HSR.out, HI9.out⟩, HT8.out⟩
                  · have k1 : decide ((mid : Int) < (en : Int)) = false := by simp <;> omega
                    go_wp2
                    all_goals (first | go_end0 | refine bodyPost_ret (results_none rfl _ _ _) rfl ?_)
                    all_goals exact ⟨rfl, ⟨_, HGOAL.out _ _ HSL.out HSR.out, HI9.out⟩, HT8.out⟩
            · have HSL : Hid (Tm.Sorts (Tm.classOf lns) (u1 ++ v1) (u1 ++ v1)) := Tm.Sorts.of_up (by
                by_cases hz : u1 = []
                · rw [hz]; simpa using (Tm.Up.append.1 HVP1.out).1
                · have hz2 : v1 = [] := List.eq_nil_of_length_eq_zero (by have h3 := HL1.out; have h4 := HL2.out; have h5 : 0 < u1.length := List.length_pos_iff.2 hz; omega)
                  rw [hz2]; simpa using (Tm.Up.append.1 HUP1.out).1)
              have HIL : Hid (Ints wr g off (p ++ (u1 ++ v1) ++ (u2 ++ v2 ++ r))) := by have h := HI1.out; unfold Hid; simpa [List.append_assoc] using h
              have hj : decide ((a : Int) < (st : Int)) = false ∨ (decide ((a : Int) < (st : Int)) = true ∧ decide ((st : Int) < (mid : Int)) = false) := by
                by_cases h : a < st
                · right; exact ⟨by simp <;> omega, by simp <;> omega⟩
                · left; simp; omega
              rcases hj with j1 | ⟨j1, j2⟩
              · have hlm : (p ++ (u1 ++ v1)).length = mid := by have h := HSL.out.2.length; have := HA.out; have := HL1.out; have := HL2.out; simp at h ⊢; omega
                by_cases hright : mid < en ∧ en < b
                · have k1 : decide ((mid : Int) < (en : Int)) = true := by simp <;> omega
                  have k2 : decide ((en : Int) < (b : Int)) = true := by simp <;> omega
                  have HCALL3 := hide (HIH.out (b - mid) (by have := HNN.out; omega) (p ++ (u1 ++ v1)) u2 v2 r g off N cap wr (mid : Int) (en : Int) (b : Int) (by have := HL3.out; have := HL4.out; omega) (by rw [hlm]) (by rw [hlm]; have := HL3.out; omega) (by rw [hlm]; have := HL3.out; have := HL4.out; omega) (by have := HL3.out; omega) (by have := HL4.out; omega) (by rw [hlm]; have := HL3.out; have := HL4.out; have := HN.out; omega) hcap HRV.out (Tm.Up.append.1 HUP1.out).2.1 (Tm.Up.append.1 HVP1.out).2.1 (by have h := HIL.out; simpa [List.append_assoc] using h) (HC.out.turn HT.out))
                  unfold byClassFn at HCALL3
                  clear hlm
                  go_wp2_with fail
                  all_goals
                    refine HCALL3.out.mono ?_
                    rintro e w9 ⟨rfl, ⟨s9, hso9, hI9⟩, hT9⟩
                    have HT9 := hide (HT.out.trans hT9)
                    have HI9 : Hid (Ints w9 g off (p ++ ((u1 ++ v1) ++ s9) ++ r)) := by unfold Hid; simpa [List.append_assoc] using hI9
                    have HSO9 := hide hso9
                    clear hT9 hI9 hso9
                    go_wp2
                    all_goals (first | go_end0 | refine bodyPost_ret (results_none rfl _ _ _) rfl ?_)
                    all_goals exact ⟨rfl, ⟨_, HGOAL.out _ _ HSL.out HSO9.out, HI9.out⟩, HT9.out⟩
                · have HSR : Hid (Tm.Sorts (Tm.classOf lns) (u2 ++ v2) (u2 ++ v2)) := Tm.Sorts.of_up (by
                    by_cases hz : u2 = []
                    · rw [hz]; simpa using (Tm.Up.append.1 HVP1.out).2.1
                    · have hz2 : v2 = [] := List.eq_nil_of_length_eq_zero (by have h3 := HL3.out; have h4 := HL4.out; have h5 : 0 < u2.length := List.length_pos_iff.2 hz; omega)
                      rw [hz2]; simpa using (Tm.Up.append.1 HUP1.out).2.1)
                  have HI9 : Hid (Ints wr g off (p ++ ((u1 ++ v1) ++ (u2 ++ v2)) ++ r)) := by have h := HIL.out; unfold Hid; simpa [List.append_assoc] using h
                  clear hlm
                  by_cases hme2 : mid < en
                  · have k1 : decide ((mid : Int) < (en : Int)) = true := by simp <;> omega
                    have k2 : decide ((en : Int) < (b : Int)) = false := by simp <;> omega
                    go_wp2
                    all_goals (first | go_end0 | refine bodyPost_ret (results_none rfl _ _ _) rfl ?_)
                    all_goals exact ⟨rfl, ⟨_, HGOAL.out _ _ HSL.out HSR.out, HI9.out⟩, HT.out⟩
                  · have k1 : decide ((mid : Int) < (en : Int)) = false := by simp <;> omega
                    go_wp2
                    all_goals (first | go_end0 | refine bodyPost_ret (results_none rfl _ _ _) rfl ?_)
                    all_goals exact ⟨rfl, ⟨_, HGOAL.out _ _ HSL.out HSR.out, HI9.out⟩, HT.out⟩
              · have hlm : (p ++ (u1 ++ v1)).length = mid := by have h := HSL.out.2.length; have := HA.out; have := HL1.out; have := HL2.out; simp at h ⊢; omega
                by_cases hright : mid < en ∧ en < b
                · have k1 : decide ((mid : Int) < (en : Int)) = true := by simp <;> omega
                  have k2 : decide ((en : Int) < (b : Int)) = true := by simp <;> omega
                  have HCALL3 := hide (HIH.out (b - mid) (by have := HNN.out; omega) (p ++ (u1 ++ v1)) u2 v2 r g off N cap wr (mid : Int) (en : Int) (b : Int) (by have := HL3.out; have := HL4.out; omega) (by rw [hlm]) (by rw [hlm]; have := HL3.out; omega) (by rw [hlm]; have := HL3.out; have := HL4.out; omega) (by have := HL3.out; omega) (by have := HL4.out; omega) (by rw [hlm]; have := HL3.out; have := HL4.out; have := HN.out; omega) hcap HRV.out (Tm.Up.append.1 HUP1.out).2.1 (Tm.Up.append.1 HVP1.out).2.1 (by have h := HIL.out; simpa [List.append_assoc] using h) (HC.out.turn HT.out))
                  unfold byClassFn at HCALL3
                  clear hlm
                  go_wp2_with fail
                  all_goals
                    refine HCALL3.out.mono ?_
                    rintro e w9 ⟨rfl, ⟨s9, hso9, hI9⟩, hT9⟩
                    have HT9 := hide (HT.out.trans hT9)
                    have HI9 : Hid (Ints w9 g off (p ++ ((u1 ++ v1) ++ s9) ++ r)) := by unfold Hid; simpa [List.append_assoc] using hI9
                    have HSO9 := hide hso9
                    clear hT9 hI9 hso9
                    go_wp2
                    all_goals (first | go_end0 | refine bodyPost_ret (results_none rfl _ _ _) rfl ?_)
                    all_goals exact ⟨rfl, ⟨_, HGOAL.out _ _ HSL.out HSO9.out, HI9.out⟩, HT9.out⟩
                · have HSR : Hid (Tm.Sorts (Tm.classOf lns) (u2 ++ v2) (u2 ++ v2)) := Tm.Sorts.of_up (by
                    by_cases hz : u2 = []
                    · rw [hz]; simpa using (Tm.Up.append.1 HVP1.out).2.1
                    · have hz2 : v2 = [] := List.eq_nil_of_length_eq_zero (by have h3 := HL3.out; have h4 := HL4.out; have h5 : 0 < u2.length := List.length_pos_iff.2 hz; omega)
                      rw [hz2]; simpa using (Tm.Up.append.1 HUP1.out).2.1)
                  have HI9 : Hid (Ints wr g off (p ++ ((u1 ++ v1) ++ (u2 ++ v2)) ++ r)) := by have h := HIL.out; unfold Hid; simpa [List.append_assoc] using h
                  clear hlm
                  by_cases hme2 : mid < en
                  · have k1 : decide ((mid : Int) < (en : Int)) = true := by simp <;> omega
                    have k2 : decide ((en : Int) < (b : Int)) = false := by simp <;> omega
                    go_wp2
                    all_goals (first | go_end0 | refine bodyPost_ret (results_none rfl _ _ _) rfl ?_)
                    all_goals exact ⟨rfl, ⟨_, HGOAL.out _ _ HSL.out HSR.out, HI9.out⟩, HT.out⟩
                  · have k1 : decide ((mid : Int) < (en : Int)) = false := by simp <;> omega
                    go_wp2
                    all_goals (first | go_end0 | refine bodyPost_ret (results_none rfl _ _ _) rfl ?_)
                    all_goals exact ⟨rfl, ⟨_, HGOAL.out _ _ HSL.out HSR.out, HI9.out⟩, HT.out⟩
          · by_cases hleft : a < st ∧ st < mid
            · have j1 : decide ((a : Int) < (st : Int)) = true := by simp <;> omega
              have j2 : decide ((st : Int) < (mid : Int)) = true := by simp <;> omega
              have HCALL2 := hide (HIH.out (mid - a) (by have := HNN.out; omega) p u1 v1 (u2 ++ v2 ++ r) g off N cap wr (a : Int) (st : Int) (mid : Int) (by have := HL1.out; have := HL2.out; omega) (by have := HA.out; omega) (by have := HA.out; have := HL1.out; omega) (by have := HA.out; have := HL1.out; have := HL2.out; omega) (by have := HL1.out; omega) (by have := HL2.out; omega) (by have := HA.out; have := HL1.out; have := HL2.out; have := HL3.out; have := HL4.out; have := HN.out; simp; omega) hcap HRU.out (Tm.Up.append.1 HUP1.out).1 (Tm.Up.append.1 HVP1.out).1 (by have h := HI1.out; simpa [List.append_assoc] using h) (HC.out.turn HT.out))
              unfold byClassFn at HCALL2
              go_wp2_with fail
              all_goals
                refine HCALL2.out.mono ?_
                rintro e w8 ⟨rfl, ⟨l, hso8, hI8⟩, hT8⟩
                have HT8 := hide (HT.out.trans hT8)
                have HIL := hide hI8
                have HSL := hide hso8
                clear hT8 hI8 hso8
                have hlm : (p ++ l).length = mid := by have h := HSL.out.2.length; have := HA.out; have := HL1.out; have := HL2.out; simp at h ⊢; omega
                by_cases hright : mid < en ∧ en < b
                · have k1 : decide ((mid : Int) < (en : Int)) = true := by simp <;> omega
                  have k2 : decide ((en : Int) < (b : Int)) = true := by simp <;> omega
                  have HCALL3 := hide (HIH.out (b - mid) (by have := HNN.out; omega) (p ++ l) u2 v2 r g off N cap w8 (mid : Int) (en : Int) (b : Int) (by have := HL3.out; have := HL4.out; omega) (by rw [hlm]) (by rw [hlm]; have := HL3.out; omega) (by rw [hlm]; have := HL3.out; have := HL4.out; omega) (by have := HL3.out; omega) (by have := HL4.out; omega) (by rw [hlm]; have := HL3.out; have := HL4.out; have := HN.out; omega) hcap HRV.out (Tm.Up.append.1 HUP1.out).2.1 (Tm.Up.append.1 HVP1.out).2.1 (by have h := HIL.out; simpa [List.append_assoc] using h) (HC.out.turn HT8.out))
                  unfold byClassFn at HCALL3
                  clear hlm
                  go_wp2_with fail
                  all_goals
                    refine HCALL3.out.mono ?_
                    rintro e w9 ⟨rfl, ⟨s9, hso9, hI9⟩, hT9⟩
                    have HT9 := hide (HT8.out.trans hT9)
                    have HI9 : Hid (Ints w9 g off (p ++ (l ++ s9) ++ r)) := by unfold Hid; simpa [List.append_assoc] using hI9
                    have HSO9 := hide hso9
                    clear hT9 hI9 hso9
                    go_wp2
                    all_goals (first | go_end0 | refine bodyPost_ret (results_none rfl _ _ _) rfl ?_)
                    all_goals exact ⟨rfl, ⟨_, HGOAL.out _ _ HSL.out HSO9.out, HI9.out⟩, HT9.out⟩
                · have HSR : Hid (Tm.Sorts (Tm.classOf lns) (u2 ++ v2) (u2 ++ v2)) := Tm.Sorts.of_up (by
                    by_cases hz : u2 = []
                    · rw [hz]; simpa using (Tm.Up.append.1 HVP1.out).2.1
                    · have hz2 : v2 = [] := List.eq_nil_of_length_eq_zero (by have h3 := HL3.out; have h4 := HL4.out; have h5 : 0 < u2.length := List.length_pos_iff.2 hz; omega)
                      rw [hz2]; simpa using (Tm.Up.append.1 HUP1.out).2.1)
                  have HI9 : Hid (Ints w8 g off (p ++ (l ++ (u2 ++ v2)) ++ r)) := by have h := HIL.out; unfold Hid; simpa [List.append_assoc] using h
                  clear hlm
                  by_cases hme2 : mid < en
                  · have k1 : decide ((mid : Int) < (en : Int)) = true := by simp <;> omega
                    have k2 : decide ((en : Int) < (b : Int)) = false := by simp <;> omega
                    go_wp2
                    all_goals (first | go_end0 | refine bodyPost_ret (results_none rfl _ _ _) rfl ?_)
                    all_goals exact ⟨rfl, ⟨_, HGOAL.out _ _ HSL.out HSR.out, HI9.out⟩, HT8.out⟩
                  · have k1 : decide ((mid : Int) < (en : Int)) = false := by simp <;> omega
                    go_wp2
                    all_goals (first | go_end0 | refine bodyPost_ret (results_none rfl _ _ _) rfl ?_)
                    all_goals exact ⟨rfl, ⟨_, HGOAL.out _ _ HSL.out HSR.out, HI9.out⟩, HT8.out⟩
            · have HSL : Hid (Tm.Sorts (Tm.classOf lns) (u1 ++ v1) (u1 ++ v1)) := Tm.Sorts.of_up (by
                by_cases hz : u1 = []
                · rw [hz]; simpa using (Tm.Up.append.1 HVP1.out).1
                · have hz2 : v1 = [] := List.eq_nil_of_length_eq_zero (by have h3 := HL1.out; have h4 := HL2.out; have h5 : 0 < u1.length := List.length_pos_iff.2 hz; omega)
                  rw [hz2]; simpa using (Tm.Up.append.1 HUP1.out).1)
              have HIL : Hid (Ints wr g off (p ++ (u1 ++ v1) ++ (u2 ++ v2 ++ r))) := by have h := HI1.out; unfold Hid; simpa [List.append_assoc] using h
              have hj : decide ((a : Int) < (st : Int)) = false ∨ (decide ((a : Int) < (st : Int)) = true ∧ decide ((st : Int) < (mid : Int)) = false) := by
                by_cases h : a < st
                · right; exact ⟨by simp <;> omega, by simp <;> omega⟩
                · left; simp; omega
              rcases hj with j1 | ⟨j1, j2⟩
              · have hlm : (p ++ (u1 ++ v1)).length = mid := by have h := HSL.out.2.length; have := HA.out; have := HL1.out; have := HL2.out; simp at h ⊢; omega
                by_cases hright : mid < en ∧ en < b
                · have k1 : decide ((mid : Int) < (en : Int)) = true := by simp <;> omega
                  have k2 : decide ((en : Int) < (b : Int)) = true := by simp <;> omega
                  have HCALL3 := hide (HIH.out (b - mid) (by have := HNN.out; omega) (p ++ (u1 ++ v1)) u2 v2 r g off N cap wr (mid : Int) (en : Int) (b : Int) (by have := HL3.out; have := HL4.out; omega) (by rw [hlm]) (by rw [hlm]; have := HL3.out; omega) (by rw [hlm]; have := HL3.out; have := HL4.out; omega) (by have := HL3.out; omega) (by have := HL4.out; omega) (by rw [hlm]; have := HL3.out; have := HL4.out; have := HN.out; omega) hcap HRV.out (Tm.Up.append.1 HUP1.out).2.1 (Tm.Up.append.1 HVP1.out).2.1 (by have h := HIL.out; simpa [List.append_assoc] using h) (HC.out.turn HT.out))
                  unfold byClassFn at HCALL3
                  clear hlm
                  go_wp2_with fail
                  all_goals
                    refine HCALL3.out.mono ?_
                    rintro e w9 ⟨rfl, ⟨s9, hso9, hI9⟩, hT9⟩
                    have HT9 := hide (HT.out.trans hT9)
                    have HI9 : Hid (Ints w9 g off (p ++ ((u1 ++ v1) ++ s9) ++ r)) := by unfold Hid; simpa [List.append_assoc] using hI9
                    have HSO9 := hide hso9
                    clear hT9 hI9 hso9
                    go_wp2
                    all_goals (first | go_end0 | refine bodyPost_ret (results_none rfl _ _ _) rfl ?_)
                    all_goals exact ⟨rfl, ⟨_, HGOAL.out _ _ HSL.out HSO9.out, HI9.out⟩, HT9.out⟩
                · have HSR : Hid (Tm.Sorts (Tm.classOf lns) (u2 ++ v2) (u2 ++ v2)) := Tm.Sorts.of_up (by
                    by_cases hz : u2 = []
                    · rw [hz]; simpa using (Tm.Up.append.1 HVP1.out).2.1
                    · have hz2 : v2 = [] := List.eq_nil_of_length_eq_zero (by have h3 := HL3.out; have h4 := HL4.out; have h5 : 0 < u2.length := List.length_pos_iff.2 hz; omega)
                      rw [hz2]; simpa using (Tm.Up.append.1 HUP1.out).2.1)
                  have HI9 : Hid (Ints wr g off (p ++ ((u1 ++ v1) ++ (u2 ++ v2)) ++ r)) := by have h := HIL.out; unfold Hid; simpa [List.append_assoc] using h
                  clear hlm
                  by_cases hme2 : mid < en
                  · have k1 : decide ((mid : Int) < (en : Int)) = true := by simp <;> omega
                    have k2 : decide ((en : Int) < (b : Int)) = false := by simp <;> omega
                    go_wp2
                    all_goals (first | go_end0 | refine bodyPost_ret (results_none rfl _ _ _) rfl ?_)
                    all_goals exact ⟨rfl, ⟨_, HGOAL.out _ _ HSL.out HSR.out, HI9.out⟩, HT.out⟩
                  · have k1 : decide ((mid : Int) < (en : Int)) = false := by simp <;> omega
                    go_wp2
                    all_goals (first | go_end0 | refine bodyPost_ret (results_none rfl _ _ _) rfl ?_)
                    all_goals exact ⟨rfl, ⟨_, HGOAL.out _ _ HSL.out HSR.out, HI9.out⟩, HT.out⟩
              · have hlm : (p ++ (u1 ++ v1)).length = mid := by have h := HSL.out.2.length; have := HA.out; have := HL1.out; have := HL2.out; simp at h ⊢; omega
                by_cases hright : mid < en ∧ en < b
                · have k1 : decide ((mid : Int) < (en : Int)) = true := by simp <;> omega
                  have k2 : decide ((en : Int) < (b : Int)) = true := by simp <;> omega
                  have HCALL3 := hide (HIH.out (b - mid) (by have := HNN.out; omega) (p ++ (u1 ++ v1)) u2 v2 r g off N cap wr (mid : Int) (en : Int) (b : Int) (by have := HL3.out; have := HL4.out; omega) (by rw [hlm]) (by rw [hlm]; have := HL3.out; omega) (by rw [hlm]; have := HL3.out; have := HL4.out; omega) (by have := HL3.out; omega) (by have := HL4.out; omega) (by rw [hlm]; have := HL3.out; have := HL4.out; have := HN.out; omega) hcap HRV.out (Tm.Up.append.1 HUP1.out).2.1 (Tm.Up.append.1 HVP1.out).2.1 (by have h := HIL.out; simpa [List.append_assoc] using h) (HC.out.turn HT.out))
                  unfold byClassFn at HCALL3
                  clear hlm
                  go_wp2_with fail
                  all_goals
                    refine HCALL3.out.mono ?_
                    rintro e w9 ⟨rfl, ⟨s9, hso9, hI9⟩, hT9⟩
                    have HT9 := hide (HT.out.trans hT9)
                    have HI9 : Hid (Ints w9 g off (p ++ ((u1 ++ v1) ++ s9) ++ r)) := by unfold Hid; simpa [List.append_assoc] using hI9
                    have HSO9 := hide hso9
                    clear hT9 hI9 hso9
                    go_wp2
                    all_goals (first | go_end0 | refine bodyPost_ret (results_none rfl _ _ _) rfl ?_)
                    all_goals exact ⟨rfl, ⟨_, HGOAL.out _ _ HSL.out HSO9.out, HI9.out⟩, HT9.out⟩
                · have HSR : Hid (Tm.Sorts (Tm.classOf lns) (u2 ++ v2) (u2 ++ v2)) := Tm.Sorts.of_up (by
                    by_cases hz : u2 = []
                    · rw [hz]; simpa using (Tm.Up.append.1 HVP1.out).2.1
                    · have hz2 : v2 = [] := List.eq_nil_of_length_eq_zero (by have h3 := HL3.out; have h4 := HL4.out; have h5 : 0 < u2.length := List.length_pos_iff.2 hz; omega)
                      rw [hz2]; simpa using (Tm.Up.append.1 HUP1.out).2.1)
                  have HI9 : Hid (Ints wr g off (p ++ ((u1 ++ v1) ++ (u2 ++ v2)) ++ r)) := by have h := HIL.out; unfold Hid; simpa [List.append_assoc] using h
                  clear hlm
                  by_cases hme2 : mid < en
                  · have k1 : decide ((mid : Int) < (en : Int)) = true := by simp <;> omega
                    have k2 : decide ((en : Int) < (b : Int)) = false := by simp <;> omega
                    go_wp2
                    all_goals (first | go_end0 | refine bodyPost_ret (results_none rfl _ _ _) rfl ?_)
                    all_goals exact ⟨rfl, ⟨_, HGOAL.out _ _ HSL.out HSR.out, HI9.out⟩, HT.out⟩
                  · have k1 : decide ((mid : Int) < (en : Int)) = false := by simp <;> omega
                    go_wp2
                    all_goals (first | go_end0 | refine bodyPost_ret (results_none rfl _ _ _) rfl ?_)
                    all_goals exact ⟨rfl, ⟨_, HGOAL.out _ _ HSL.out HSR.out, HI9.out⟩, HT.out⟩
end Go.Proofs.YtmnjjjhmnhfapaaGreatDoor
