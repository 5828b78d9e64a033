import Derived.Test.YtmnjjjhmnhfapaaDoorMSortIns
namespace Go.Proofs.YtmnjjjhmnhfapaaDoor
open Go.RowKit

theorem get_mid {a c : List Int} {x : Int} {i : Nat} (h : i = a.length) : (a ++ x :: c)[i]? = some x := by subst h; simp
theorem get_in {p v r : List Int} {i : Nat} (h1 : p.length ≤ i) (h2 : i - p.length < v.length) : (p ++ v ++ r)[i]? = some v[i - p.length] := by
  rw [List.append_assoc, List.getElem?_append_right h1, List.getElem?_append_left h2, List.getElem?_eq_getElem h2]

set_option maxRecDepth 100000 in
set_option maxHeartbeats 4000000 in
theorem symMerge_left (lns : List Tm.Ln) (bm : Nat) (p v r : List Int) (x : Int) (g off N cap : Nat) (w : World) (hv : 0 < v.length) (hN : N = p.length + 1 + v.length + r.length) (hcap : N ≤ 1000000) (hx : 0 ≤ x ∧ x ≤ 1114111) (hR : ∀ z ∈ v, 0 ≤ z ∧ z ≤ 1114111) (hup : Tm.Up (Tm.classOf lns) v) (hI : Ints w g off (p ++ [x] ++ v ++ r)) (hC : Cmp lns bm g w) :
    Calls Tryd.prog 102 #[.slice (some ⟨g, off, none⟩) N cap, .int .i64 (p.length : Int), .int .i64 ((p.length + 1 : Nat) : Int), .int .i64 ((p.length + 1 + v.length : Nat) : Int), byClassFn bm] w fun e w' => e = .returned (.tuple #[]) ∧ (∃ s', Tm.Sorts (Tm.classOf lns) ([x] ++ v) s' ∧ Ints w' g off (p ++ s' ++ r)) ∧ Turn g off N w w' := by
  obtain ⟨a, ha⟩ : ∃ a, p.length = a := ⟨_, rfl⟩
  obtain ⟨m, hm⟩ : ∃ m, p.length + 1 = m := ⟨_, rfl⟩
  obtain ⟨b, hb⟩ : ∃ b, p.length + 1 + v.length = b := ⟨_, rfl⟩
  rw [hb, hm, ha]
  have HI := hide hI
  have HR := hide hR
  have HC := hide hC
  have HUP := hide hup
  have HA := hide ha
  have hma : m = a + 1 := by omega
  have HB : Hid (m + v.length = b) := by unfold Hid; omega
  have hmb : m < b := by omega
  have hbN : b ≤ N := by omega
  have h1 : (m : Int) - (a : Int) = 1 := by omega
  have HN := hide hN
  have HM := hide hma
  clear hI hb hm ha hN hR hC hup hma
  unfold byClassFn
  go_enter Tryd.func102, Tryd.ntmps102
  go_wp2
  go_loopw [10, 11] (fun vi vj wr => ∃ i j : Nat, vi = .int .i64 i ∧ vj = .int .i64 j ∧ m ≤ i ∧ i ≤ j ∧ j ≤ b ∧ (∀ y ∈ v.take (i - m), Tm.classOf lns y < Tm.classOf lns x) ∧ (∀ y ∈ v.drop (j - m), Tm.classOf lns x ≤ Tm.classOf lns y) ∧ Ints wr g off (p ++ [x] ++ v ++ r) ∧ Turn g off N w wr) (fun vi vj _ => (intOf vj).toNat - (intOf vi).toNat)
  case atStart => exact ⟨m, b, rfl, rfl, Nat.le_refl _, by omega, Nat.le_refl _, by simp, by have := HB.out; rw [List.drop_eq_nil_of_le (by omega)]; simp, HI.out, Turn.refl _ _ _ _⟩
  case round =>
    obtain ⟨i, j, rfl, rfl, hmi, hij, hjb, hlo, hhi, hI, hT⟩ := hrel
    have HIr := hide hI
    have HT := hide hT
    have HCr := hide (HC.out.turn hT)
    have HLO := hide hlo
    have HHI := hide hhi
    clear hlo hhi hI hT
    by_cases hlt : i < j
    · have hd : decide ((i : Int) < (j : Int)) = true := by simp; omega
      go_wp2_with fail
      obtain ⟨hh, hhe⟩ : ∃ hh : Nat, ((i : Int) + (j : Int)) / 2 = (hh : Int) := ⟨(i + j) / 2, by omega⟩
      rw [hhe]
      have hih : i ≤ hh := by omega
      have hhj : hh < j := by omega
      have hvl : hh - m < v.length := by have := HB.out; omega
      have hpl : (p ++ [x]).length = m := by have := HA.out; have := HM.out; simp; omega
      have cy := HIr.out hh v[hh - m] (by have h := get_in (p := p ++ [x]) (v := v) (r := r) (i := hh) (by omega) (by rw [hpl]; exact hvl); rw [h]; simp only [hpl])
      have cx := HIr.out a x (by have h := get_mid (a := p) (c := v ++ r) (x := x) HA.out.symm; simpa using h)
      have hy := HR.out _ (List.getElem_mem hvl)
      have HLT := hide (fun hq => HUP.out.take_lt (x := x) hvl hq)
      have HGE := hide (fun hq => HUP.out.drop_le (x := x) hvl hq)
      have HCALL : Hid (∀ n, Calls Tryd.prog 84 #[.map (some bm), .int .i64 v[hh - m], .int .i64 x] (wr.drewN n) fun e w' => e = .returned (.int .i64 (cmpInt (Tm.classOf lns v[hh - m]) (Tm.classOf lns x))) ∧ w' = wr.drewN n) := fun n => HCr.out.call hy hx n
      generalize v[hh - m] = y at *
      obtain ⟨cy, fy⟩ := cy
      obtain ⟨cx, fx⟩ := cx
      have i1 : (hh : Int) < (N : Int) := by omega
      have i2 : (a : Int) < (N : Int) := by omega
      obtain ⟨q, hq⟩ : ∃ q, decide (cmpInt (Tm.classOf lns y) (Tm.classOf lns x) < 0) = q := ⟨_, rfl⟩
      have hq' : decide (Tm.classOf lns y < Tm.classOf lns x) = q := by rw [← hq, cmpInt_neg]
      generalize cmpInt (Tm.classOf lns y) (Tm.classOf lns x) = cv at *
      clear hhe hpl
      cases q
      · have hle : Tm.classOf lns x ≤ Tm.classOf lns y := by simpa using hq'
        have HH2 := hide (HGE.out hle)
        clear hq' hle
        go_quiet (first | (go_at_call 84; exact Calls.quiet_of_same (HCALL.out _)))
        go_wp2
        go_roundw
        case rel => exact ⟨i, hh, rfl, rfl, hmi, hih, by omega, HLO.out, HH2.out, HIr.out, HT.out.drewN _⟩
        case measure => simp [intOf]; omega
      · have hle : Tm.classOf lns y < Tm.classOf lns x := by simpa using hq'
        have HL2 : Hid (∀ z ∈ v.take (hh + 1 - m), Tm.classOf lns z < Tm.classOf lns x) := by
          have h := HLT.out hle
          rw [show hh + 1 - m = hh - m + 1 from by omega]; exact h
        clear hq' hle
        go_quiet (first | (go_at_call 84; exact Calls.quiet_of_same (HCALL.out _)))
        go_wp2
        go_roundw
        case rel => exact ⟨hh + 1, j, by go_num, rfl, by omega, by omega, hjb, HL2.out, HHI.out, HIr.out, HT.out.drewN _⟩
        case measure => simp [intOf]; omega
    · have hije : i = j := by omega
      subst hije
      have hd : decide ((i : Int) < (i : Int)) = false := by simp
      obtain ⟨v1, v2, hv12, hl1⟩ : ∃ v1 v2, v = v1 ++ v2 ∧ v1.length = i - m := ⟨v.take (i - m), v.drop (i - m), by rw [List.take_append_drop], by have := HB.out; simp; omega⟩
      have e1 : v.take (i - m) = v1 := by rw [hv12, ← hl1]; simp
      have e2 : v.drop (i - m) = v2 := by rw [hv12, ← hl1]; simp
      rw [e1] at HLO
      rw [e2] at HHI
      have HF : Hid (Tm.Sorts (Tm.classOf lns) ([x] ++ v) (v1 ++ (x :: v2))) := by
        have hupv := HUP.out
        rw [hv12] at hupv
        have hu := Tm.Up.append.1 hupv
        have h := Tm.Sorts.merge (k := Tm.classOf lns) (u1 := []) (u2 := [x]) (v1 := v1) (v2 := v2) (l := v1) (r := x :: v2) (Tm.Sorts.of_up hu.1) (Tm.Sorts.of_up (List.pairwise_cons.2 ⟨HHI.out, hu.2.1⟩)) (List.pairwise_singleton _ _) hupv (fun y hy z hz => by simp at hz; subst hz; exact HLO.out y hy) (by simp)
        unfold Hid; rw [hv12]; simpa using h
      have HI1 : Hid (Ints wr g off (p ++ [x] ++ v1 ++ v2 ++ r)) := by have h := HIr.out; rw [hv12] at h; unfold Hid; simpa [List.append_assoc] using h
      have hiN : i ≤ N := by omega
      have HL1 := hide hl1
      clear hl1 e1 e2 hv12
      go_wp2_with fail
      go_loopw [13] (fun vk wi => ∃ (c : Nat) (q1 q2 : List Int), vk = .int .i64 c ∧ v1 = q1 ++ q2 ∧ a + q1.length = c ∧ Ints wi g off (p ++ q1 ++ x :: (q2 ++ v2 ++ r)) ∧ Turn g off N w wi) (fun vk _ => i - (intOf vk).toNat)
      case atStart => exact ⟨a, [], v1, rfl, rfl, by simp, by have h := HI1.out; simpa using h, HT.out⟩
      case round =>
        obtain ⟨c, q1, q2, rfl, hq, hc, hI2, hT2⟩ := hrel
        have HI2 := hide hI2
        have HT2 := hide hT2
        have HQ := hide hq
        have hql : v1.length = q1.length + q2.length := by rw [hq]; simp
        clear hI2 hT2 hq
        cases q2 with
        | nil =>
          have hdk : decide ((c : Int) < (i : Int) - 1) = false := by have := HL1.out; have := HM.out; simp at hql; simp; omega
          have HI3 : Hid (Ints wr g off (p ++ (v1 ++ (x :: v2)) ++ r)) := by have h := HI2.out; unfold Hid; rw [HQ.out]; simpa [List.append_assoc] using h
          go_wp2
          refine bodyPost_ret (results_none rfl _ _ _) rfl ?_
          exact ⟨rfl, ⟨_, HF.out, HI3.out⟩, HT2.out⟩
        | cons y q3 =>
          have hdk : decide ((c : Int) < (i : Int) - 1) = true := by have := HL1.out; have := HM.out; simp at hql; simp; omega
          have HO : Hid (Ints wr g off ((p ++ q1) ++ x :: ([] ++ y :: (q3 ++ v2 ++ r)))) := by have h := HI2.out; unfold Hid; simpa [List.append_assoc] using h
          have hl1 : (p ++ q1).length = c := by have := HA.out; simp; omega
          have c1 := HO.out c x (by rw [List.getElem?_append_right (by omega), hl1]; simp)
          have c2 := HO.out (c + 1) y (by rw [List.getElem?_append_right (by omega), show c + 1 - (p ++ q1).length = 1 from by omega]; simp)
          obtain ⟨c1, f1⟩ := c1
          obtain ⟨c2, f2⟩ := c2
          have hci : c + 1 < i := by simp at hdk; omega
          have i1 : (c : Int) < (N : Int) := by omega
          have i2 : (c : Int) + 1 < (N : Int) := by omega
          have HSW : Hid (Ints ((wr.setCell ⟨g, off + c, none⟩ (.int .i64 y)).setCell ⟨g, off + (c + 1), none⟩ (.int .i64 x)) g off ((p ++ q1) ++ y :: ([] ++ x :: (q3 ++ v2 ++ r)))) := HO.out.swap hl1.symm (by rw [hl1]; rfl)
          have HSW2 : Hid (Ints ((wr.setCell ⟨g, off + c, none⟩ (.int .i64 y)).setCell ⟨g, off + (c + 1), none⟩ (.int .i64 x)) g off (p ++ (q1 ++ [y]) ++ x :: (q3 ++ v2 ++ r))) := by have h := HSW.out; unfold Hid; simpa [List.append_assoc] using h
          have HT3 : Hid (Turn g off N w ((wr.setCell ⟨g, off + c, none⟩ (.int .i64 y)).setCell ⟨g, off + (c + 1), none⟩ (.int .i64 x))) := (HT2.out.setCell (by omega) (by omega) _).setCell (by omega) (by omega) _
          have HQ2 : Hid (v1 = (q1 ++ [y]) ++ q3) := by unfold Hid; rw [HQ.out]; simp
          clear hl1
          go_wp2_with fail
          go_region
          all_goals go_wp2
          all_goals go_roundw
          all_goals first
            | exact ⟨c + 1, q1 ++ [y], q3, by go_num, HQ2.out, by simp; omega, HSW2.out, HT3.out.drew⟩
            | (simp [intOf] <;> omega)
end Go.Proofs.YtmnjjjhmnhfapaaDoor
namespace Go.Proofs.YtmnjjjhmnhfapaaDoor
open Go.RowKit

set_option maxRecDepth 100000 in
set_option maxHeartbeats 4000000 in
theorem symMerge_right (lns : List Tm.Ln) (bm : Nat) (p u r : List Int) (x : Int) (g off N cap : Nat) (w : World) (hu2 : 2 ≤ u.length) (hN : N = p.length + u.length + 1 + r.length) (hcap : N ≤ 1000000) (hx : 0 ≤ x ∧ x ≤ 1114111) (hR : ∀ z ∈ u, 0 ≤ z ∧ z ≤ 1114111) (hup : Tm.Up (Tm.classOf lns) u) (hI : Ints w g off (p ++ u ++ x :: r)) (hC : Cmp lns bm g w) :
    Calls Tryd.prog 102 #[.slice (some ⟨g, off, none⟩) N cap, .int .i64 (p.length : Int), .int .i64 ((p.length + u.length : Nat) : Int), .int .i64 ((p.length + u.length + 1 : Nat) : Int), byClassFn bm] w fun e w' => e = .returned (.tuple #[]) ∧ (∃ s', Tm.Sorts (Tm.classOf lns) (u ++ [x]) s' ∧ Ints w' g off (p ++ s' ++ r)) ∧ Turn g off N w w' := by
  obtain ⟨a, ha⟩ : ∃ a, p.length = a := ⟨_, rfl⟩
  obtain ⟨m, hm⟩ : ∃ m, p.length + u.length = m := ⟨_, rfl⟩
  obtain ⟨b, hb⟩ : ∃ b, p.length + u.length + 1 = b := ⟨_, rfl⟩
  rw [hb, hm, ha]
  have HI := hide hI
  have HR := hide hR
  have HC := hide hC
  have HUP := hide hup
  have HA := hide ha
  have HM : Hid (a + u.length = m) := by unfold Hid; omega
  have ham : a + 2 ≤ m := by omega
  have hmN : m < N := by omega
  have h0 : ((((m : Int) - (a : Int)) == 1) : Bool) = false := by rw [beq_eq_false_iff_ne]; omega
  have h1 : (b : Int) - (m : Int) = 1 := by omega
  have HN := hide hN
  clear hI hb hm ha hN hR hC hup
  unfold byClassFn
  go_enter Tryd.func102, Tryd.ntmps102
  go_wp2
  go_loopw [14, 15] (fun vi vj wr => ∃ i j : Nat, vi = .int .i64 i ∧ vj = .int .i64 j ∧ a ≤ i ∧ i ≤ j ∧ j ≤ m ∧ (∀ y ∈ u.take (i - a), Tm.classOf lns y ≤ Tm.classOf lns x) ∧ (∀ y ∈ u.drop (j - a), Tm.classOf lns x < Tm.classOf lns y) ∧ Ints wr g off (p ++ u ++ x :: r) ∧ Turn g off N w wr) (fun vi vj _ => (intOf vj).toNat - (intOf vi).toNat)
  case atStart => exact ⟨a, m, rfl, rfl, Nat.le_refl _, by omega, Nat.le_refl _, by simp, by have := HM.out; rw [List.drop_eq_nil_of_le (by omega)]; simp, HI.out, Turn.refl _ _ _ _⟩
  case round =>
    obtain ⟨i, j, rfl, rfl, hmi, hij, hjb, hlo, hhi, hI, hT⟩ := hrel
    have HIr := hide hI
    have HT := hide hT
    have HCr := hide (HC.out.turn hT)
    have HLO := hide hlo
    have HHI := hide hhi
    clear hlo hhi hI hT
    by_cases hlt : i < j
    · have hd : decide ((i : Int) < (j : Int)) = true := by simp; omega
      go_wp2_with fail
      obtain ⟨hh, hhe⟩ : ∃ hh : Nat, ((i : Int) + (j : Int)) / 2 = (hh : Int) := ⟨(i + j) / 2, by omega⟩
      rw [hhe]
      have hih : i ≤ hh := by omega
      have hhj : hh < j := by omega
      have hvl : hh - a < u.length := by have := HM.out; omega
      have cy := HIr.out hh u[hh - a] (by have h := get_in (p := p) (v := u) (r := x :: r) (i := hh) (by have := HA.out; omega) (by rw [HA.out]; exact hvl); rw [h]; simp only [HA.out])
      have cx := HIr.out m x (get_mid (a := p ++ u) (c := r) (x := x) (by have := HA.out; have := HM.out; simp; omega))
      have hy := HR.out _ (List.getElem_mem hvl)
      have HLT := hide (fun hq => HUP.out.drop_lt (x := x) hvl hq)
      have HGE := hide (fun hq => HUP.out.take_le (x := x) hvl hq)
      have HCALL : Hid (∀ n, Calls Tryd.prog 84 #[.map (some bm), .int .i64 x, .int .i64 u[hh - a]] (wr.drewN n) fun e w' => e = .returned (.int .i64 (cmpInt (Tm.classOf lns x) (Tm.classOf lns u[hh - a]))) ∧ w' = wr.drewN n) := fun n => HCr.out.call hx hy n
      generalize u[hh - a] = y at *
      obtain ⟨cy, fy⟩ := cy
      obtain ⟨cx, fx⟩ := cx
      have i1 : (hh : Int) < (N : Int) := by omega
      have i2 : (m : Int) < (N : Int) := by omega
      obtain ⟨q, hq⟩ : ∃ q, decide (cmpInt (Tm.classOf lns x) (Tm.classOf lns y) < 0) = q := ⟨_, rfl⟩
      have hq' : decide (Tm.classOf lns x < Tm.classOf lns y) = q := by rw [← hq, cmpInt_neg]
      generalize cmpInt (Tm.classOf lns x) (Tm.classOf lns y) = cv at *
      clear hhe
      cases q
      · have hle : Tm.classOf lns y ≤ Tm.classOf lns x := by simpa using hq'
        have HL2 : Hid (∀ z ∈ u.take (hh + 1 - a), Tm.classOf lns z ≤ Tm.classOf lns x) := by
          have h := HGE.out hle
          rw [show hh + 1 - a = hh - a + 1 from by omega]; exact h
        clear hq' hle
        go_quiet (first | (go_at_call 84; exact Calls.quiet_of_same (HCALL.out _)))
        go_wp2
        go_roundw
        case rel => exact ⟨hh + 1, j, by go_num, rfl, by omega, by omega, hjb, HL2.out, HHI.out, HIr.out, HT.out.drewN _⟩
        case measure => simp [intOf]; omega
      · have hle : Tm.classOf lns x < Tm.classOf lns y := by simpa using hq'
        have HH2 := hide (HLT.out hle)
        clear hq' hle
        go_quiet (first | (go_at_call 84; exact Calls.quiet_of_same (HCALL.out _)))
        go_wp2
        go_roundw
        case rel => exact ⟨i, hh, rfl, rfl, hmi, hih, by omega, HLO.out, HH2.out, HIr.out, HT.out.drewN _⟩
        case measure => simp [intOf]; omega
    · have hije : i = j := by omega
      subst hije
      have hd : decide ((i : Int) < (i : Int)) = false := by simp
      obtain ⟨u1, u2, hu12, hl1⟩ : ∃ u1 u2, u = u1 ++ u2 ∧ u1.length = i - a := ⟨u.take (i - a), u.drop (i - a), by rw [List.take_append_drop], by have := HM.out; simp; omega⟩
      have e1 : u.take (i - a) = u1 := by rw [hu12, ← hl1]; simp
      have e2 : u.drop (i - a) = u2 := by rw [hu12, ← hl1]; simp
      rw [e1] at HLO
      rw [e2] at HHI
      have HF : Hid (Tm.Sorts (Tm.classOf lns) (u ++ [x]) (u1 ++ (x :: u2))) := (Tm.Sorts.of_up HUP.out).insert hu12 HLO.out HHI.out
      have HI1 : Hid (Ints wr g off (p ++ u1 ++ u2 ++ x :: r)) := by have h := HIr.out; rw [hu12] at h; unfold Hid; simpa [List.append_assoc] using h
      have HL1 := hide hl1
      have HU2 : Hid (i + u2.length = m) := by have := HM.out; rw [hu12] at this; simp at this; unfold Hid; omega
      clear hl1 e1 e2 hu12
      go_wp2_with fail
      go_loopw [17] (fun vk wi => ∃ (c : Nat) (q1 q2 : List Int), vk = .int .i64 c ∧ u2 = q1 ++ q2 ∧ i + q1.length = c ∧ Ints wi g off (p ++ u1 ++ q1 ++ x :: (q2 ++ r)) ∧ Turn g off N w wi) (fun vk _ => (intOf vk).toNat)
      case atStart => exact ⟨m, u2, [], rfl, by simp, HU2.out, by have h := HI1.out; simpa using h, HT.out⟩
      case round =>
        obtain ⟨c, q1, q2, rfl, hq, hc, hI2, hT2⟩ := hrel
        have HI2 := hide hI2
        have HT2 := hide hT2
        have HQ := hide hq
        have hql : u2.length = q1.length + q2.length := by rw [hq]; simp
        clear hI2 hT2 hq
        rcases List.eq_nil_or_concat q1 with hq0 | ⟨q3, y, hq3⟩
        · subst hq0
          have hci : c = i := by simpa using hc.symm
          subst hci
          have hdk : decide ((c : Int) < (c : Int)) = false := by simp
          have HI3 : Hid (Ints wr g off (p ++ (u1 ++ (x :: u2)) ++ r)) := by have h := HI2.out; unfold Hid; rw [HQ.out]; simpa [List.append_assoc] using h
          go_wp2
          refine bodyPost_ret (results_none rfl _ _ _) rfl ?_
          exact ⟨rfl, ⟨_, HF.out, HI3.out⟩, HT2.out⟩
        · rw [List.concat_eq_append] at hq3
          subst hq3
          obtain ⟨cc, rfl⟩ : ∃ cc, c = cc + 1 := ⟨i + q3.length, by simp at hc; omega⟩
          have hcc : i + q3.length = cc := by simp at hc; omega
          have hdk : decide ((i : Int) < (cc : Int) + 1) = true := by simp; omega
          have HO : Hid (Ints wr g off ((p ++ u1 ++ q3) ++ y :: ([] ++ x :: (q2 ++ r)))) := by have h := HI2.out; unfold Hid; simpa [List.append_assoc] using h
          have hl1 : (p ++ u1 ++ q3).length = cc := by have := HA.out; have := HL1.out; simp; omega
          have c1 := HO.out cc y (by rw [List.getElem?_append_right (by omega), hl1]; simp)
          have c2 := HO.out (cc + 1) x (by rw [List.getElem?_append_right (by omega), show cc + 1 - (p ++ u1 ++ q3).length = 1 from by omega]; simp)
          obtain ⟨c1, f1⟩ := c1
          obtain ⟨c2, f2⟩ := c2
          have hcm : cc + 1 ≤ m := by have := HU2.out; simp at hql; omega
          have i1 : (cc : Int) < (N : Int) := by omega
          have i2 : (cc : Int) + 1 < (N : Int) := by omega
          have HSW : Hid (Ints ((wr.setCell ⟨g, off + (cc + 1), none⟩ (.int .i64 y)).setCell ⟨g, off + cc, none⟩ (.int .i64 x)) g off ((p ++ u1 ++ q3) ++ x :: ([] ++ y :: (q2 ++ r)))) := HO.out.swapR hl1.symm (by rw [hl1]; rfl)
          have HSW2 : Hid (Ints ((wr.setCell ⟨g, off + (cc + 1), none⟩ (.int .i64 y)).setCell ⟨g, off + cc, none⟩ (.int .i64 x)) g off (p ++ u1 ++ q3 ++ x :: ((y :: q2) ++ r))) := by have h := HSW.out; unfold Hid; simpa [List.append_assoc] using h
          have HT3 : Hid (Turn g off N w ((wr.setCell ⟨g, off + (cc + 1), none⟩ (.int .i64 y)).setCell ⟨g, off + cc, none⟩ (.int .i64 x))) := (HT2.out.setCell (by omega) (by omega) _).setCell (by omega) (by omega) _
          have HQ2 : Hid (u2 = q3 ++ (y :: q2)) := by unfold Hid; rw [HQ.out]; simp
          clear hl1
          go_wp2_with fail
          go_region
          all_goals go_wp2
          all_goals go_roundw
          all_goals first
            | exact ⟨cc, q3, y :: q2, by go_num, HQ2.out, hcc, HSW2.out, HT3.out.drew⟩
            | (simp [intOf] <;> omega)
end Go.Proofs.YtmnjjjhmnhfapaaDoor
