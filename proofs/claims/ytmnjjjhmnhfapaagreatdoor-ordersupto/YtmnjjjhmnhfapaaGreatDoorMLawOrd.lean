import Derived.Deep.RegionHeld3
import Derived.Test.YtmnjjjhmnhfapaaGreatDoorMRefLev
import Derived.Test.YtmnjjjhmnhfapaaGreatDoorMRefEls2
import Derived.Test.YtmnjjjhmnhfapaaGreatDoorMRefNormalW
import Derived.Test.YtmnjjjhmnhfapaaGreatDoorMCodeApi
import Derived.Test.YtmnjjjhmnhfapaaGreatDoorMLevels
namespace Go.Proofs.YtmnjjjhmnhfapaaGreatDoor
open Go.RowKit

theorem below_drewN' {B q : Nat} {w w' : World} (h : Below B w w') : Below B w (w'.drewN q) := ⟨h.os, h.tape, h.output, h.size, h.block⟩
theorem stands_get {lns : List Tm.Ln} {st : Int} {sh : Bool} {n : List Int} {k : Nat} (h : 1 ≤ st ∧ st ≤ 4) (hk : k < st.toNat) : (stands lns st sh n)[k]? = some (Tm.level sh (Tm.elements lns n) k) := by
  unfold stands
  rw [List.getElem?_append_left (by rw [levels_length h]; exact hk), levels, List.getElem?_take_of_lt hk]
  rcases (show k = 0 ∨ k = 1 ∨ k = 2 ∨ k = 3 by omega) with rfl | rfl | rfl | rfl <;> rfl
theorem stands_full {lns : List Tm.Ln} {st : Int} {sh : Bool} {n : List Int} (h : 1 ≤ st ∧ st ≤ 4) : (stands lns st sh n).length = st.toNat + 1 := by
  unfold stands; rw [List.length_append, levels_length h]; rfl
theorem stands_step {lns : List Tm.Ln} {st : Int} {sh : Bool} {n m : List Int} {k : Nat} (h : 1 ≤ st ∧ st ≤ 4) (hk : k < st.toNat) :
    Tm.cmpLL ((stands lns st sh n).drop k) ((stands lns st sh m).drop k) = if Tm.cmpL (Tm.level sh (Tm.elements lns n) k) (Tm.level sh (Tm.elements lns m) k) = 0 then Tm.cmpLL ((stands lns st sh n).drop (k + 1)) ((stands lns st sh m).drop (k + 1)) else Tm.cmpL (Tm.level sh (Tm.elements lns n) k) (Tm.level sh (Tm.elements lns m) k) := by
  have ha : k < (stands lns st sh n).length := by rw [stands_full h]; omega
  have hb : k < (stands lns st sh m).length := by rw [stands_full h]; omega
  have h1 := stands_get (lns := lns) (sh := sh) (n := n) h hk
  have h2 := stands_get (lns := lns) (sh := sh) (n := m) h hk
  rw [List.getElem?_eq_getElem ha] at h1
  rw [List.getElem?_eq_getElem hb] at h2
  rw [Tm.cmpLL_step ha hb, Option.some.inj h1, Option.some.inj h2]
theorem stands_done {lns : List Tm.Ln} {st : Int} {sh : Bool} {n m : List Int} (h : 1 ≤ st ∧ st ≤ 4) :
    Tm.cmpLL ((stands lns st sh n).drop st.toNat) ((stands lns st sh m).drop st.toNat) = Tm.cmpL n m := by
  have e : ∀ n, (stands lns st sh n).drop st.toNat = [n] := fun n => by
    unfold stands; rw [List.drop_append_of_le_length (by rw [levels_length h]; omega), List.drop_of_length_le (by rw [levels_length h]; omega)]; rfl
  rw [e, e, Tm.cmpLL]
  split
  · rename_i h0; rw [h0, Tm.cmpLL]
  · rfl

set_option maxRecDepth 100000 in
set_option maxHeartbeats 4000000 in
theorem RefCompare_any (vl : Value) (st : Int) (sh : Bool) (a b : ByteArray) (lns : List Tm.Ln) (w : World) (ht : TableRd w vl lns) (hfit : ∀ o ∈ lns, Tm.Fit o) (hl : lns.length ≤ 1000000) (hok : TableOk st lns) (hs : a.size ≤ 64) (hs' : b.size ≤ 64) :
    Calls Tryz.prog 47 #[.agg #[vl, .int .i64 st, .bool sh], .string a, .string b] w fun e w' => e = .returned (.int .i64 (cmpOf lns st sh a b)) ∧ Below w.heap.size w w' := by
  obtain ⟨at', cap, rfl⟩ := ht.shape
  obtain ⟨S, rfl⟩ : ∃ S : Nat, st = (S : Int) := ⟨st.toNat, by have := hok.st; omega⟩
  obtain ⟨st1, st4⟩ := hok.st
  have HF := hide hfit
  have HOK := hide hok
  have hla := norm_short' hfit hs
  have hlb := norm_short' hfit hs'
  have hea := Tm.elements_length hfit (normOf lns a)
  have heb := Tm.elements_length hfit (normOf lns b)
  have HVA := hide (Tm.elements_var hok.heavy (normOf lns a))
  have HVB := hide (Tm.elements_var hok.heavy (normOf lns b))
  have HRA := hide (norm_range hfit a)
  have HRB := hide (norm_range hfit b)
  have HCO : Hid (cmpOf lns S sh a b = Tm.cmpLL ((stands lns S sh (normOf lns a)).drop 0) ((stands lns S sh (normOf lns b)).drop 0)) := rfl
  obtain ⟨W, hW⟩ : ∃ W, w.alloc (.cells #[.slice at' lns.length cap, .int .i64 S, .bool sh] 29) = W := ⟨_, rfl⟩
  have hb0 : Below w.heap.size w W := by rw [← hW]; exact (Below.refl _ _).alloc (Nat.le_refl _) _
  have hz0 : W.heap.size = w.heap.size + 1 := by rw [← hW]; simp
  have k0 : W.cell? ⟨w.heap.size, 0, none⟩ = some (.slice at' lns.length cap) := by rw [← hW, cell_new rfl]; rfl
  have k1 : W.cell? ⟨w.heap.size, 1, none⟩ = some (.int .i64 S) := by rw [← hW, cell_new rfl]; rfl
  have k2 : W.cell? ⟨w.heap.size, 2, none⟩ = some (.bool sh) := by rw [← hW, cell_new rfl]; rfl
  have HK : Hid (∀ w', Below W.heap.size W w' → w'.cell? ⟨w.heap.size, 0, none⟩ = some (.slice at' lns.length cap) ∧ w'.cell? ⟨w.heap.size, 1, none⟩ = some (.int .i64 S) ∧ w'.cell? ⟨w.heap.size, 2, none⟩ = some (.bool sh)) := fun w' h => by
    rw [h.cell (p := ⟨w.heap.size, 0, none⟩) (by simp only; omega), h.cell (p := ⟨w.heap.size, 1, none⟩) (by simp only; omega), h.cell (p := ⟨w.heap.size, 2, none⟩) (by simp only; omega)]
    exact ⟨k0, k1, k2⟩
  have HB0 := hide hb0
  have HT0 := hide (ht.below hb0)
  clear ht hfit hok hb0
  go_enter Tryz.func47, Tryz.ntmps47
  go_wp2_with fail
  refine (RefNormal_any _ S sh a lns _ HT0.out HF.out hl HOK.out.ends hs).mono ?_
  rintro e w1 ⟨v1, rfl, hr1, hb1⟩
  obtain ⟨a1, c1, rfl⟩ := hr1.shape
  obtain ⟨p0, p1, p2⟩ := HK.out w1 hb1
  have HR1 := hide hr1
  have HB1 := hide hb1
  have hz1 := hb1.size
  clear hr1 hb1 k0 k1 k2
  go_wp2_with fail
  refine (RefNormal_any _ S sh b lns _ (HT0.out.below HB1.out) HF.out hl HOK.out.ends hs').mono ?_
  rintro e w2 ⟨v2, rfl, hr2, hb2⟩
  obtain ⟨a2, c2, rfl⟩ := hr2.shape
  have HB2 : Hid (Below W.heap.size W w2) := HB1.out.trans (hb2.mono (by omega))
  have HR12 := hide (HR1.out.below hb2 HR1.out.2.1)
  have HR2 := hide hr2
  have hz2 := hb2.size
  clear hr2 hb2 p0 p1 p2
  obtain ⟨p0, p1, p2⟩ := HK.out w2 HB2.out
  go_wp2_with fail
  refine (RefElements_any _ S sh _ (normOf lns a) lns _ (HT0.out.below HB2.out) HR12.out HRA.out hl (by omega) HF.out).mono ?_
  rintro e w3 ⟨v3, rfl, hr3, hb3⟩
  obtain ⟨a3, c3, rfl⟩ := hr3.shape
  have HB3 : Hid (Below W.heap.size W w3) := HB2.out.trans (hb3.mono (by omega))
  have HR13 := hide (HR12.out.below hb3 HR12.out.2.1)
  have HR23 := hide (HR2.out.below hb3 HR2.out.2.1)
  have HR3 := hide hr3
  have hz3 := hb3.size
  clear hr3 hb3 p0 p1 p2
  obtain ⟨p0, p1, p2⟩ := HK.out w3 HB3.out
  go_wp2_with fail
  refine (RefElements_any _ S sh _ (normOf lns b) lns _ (HT0.out.below HB3.out) HR23.out HRB.out hl (by omega) HF.out).mono ?_
  rintro e w4 ⟨v4, rfl, hr4, hb4⟩
  obtain ⟨a4, c4, rfl⟩ := hr4.shape
  have HB4 : Hid (Below W.heap.size W w4) := HB3.out.trans (hb4.mono (by omega))
  have HR14 := hide (HR13.out.below hb4 HR13.out.2.1)
  have HR24 := hide (HR23.out.below hb4 HR23.out.2.1)
  have HR34 := hide (HR3.out.below hb4 HR3.out.2.1)
  have HR4 := hide hr4
  have hz4 := hb4.size
  clear hr4 hb4 p0 p1 p2
  have HLA : Hid (∀ kk : Nat, 1 ≤ kk ∧ kk ≤ 4 → ∀ w', Below w4.heap.size w4 w' → Calls Tryz.prog 95 #[.agg #[.slice at' lns.length cap, .int .i64 S, .bool sh], .slice a3 (Tm.elements lns (normOf lns a)).length c3, .int .i64 kk] w' fun e w'' => ∃ v, e = .returned v ∧ Reads w'' v 1 (Tm.level sh (Tm.elements lns (normOf lns a)) (kk - 1)).length (ints (Tm.level sh (Tm.elements lns (normOf lns a)) (kk - 1))) ∧ Below w'.heap.size w' w'' ∧ Below w4.heap.size w4 w'') := by
    intro kk hk w' hb
    refine (Level_any _ S sh _ _ kk w' (HR34.out.below hb HR34.out.2.1) hk (by omega) HVA.out).mono ?_
    rintro e w'' ⟨v, rfl, h1, h2⟩
    exact ⟨v, rfl, h1, h2, hb.trans (h2.mono hb.size)⟩
  have HLB : Hid (∀ kk : Nat, 1 ≤ kk ∧ kk ≤ 4 → ∀ w', Below w4.heap.size w4 w' → Calls Tryz.prog 95 #[.agg #[.slice at' lns.length cap, .int .i64 S, .bool sh], .slice a4 (Tm.elements lns (normOf lns b)).length c4, .int .i64 kk] w' fun e w'' => ∃ v, e = .returned v ∧ Reads w'' v 1 (Tm.level sh (Tm.elements lns (normOf lns b)) (kk - 1)).length (ints (Tm.level sh (Tm.elements lns (normOf lns b)) (kk - 1))) ∧ Below w'.heap.size w' w'' ∧ Below w4.heap.size w4 w'') := by
    intro kk hk w' hb
    refine (Level_any _ S sh _ _ kk w' (HR4.out.below hb HR4.out.2.1) hk (by omega) HVB.out).mono ?_
    rintro e w'' ⟨v, rfl, h1, h2⟩
    exact ⟨v, rfl, h1, h2, hb.trans (h2.mono hb.size)⟩
  have HLL : Hid (∀ kk s, s.size ≤ 64 → (Tm.level sh (Tm.elements lns (normOf lns s)) kk).length ≤ 1000000) := fun kk s h => by
    have h1 : (Tm.level sh (Tm.elements lns (normOf lns s)) kk).length ≤ (Tm.elements lns (normOf lns s)).length := Tm.lev_length sh kk _ _
    have h2 := Tm.elements_length HF.out (normOf lns s)
    have h3 := norm_short' HF.out h
    omega
  generalize (Tm.elements lns (normOf lns a)).length = n3 at *
  generalize (Tm.elements lns (normOf lns b)).length = n4 at *
  have HS : Hid ((S : Int).toNat = S) := Int.toNat_natCast S
  have HST := hide (And.intro st1 st4)
  have hS1 : 1 ≤ S := by omega
  have hS4 : S ≤ 4 := by omega
  have hzW4 : Hid (W.heap.size ≤ w4.heap.size) := by unfold Hid; omega
  go_wp2_with fail
  go_loopw [11] (fun i wr => ∃ k : Nat, 1 ≤ k ∧ k ≤ S + 1 ∧ i = .int .i64 k ∧ cmpOf lns S sh a b = Tm.cmpLL ((stands lns S sh (normOf lns a)).drop (k - 1)) ((stands lns S sh (normOf lns b)).drop (k - 1)) ∧ Below w4.heap.size w4 wr) (fun i _ => S + 1 - (intOf i).toNat)
  case atStart => exact ⟨1, Nat.le_refl _, by omega, rfl, HCO.out, Below.refl _ _⟩
  case round =>
    obtain ⟨k, hk1, hk2, rfl, hcm, hb⟩ := hrel
    have HCM := hide hcm
    have HB := hide hb
    have hzr := hb.size
    have HBW : Hid (Below W.heap.size W wr) := HB4.out.trans (hb.mono (by omega))
    obtain ⟨p0, p1, p2⟩ := HK.out wr HBW.out
    have HBF : Hid (Below w.heap.size w wr) := HB0.out.trans (HBW.out.mono (by omega))
    clear hcm hb
    by_cases hlt : k ≤ S
    · have hle : (k : Int) ≤ (S : Int) := by omega
      have HSS := hide (stands_step (lns := lns) (sh := sh) (n := normOf lns a) (m := normOf lns b) HST.out (show k - 1 < (S : Int).toNat by rw [HS.out]; omega))
      have e1 : k - 1 + 1 = k := by omega
      rw [e1] at HSS
      have HLA1 := hide (HLA.out k ⟨hk1, by omega⟩)
      have HLB1 := hide (HLB.out k ⟨hk1, by omega⟩)
      have hl1 := HLL.out (k - 1) a hs
      have hl2 := HLL.out (k - 1) b hs'
      generalize Tm.level sh (Tm.elements lns (normOf lns a)) (k - 1) = LA at *
      generalize Tm.level sh (Tm.elements lns (normOf lns b)) (k - 1) = LB at *
      clear e1
      go_upto_region 8 with fail
      go_cut [12] from 25 to 43 (fun t wx => t = .int .i64 (Tm.cmpL LA LB) ∧ Below w4.heap.size w4 wx)
      case first =>
        go_region_held3 (fun wx => wx.cell? ⟨w.heap.size, 0, none⟩ = some (.slice at' lns.length cap) ∧ wx.cell? ⟨w.heap.size, 1, none⟩ = some (.int .i64 S) ∧ wx.cell? ⟨w.heap.size, 2, none⟩ = some (.bool sh)) (go_keep)
          (first
          | (go_at_call_of 95 (Value.slice a3 n3 c3); refine (HLA1.out _ ?_).mono ?_; (first | exact HYB.out | exact HB.out.drew | exact HB.out); rintro e wx1 ⟨vx, rfl, hrx, hbx, hbx4⟩; have HRX := hide hrx; have HXB := hide hbx4; have HXL := hide hbx; obtain ⟨px0, px1, px2⟩ := HK.out wx1 (HB4.out.trans (hbx4.mono hzW4.out)); clear hrx hbx hbx4)
          | (go_at_call_of 95 (Value.slice a4 n4 c4); refine (HLB1.out _ ?_).mono ?_; (first | exact HXB.out | exact HB.out.drew | exact HB.out); rintro e wy1 ⟨vy, rfl, hry, hby, hby4⟩; have HRY := hide hry; have HYB := hide hby4; have HYL := hide hby; obtain ⟨py0, py1, py2⟩ := HK.out wy1 (HB4.out.trans (hby4.mono hzW4.out)); clear hry hby hby4)
          | (go_at_call 94; refine (order_any _ _ LA LB _ ?_ ?_ hl1 hl2).mono ?_; (first | exact HRX.out | exact HRX.out.below HYL.out HRX.out.2.1); (first | exact HRY.out | exact HRY.out.below HXL.out HRY.out.2.1); rintro e wz ⟨rfl, q, rfl⟩))
        all_goals (go_wp2_with fail; go_meet; exact ⟨rfl, by first | exact below_drewN' HYB.out | exact below_drewN' HXB.out⟩)
      case rest =>
        obtain ⟨rfl, hbc⟩ := hcut
        have HBC := hide hbc
        have hzc := hbc.size
        have HBF2 : Hid (Below w.heap.size w wc) := HB0.out.trans ((HB4.out.trans (hbc.mono (by omega))).mono (by omega))
        generalize Tm.cmpL LA LB = cv at *
        clear hbc p0 p1 p2
        cases hcv : (cv != 0)
        · have hc0 : cv = 0 := by simpa using hcv
          have HN2 := hide (HCM.out.trans (HSS.out.trans (if_pos hc0)))
          go_wp2
          go_roundw
          case rel => exact ⟨k + 1, by omega, by omega, by go_num, HN2.out, HBC.out⟩
          case measure => simp [intOf]; omega
        · have hc0 : cv ≠ 0 := by simpa using hcv
          have HN2 := hide (HCM.out.trans (HSS.out.trans (if_neg hc0)))
          go_wp2
          go_ret
          exact ⟨ret_int HN2.out.symm, HBF2.out⟩
    · have hle : ¬ (k : Int) ≤ (S : Int) := by omega
      have hkS : k - 1 = S := by omega
      have HDN : Hid (cmpOf lns S sh a b = Tm.cmpL (normOf lns a) (normOf lns b)) := by
        have := HCM.out
        rw [hkS, ← HS.out] at this
        exact this.trans (stands_done HST.out)
      clear hkS
      go_wp2_with fail
      refine (order_any _ _ (normOf lns a) (normOf lns b) _ (HR14.out.below HB.out HR14.out.2.1) (HR24.out.below HB.out HR24.out.2.1) (by omega) (by omega)).mono ?_
      rintro e wz ⟨rfl, q, rfl⟩
      go_wp2
      go_ret
      exact ⟨ret_int HDN.out.symm, below_drewN' HBF.out⟩
end Go.Proofs.YtmnjjjhmnhfapaaGreatDoor
namespace Go.Proofs.YtmnjjjhmnhfapaaGreatDoor
open Go.RowKit

theorem bytesLess_eq : ∀ (a b : List UInt8), Op.bytesLess a b = Tm.lessB a b
  | [], [] => rfl
  | [], _ :: _ => rfl
  | _ :: _, [] => rfl
  | a :: x, b :: y => by
    rw [Op.bytesLess, Tm.lessB, bytesLess_eq x y]
    by_cases h1 : a < b
    · simp [h1]
    · by_cases h2 : b < a
      · have : a ≠ b := fun h => by subst h; exact h1 h2
        simp [h1, h2, this]
      · have : a = b := UInt8.le_antisymm (UInt8.not_lt.1 h2) (UInt8.not_lt.1 h1)
        subst this
        simp [UInt8.lt_irrefl]
theorem lessB_none : ∀ {a b : List UInt8}, Tm.lessB a b = false → Tm.lessB b a = false → a = b
  | [], [], _, _ => rfl
  | [], _ :: _, h, _ => by simp [Tm.lessB] at h
  | _ :: _, [], _, h => by simp [Tm.lessB] at h
  | a :: x, b :: y, h, k => by
    unfold Tm.lessB at h k
    by_cases h1 : a < b
    · rw [if_pos h1] at h; cases h
    · rw [if_neg h1] at h
      by_cases h2 : b < a
      · rw [if_pos h2] at k; cases k
      · rw [if_neg h2] at h
        rw [if_neg h2, if_neg h1] at k
        have : a = b := UInt8.le_antisymm (UInt8.not_lt.1 h2) (UInt8.not_lt.1 h1)
        rw [this, lessB_none h k]

theorem cmpOf_range (lns : List Tm.Ln) (st : Int) (sh : Bool) (a b : ByteArray) : cmpOf lns st sh a b = -1 ∨ cmpOf lns st sh a b = 0 ∨ cmpOf lns st sh a b = 1 := Tm.cmpLL_range _ _
theorem key_cmp {lns : List Tm.Ln} (hf : ∀ o ∈ lns, Tm.Fit o) {st : Int} {sh : Bool} (hst : 1 ≤ st ∧ st ≤ 4) (a b : ByteArray) : Tm.cmpB (keyBytes lns st sh a) (keyBytes lns st sh b) = cmpOf lns st sh a b :=
  key_order hf hst (norm_range hf a) (norm_range hf b)

set_option maxRecDepth 100000 in
set_option maxHeartbeats 1000000 in
theorem lawSign_any (a b : ByteArray) (w : World) : Calls Tryz.prog 48 #[.string a, .string b] w fun e w' => e = .returned (.int .i64 (Tm.cmpB a.data.toList b.data.toList)) ∧ w' = w := by
  have HL : Hid (Tm.lessB a.data.toList b.data.toList = Op.bytesLess a.toList b.toList) := by unfold Hid; rw [bytesLess_eq, Go.ByteArray.toList_eq, Go.ByteArray.toList_eq]
  have HG : Hid (Tm.lessB a.data.toList b.data.toList = false → Tm.lessB b.data.toList a.data.toList = !(a.toList == b.toList)) := by
    intro h
    rw [← Go.ByteArray.toList_eq, ← Go.ByteArray.toList_eq] at h ⊢
    cases h2 : Tm.lessB b.toList a.toList
    · have := lessB_none h h2
      simp [this]
    · have : a.toList ≠ b.toList := fun e => by rw [e, Tm.lessB_self] at h2; cases h2
      simp [this]
  have HC : Hid (Tm.cmpB a.data.toList b.data.toList = if Tm.lessB a.data.toList b.data.toList then -1 else if Tm.lessB b.data.toList a.data.toList then 1 else 0) := rfl
  cases h1 : Op.bytesLess a.toList b.toList
  · have HG' := hide (HG.out (by rw [HL.out, h1]))
    cases h2 : (a.toList == b.toList)
    · go_enter Tryz.func48, Tryz.ntmps48
      go_wp2
      go_ret
      exact ⟨ret_int (by rw [HC.out, HG'.out, HL.out, h1, h2]; rfl), rfl⟩
    · go_enter Tryz.func48, Tryz.ntmps48
      go_wp2
      go_ret
      exact ⟨ret_int (by rw [HC.out, HG'.out, HL.out, h1, h2]; rfl), rfl⟩
  · go_enter Tryz.func48, Tryz.ntmps48
    go_wp2
    go_ret
    exact ⟨ret_int (by rw [HC.out, HL.out, h1]; rfl), rfl⟩

set_option maxRecDepth 100000 in
set_option maxHeartbeats 1000000 in
theorem keyed_any (lns : List Tm.Ln) (bc bm : Nat) (st : Int) (sh : Bool) (s : ByteArray) (w : World) (hc : Coll w bc bm st sh lns) (hok : TableOk st lns) :
    Calls Tryz.prog 46 #[.pointer (some ⟨bc, 0, none⟩), .string s] w fun e w' => e = .returned (.tuple #[.string (if s.size ≤ 64 then ⟨(keyBytes lns st sh s).toArray⟩ else ⟨#[]⟩), .bool true]) ∧ Below w.heap.size w w' := by
  have HC := hide hc
  have HOK := hide hok
  clear hc hok
  by_cases hs : s.size ≤ 64
  · have hd : decide (64 < (s.size : Int)) = false := by simp <;> omega
    have HK := hide (fun w hc => CodeKey_any lns bc bm st sh s w hc HOK.out)
    simp only [if_pos hs] at HK ⊢
    go_enter Tryz.func46, Tryz.ntmps46
    go_wp2_with fail
    refine (HK.out _ HC.out).mono ?_
    rintro e w1 ⟨rfl, hb1⟩
    have HB1 := hide hb1
    clear hb1
    go_wp2
    go_ret2
    exact ⟨rfl, HB1.out⟩
  · have hd : decide (64 < (s.size : Int)) = true := by simp <;> omega
    have HK := hide (fun w hc => CodeKey_any lns bc bm st sh s w hc HOK.out)
    simp only [if_neg hs] at HK ⊢
    go_enter Tryz.func46, Tryz.ntmps46
    go_wp2_with fail
    refine (HK.out _ HC.out).mono ?_
    rintro e w1 ⟨rfl, hb1⟩
    have HB1 := hide hb1
    clear hb1
    go_wp2
    go_ret2
    exact ⟨rfl, HB1.out⟩

set_option maxRecDepth 100000 in
set_option maxHeartbeats 4000000 in
theorem ordered_any (lns : List Tm.Ln) (bc bm : Nat) (st : Int) (sh : Bool) (vl : Value) (a b : ByteArray) (w : World) (hcoll : Coll w bc bm st sh lns) (ht : TableRd w vl lns) (hok : TableOk st lns) :
    Calls Tryz.prog 14 #[.pointer (some ⟨bc, 0, none⟩), .agg #[vl, .int .i64 st, .bool sh], .string a, .string b] w fun e w' => e = .returned (.bool true) ∧ Below w.heap.size w w' := by
  obtain ⟨at', cap, rfl⟩ := ht.shape
  have HOK := hide hok
  have HF := hide hcoll.fit
  have hfew : lns.length ≤ 1000000 := by have := hcoll.few; omega
  obtain ⟨W, hW⟩ : ∃ W, w.alloc (.cells #[.slice at' lns.length cap, .int .i64 st, .bool sh] 29) = W := ⟨_, rfl⟩
  have hb0 : Below w.heap.size w W := by rw [← hW]; exact (Below.refl _ _).alloc (Nat.le_refl _) _
  have hz0 : W.heap.size = w.heap.size + 1 := by rw [← hW]; simp
  have k0 : W.cell? ⟨w.heap.size, 0, none⟩ = some (.slice at' lns.length cap) := by rw [← hW, cell_new rfl]; rfl
  have k1 : W.cell? ⟨w.heap.size, 1, none⟩ = some (.int .i64 st) := by rw [← hW, cell_new rfl]; rfl
  have k2 : W.cell? ⟨w.heap.size, 2, none⟩ = some (.bool sh) := by rw [← hW, cell_new rfl]; rfl
  have HK : Hid (∀ w', Below W.heap.size W w' → w'.cell? ⟨w.heap.size, 0, none⟩ = some (.slice at' lns.length cap) ∧ w'.cell? ⟨w.heap.size, 1, none⟩ = some (.int .i64 st) ∧ w'.cell? ⟨w.heap.size, 2, none⟩ = some (.bool sh)) := fun w' h => by
    rw [h.cell (p := ⟨w.heap.size, 0, none⟩) (by simp only; omega), h.cell (p := ⟨w.heap.size, 1, none⟩) (by simp only; omega), h.cell (p := ⟨w.heap.size, 2, none⟩) (by simp only; omega)]
    exact ⟨k0, k1, k2⟩
  have HB0 := hide hb0
  have HC0 := hide (hcoll.below hb0)
  have HT0 := hide (ht.below hb0)
  have HW := hide hW
  have HCMP := hide (fun w hc => CodeCompare_any lns bc bm st sh a b w hc HOK.out)
  have HKA := hide (fun w hc => keyed_any lns bc bm st sh a w hc HOK.out)
  have HKB := hide (fun w hc => keyed_any lns bc bm st sh b w hc HOK.out)
  clear hcoll ht hok hb0 hW k0 k1 k2
  by_cases hs : a.size ≤ 64 ∧ b.size ≤ 64
  · have ha := hs.1
    have hb := hs.2
    have hda : decide (64 < (a.size : Int)) = false := by simp <;> omega
    have hdb : decide (64 < (b.size : Int)) = false := by simp <;> omega
    simp only [if_pos hs] at HCMP
    simp only [if_pos ha] at HKA
    simp only [if_pos hb] at HKB
    have HRC := hide (fun w ht => RefCompare_any (.slice at' lns.length cap) st sh a b lns w ht HF.out hfew HOK.out ha hb)
    have HRG := hide (cmpOf_range lns st sh a b)
    have hkc : Tm.cmpB (ByteArray.mk (keyBytes lns st sh a).toArray).data.toList (ByteArray.mk (keyBytes lns st sh b).toArray).data.toList = cmpOf lns st sh a b := by
      have := key_cmp HF.out (sh := sh) HOK.out.st a b
      simpa using this
    have HSG := hide (fun w => lawSign_any ⟨(keyBytes lns st sh a).toArray⟩ ⟨(keyBytes lns st sh b).toArray⟩ w)
    rw [hkc] at HSG
    generalize cmpOf lns st sh a b = cv at *
    generalize (⟨(keyBytes lns st sh a).toArray⟩ : ByteArray) = ka at *
    generalize (⟨(keyBytes lns st sh b).toArray⟩ : ByteArray) = kb at *
    clear hkc hs
    go_enter Tryz.func14, Tryz.ntmps14
    go_wp2_with fail
    rw [HW.out]
    refine (HCMP.out _ HC0.out).mono ?_
    rintro e w1 ⟨rfl, hb1⟩
    have HB1 := hide hb1
    have hz1 := hb1.size
    have HC1 := hide (HC0.out.below hb1)
    clear hb1
    go_wp2_with fail
    refine (HKA.out _ HC1.out).mono ?_
    rintro e w2 ⟨rfl, hb2⟩
    have hz2 := hb2.size
    have HB2 : Hid (Below W.heap.size W w2) := HB1.out.trans (hb2.mono hz1)
    have HC2 := hide (HC1.out.below hb2)
    clear hb2
    go_wp2_with fail
    refine (HKB.out _ HC2.out).mono ?_
    rintro e w3 ⟨rfl, hb3⟩
    have hz3 := hb3.size
    have HB3 : Hid (Below W.heap.size W w3) := HB2.out.trans (hb3.mono (by omega))
    obtain ⟨k0, k1, k2⟩ := HK.out w3 HB3.out
    clear hb3
    go_wp2_with fail
    refine (HRC.out _ (HT0.out.below HB3.out)).mono ?_
    rintro e w4 ⟨rfl, hb4⟩
    have HB4 : Hid (Below w.heap.size w w4) := HB0.out.trans ((HB3.out.trans (hb4.mono (by omega))).mono (by omega))
    clear hb4 k0 k1 k2
    go_wp2_with fail
    refine (HSG.out _).mono ?_
    rintro e w5 ⟨rfl, rfl⟩
    go_wp2
    go_ret
    exact ⟨rfl, HB4.out⟩
  · simp only [if_neg hs] at HCMP
    generalize (if a.size ≤ 64 then (⟨(keyBytes lns st sh a).toArray⟩ : ByteArray) else ⟨#[]⟩) = ka at *
    generalize (if b.size ≤ 64 then (⟨(keyBytes lns st sh b).toArray⟩ : ByteArray) else ⟨#[]⟩) = kb at *
    have hor : (64 < (a.size : Int)) ∨ (¬ (64 < (a.size : Int)) ∧ (64 < (b.size : Int))) := by omega
    rcases hor with hda | ⟨hda, hdb⟩
    all_goals
      go_enter Tryz.func14, Tryz.ntmps14
      go_wp2_with fail
      rw [HW.out]
      refine (HCMP.out _ HC0.out).mono ?_
      rintro e w1 ⟨rfl, hb1⟩
      have HB1 := hide hb1
      have hz1 := hb1.size
      have HC1 := hide (HC0.out.below hb1)
      clear hb1
      go_wp2_with fail
      refine (HKA.out _ HC1.out).mono ?_
      rintro e w2 ⟨rfl, hb2⟩
      have hz2 := hb2.size
      have HB2 : Hid (Below W.heap.size W w2) := HB1.out.trans (hb2.mono hz1)
      have HC2 := hide (HC1.out.below hb2)
      clear hb2
      go_wp2_with fail
      refine (HKB.out _ HC2.out).mono ?_
      rintro e w3 ⟨rfl, hb3⟩
      have HB3 : Hid (Below w.heap.size w w3) := HB0.out.trans ((HB2.out.trans (hb3.mono (by omega))).mono (by omega))
      clear hb3
      go_wp2
      go_ret
      exact ⟨rfl, HB3.out⟩
end Go.Proofs.YtmnjjjhmnhfapaaGreatDoor
