import Derived.Test.YtmnjjjhmnhfapaaGreatDoorMRefEls2
namespace Go.Proofs.YtmnjjjhmnhfapaaGreatDoor
open Go.RowKit
theorem below_drewN' {B q : Nat} {w w' : World} (h : Below B w w') : Below B w (w'.drewN q) := ⟨h.os, h.tape, h.output, h.size, h.block⟩
theorem stands_get {lns : List Tm.Ln} {st : Int} {sh : Bool} {n : List Int} {k : Nat} (h : 1 ≤ st ∧ st ≤ 4) (hk : k < st.toNat) : (stands lns st sh n)[k]? = some (Tm.level sh (Tm.elements lns n) k) := by
 unfold stands
 rw [List.getElem?_append_left (by rw [levels_length h]; exact hk), levels, List.getElem?_take_of_lt hk]
 rcases (show k = 0 ∨ k = 1 ∨ k = 2 ∨ k = 3 by omega) with rfl | rfl | rfl | rfl <;> rfl
theorem stands_full {lns : List Tm.Ln} {st : Int} {sh : Bool} {n : List Int} (h : 1 ≤ st ∧ st ≤ 4) : (stands lns st sh n).length = st.toNat + 1 := by
 unfold stands; rw [List.length_append, levels_length h]; rfl
theorem stands_step {lns : List Tm.Ln} {st : Int} {sh : Bool} {n m : List Int} {k : Nat} (h : 1 ≤ st ∧ st ≤ 4) (hk : k < st.toNat) :
  Tm.cmpLL ((stands lns st sh n).drop k) ((stands lns st sh m).drop k) = if Tm.cmpL (Tm.level sh (Tm.elements lns n) k) (Tm.level sh (Tm.elements lns m) k) = 0 then Tm.cmpLL ((stands lns st sh n).drop (k + 1)) ((stands lns st sh m).drop (k + 1)) else Tm.cmpL (Tm.level sh (Tm.elements lns n) k) (Tm.level sh (Tm.elements lns m) k) := by
 have ha : k < (stands lns st sh n).length := by rw [stands_full h]; omega
 have hb : k < (stands lns st sh m).length := by rw [stands_full h]; omega
 have h1 := stands_get (lns := lns) (sh := sh) (n := n) h hk
 have h2 := stands_get (lns := lns) (sh := sh) (n := m) h hk
 rw [List.getElem?_eq_getElem ha] at h1
 rw [List.getElem?_eq_getElem hb] at h2
 rw [Tm.cmpLL_step ha hb, Option.some.inj h1, Option.some.inj h2]
theorem stands_done {lns : List Tm.Ln} {st : Int} {sh : Bool} {n m : List Int} (h : 1 ≤ st ∧ st ≤ 4) :
  Tm.cmpLL ((stands lns st sh n).drop st.toNat) ((stands lns st sh m).drop st.toNat) = Tm.cmpL n m := by
 have e : ∀ n, (stands lns st sh n).drop st.toNat = [n] := fun n => by
  unfold stands; rw [List.drop_append_of_le_length (by rw [levels_length h]; omega), List.drop_of_length_le (by rw [levels_length h]; omega)]; rfl
 rw [e, e, Tm.cmpLL]
 split
 ·rename_i h0; rw [h0, Tm.cmpLL]
 ·rfl
set_option maxRecDepth 100000 in
set_option maxHeartbeats 4000000 in
theorem RefCompare_any (vl : Value) (st : Int) (sh : Bool) (a b : ByteArray) (lns : List Tm.Ln) (w : World) (ht : TableRd w vl lns) (hfit : ∀ o ∈ lns, Tm.Fit o) (hl : lns.length ≤ 1000000) (hok : TableOk st lns) (hs : a.size ≤ 64) (hs' : b.size ≤ 64) :
  Calls Tryz.prog 47 #[.agg #[vl, .int .i64 st, .bool sh], .string a, .string b] w fun e w' => e = .returned (.int .i64 (cmpOf lns st sh a b)) ∧ Below w.heap.size w w' := by
 obtain ⟨at', cap, rfl⟩ := ht.shape
 obtain ⟨S, rfl⟩ : ∃ S : Nat, st = (S : Int) := ⟨st.toNat, by have := hok.st; omega⟩
 obtain ⟨st1, st4⟩ := hok.st
 have HF := hide hfit
 have HOK := hide hok
 have hla := norm_short' hfit hs
 have hlb := norm_short' hfit hs'
 have hea := Tm.elements_length hfit (normOf lns a)
 have heb := Tm.elements_length hfit (normOf lns b)
 have HVA := hide (Tm.elements_var hok.heavy (normOf lns a))
 have HVB := hide (Tm.elements_var hok.heavy (normOf lns b))
 have HRA := hide (norm_range hfit a)
 have HRB := hide (norm_range hfit b)
 have HCO : Hid (cmpOf lns S sh a b = Tm.cmpLL ((stands lns S sh (normOf lns a)).drop 0) ((stands lns S sh (normOf lns b)).drop 0)) := rfl
 obtain ⟨W, hW⟩ : ∃ W, w.alloc (.cells #[.slice at' lns.length cap, .int .i64 S, .bool sh] 29) = W := ⟨_, rfl⟩
 have hb0 : Below w.heap.size w W := by rw [← hW]; exact (Below.refl _ _).alloc (Nat.le_refl _) _
 have hz0 : W.heap.size = w.heap.size + 1 := by rw [← hW]; simp
 have k0 : W.cell? ⟨w.heap.size, 0, none⟩ = some (.slice at' lns.length cap) := by rw [← hW, cell_new rfl]; rfl
 have k1 : W.cell? ⟨w.heap.size, 1, none⟩ = some (.int .i64 S) := by rw [← hW, cell_new rfl]; rfl
 have k2 : W.cell? ⟨w.heap.size, 2, none⟩ = some (.bool sh) := by rw [← hW, cell_new rfl]; rfl
 have HK : Hid (∀ w', Below W.heap.size W w' → w'.cell? ⟨w.heap.size, 0, none⟩ = some (.slice at' lns.length cap) ∧ w'.cell? ⟨w.heap.size, 1, none⟩ = some (.int .i64 S) ∧ w'.cell? ⟨w.heap.size, 2, none⟩ = some (.bool sh)) := fun w' h => by
  rw [h.cell (p := ⟨w.heap.size, 0, none⟩) (by simp only; omega), h.cell (p := ⟨w.heap.size, 1, none⟩) (by simp only; omega), h.cell (p := ⟨w.heap.size, 2, none⟩) (by simp only; omega)]
  exact ⟨k0, k1, k2⟩
 have HB0 := hide hb0
 have HT0 := hide (ht.below hb0)
 clear ht hfit hok hb0
 go_enter Tryz.func47, Tryz.ntmps47
 go_wp2_with fail
 refine (RefNormal_any _ S sh a lns _ HT0.out HF.out hl HOK.out.ends hs).mono ?_
 rintro e w1 ⟨v1, rfl, hr1, hb1⟩
 obtain ⟨a1, c1, rfl⟩ := hr1.shape
 obtain ⟨p0, p1, p2⟩ := HK.out w1 hb1
 have HR1 := hide hr1
 have HB1 := hide hb1
 have hz1 := hb1.size
 clear hr1 hb1 k0 k1 k2
 go_wp2_with fail
 refine (RefNormal_any _ S sh b lns _ (HT0.out.below HB1.out) HF.out hl HOK.out.ends hs').mono ?_
 rintro e w2 ⟨v2, rfl, hr2, hb2⟩
 obtain ⟨a2, c2, rfl⟩ := hr2.shape
 have HB2 : Hid (Below W.heap.size W w2) := HB1.out.trans (hb2.mono (by omega))
 have HR12 := hide (HR1.out.below hb2 HR1.out.2.1)
 have HR2 := hide hr2
 have hz2 := hb2.size
 clear hr2 hb2 p0 p1 p2
 obtain ⟨p0, p1, p2⟩ := HK.out w2 HB2.out
 go_wp2_with fail
 refine (RefElements_any _ S sh _ (normOf lns a) lns _ (HT0.out.below HB2.out) HR12.out HRA.out hl (by omega) HF.out).mono ?_
 rintro e w3 ⟨v3, rfl, hr3, hb3⟩
 obtain ⟨a3, c3, rfl⟩ := hr3.shape
 have HB3 : Hid (Below W.heap.size W w3) := HB2.out.trans (hb3.mono (by omega))
 have HR13 := hide (HR12.out.below hb3 HR12.out.2.1)
 have HR23 := hide (HR2.out.below hb3 HR2.out.2.1)
 have HR3 := hide hr3
 have hz3 := hb3.size
 clear hr3 hb3 p0 p1 p2
 obtain ⟨p0, p1, p2⟩ := HK.out w3 HB3.out
 go_wp2_with fail
 refine (RefElements_any _ S sh _ (normOf lns b) lns _ (HT0.out.below HB3.out) HR23.out HRB.out hl (by omega) HF.out).mono ?_
 rintro e w4 ⟨v4, rfl, hr4, hb4⟩
 obtain ⟨a4, c4, rfl⟩ := hr4.shape
 have HB4 : Hid (Below W.heap.size W w4) := HB3.out.trans (hb4.mono (by omega))
 have HR14 := hide (HR13.out.below hb4 HR13.out.2.1)
 have HR24 := hide (HR23.out.below hb4 HR23.out.2.1)
 have HR34 := hide (HR3.out.below hb4 HR3.out.2.1)
 have HR4 := hide hr4
 have hz4 := hb4.size
 clear hr4 hb4 p0 p1 p2
 have HLA : Hid (∀ kk : Nat, 1 ≤ kk ∧ kk ≤ 4 → ∀ w', Below w4.heap.size w4 w' → Calls Tryz.prog 95 #[.agg #[.slice at' lns.length cap, .int .i64 S, .bool sh], .slice a3 (Tm.elements lns (normOf lns a)).length c3, .int .i64 kk] w' fun e w'' => ∃ v, e = .returned v ∧ Reads w'' v 1 (Tm.level sh (Tm.elements lns (normOf lns a)) (kk - 1)).length (ints (Tm.level sh (Tm.elements lns (normOf lns a)) (kk - 1))) ∧ Below w'.heap.size w' w'' ∧ Below w4.heap.size w4 w'') := by
  intro kk hk w' hb
  refine (Level_any _ S sh _ _ kk w' (HR34.out.below hb HR34.out.2.1) hk (by omega) HVA.out).mono ?_
  rintro e w'' ⟨v, rfl, h1, h2⟩
  exact ⟨v, rfl, h1, h2, hb.trans (h2.mono hb.size)⟩
 have HLB : Hid (∀ kk : Nat, 1 ≤ kk ∧ kk ≤ 4 → ∀ w', Below w4.heap.size w4 w' → Calls Tryz.prog 95 #[.agg #[.slice at' lns.length cap, .int .i64 S, .bool sh], .slice a4 (Tm.elements lns (normOf lns b)).length c4, .int .i64 kk] w' fun e w'' => ∃ v, e = .returned v ∧ Reads w'' v 1 (Tm.level sh (Tm.elements lns (normOf lns b)) (kk - 1)).length (ints (Tm.level sh (Tm.elements lns (normOf lns b)) (kk - 1))) ∧ Below w'.heap.size w' w'' ∧ Below w4.heap.size w4 w'') := by
  intro kk hk w' hb
  refine (Level_any _ S sh _ _ kk w' (HR4.out.below hb HR4.out.2.1) hk (by omega) HVB.out).mono ?_
  rintro e w'' ⟨v, rfl, h1, h2⟩
  exact ⟨v, rfl, h1, h2, hb.trans (h2.mono hb.size)⟩
 have HLL : Hid (∀ kk s, s.size ≤ 64 → (Tm.level sh (Tm.elements lns (normOf lns s)) kk).length ≤ 1000000) := fun kk s h => by
  have h1 : (Tm.level sh (Tm.elements lns (normOf lns s)) kk).length ≤ (Tm.elements lns (normOf lns s)).length := Tm.lev_length sh kk _ _
  have h2 := Tm.elements_length HF.out (normOf lns s)
  have h3 := norm_short' HF.out h
  omega
 generalize (Tm.elements lns (normOf lns a)).length = n3 at *
 generalize (Tm.elements lns (normOf lns b)).length = n4 at *
 have HS : Hid ((S : Int).toNat = S) := Int.toNat_natCast S
 have HST := hide (And.intro st1 st4)
 have hS1 : 1 ≤ S := by omega
 have hS4 : S ≤ 4 := by omega
 have hzW4 : Hid (W.heap.size ≤ w4.heap.size) := by unfold Hid; omega
 go_wp2_with fail
 go_loopw [11] (fun i wr => ∃ k : Nat, 1 ≤ k ∧ k ≤ S + 1 ∧ i = .int .i64 k ∧ cmpOf lns S sh a b = Tm.cmpLL ((stands lns S sh (normOf lns a)).drop (k - 1)) ((stands lns S sh (normOf lns b)).drop (k - 1)) ∧ Below w4.heap.size w4 wr) (fun i _ => S + 1 - (intOf i).toNat)
 case atStart => exact ⟨1, Nat.le_refl _, by omega, rfl, HCO.out, Below.refl _ _⟩
 case round =>
  obtain ⟨k, hk1, hk2, rfl, hcm, hb⟩ := hrel
  have HCM := hide hcm
  have HB := hide hb
  have hzr := hb.size
  have HBW : Hid (Below W.heap.size W wr) := HB4.out.trans (hb.mono (by omega))
  obtain ⟨p0, p1, p2⟩ := HK.out wr HBW.out
  have HBF : Hid (Below w.heap.size w wr) := HB0.out.trans (HBW.out.mono (by omega))
  clear hcm hb
  by_cases hlt : k ≤ S
  ·have hle : (k : Int) ≤ (S : Int) := by omega
   have HSS := hide (stands_step (lns := lns) (sh := sh) (n := normOf lns a) (m := normOf lns b) HST.out (show k - 1 < (S : Int).toNat by rw [HS.out]; omega))
   have e1 : k - 1 + 1 = k := by omega
   rw [e1] at HSS
   have HLA1 := hide (HLA.out k ⟨hk1, by omega⟩)
   have HLB1 := hide (HLB.out k ⟨hk1, by omega⟩)
   have hl1 := HLL.out (k - 1) a hs
   have hl2 := HLL.out (k - 1) b hs'
   generalize Tm.level sh (Tm.elements lns (normOf lns a)) (k - 1) = LA at *
   generalize Tm.level sh (Tm.elements lns (normOf lns b)) (k - 1) = LB at *
   clear e1
   go_upto_region 8 with fail
   go_cut [12] from 25 to 43 (fun t wx => t = .int .i64 (Tm.cmpL LA LB) ∧ Below w4.heap.size w4 wx)
   case first =>
    go_region_held3 (fun wx => wx.cell? ⟨w.heap.size, 0, none⟩ = some (.slice at' lns.length cap) ∧ wx.cell? ⟨w.heap.size, 1, none⟩ = some (.int .i64 S) ∧ wx.cell? ⟨w.heap.size, 2, none⟩ = some (.bool sh)) (go_keep)
     (first
     | (go_at_call_of 95 (Value.slice a3 n3 c3); refine (HLA1.out _ ?_).mono ?_; (first | exact HYB.out | exact HB.out.drew | exact HB.out); rintro e wx1 ⟨vx, rfl, hrx, hbx, hbx4⟩; have HRX := hide hrx; have HXB := hide hbx4; have HXL := hide hbx; obtain ⟨px0, px1, px2⟩ := HK.out wx1 (HB4.out.trans (hbx4.mono hzW4.out)); clear hrx hbx hbx4)
     | (go_at_call_of 95 (Value.slice a4 n4 c4); refine (HLB1.out _ ?_).mono ?_; (first | exact HXB.out | exact HB.out.drew | exact HB.out); rintro e wy1 ⟨vy, rfl, hry, hby, hby4⟩; have HRY := hide hry; have HYB := hide hby4; have HYL := hide hby; obtain ⟨py0, py1, py2⟩ := HK.out wy1 (HB4.out.trans (hby4.mono hzW4.out)); clear hry hby hby4)
     | (go_at_call 94; refine (order_any _ _ LA LB _ ?_ ?_ hl1 hl2).mono ?_; (first | exact HRX.out | exact HRX.out.below HYL.out HRX.out.2.1); (first | exact HRY.out | exact HRY.out.below HXL.out HRY.out.2.1); rintro e wz ⟨rfl, q, rfl⟩))
    all_goals (go_wp2_with fail; go_meet; exact ⟨rfl, by first | exact below_drewN' HYB.out | exact below_drewN' HXB.out⟩)
   case rest =>
    obtain ⟨rfl, hbc⟩ := hcut
    have HBC := hide hbc
    have hzc := hbc.size
    have HBF2 : Hid (Below w.heap.size w wc) := HB0.out.trans ((HB4.out.trans (hbc.mono (by omega))).mono (by omega))
    generalize Tm.cmpL LA LB = cv at *
    clear hbc p0 p1 p2
    cases hcv : (cv != 0)
    ·have hc0 : cv = 0 := by simpa using hcv
     have HN2 := hide (HCM.out.trans (HSS.out.trans (if_pos hc0)))
     go_wp2
     go_roundw
     case rel => exact ⟨k + 1, by omega, by omega, by go_num, HN2.out, HBC.out⟩
     case measure => simp [intOf]; omega
    ·have hc0 : cv ≠ 0 := by simpa using hcv
     have HN2 := hide (HCM.out.trans (HSS.out.trans (if_neg hc0)))
     go_wp2
     go_ret
     exact ⟨ret_int HN2.out.symm, HBF2.out⟩
  ·have hle : ¬ (k : Int) ≤ (S : Int) := by omega
   have hkS : k - 1 = S := by omega
   have HDN : Hid (cmpOf lns S sh a b = Tm.cmpL (normOf lns a) (normOf lns b)) := by
    have := HCM.out
    rw [hkS, ← HS.out] at this
    exact this.trans (stands_done HST.out)
   clear hkS
   go_wp2_with fail
   refine (order_any _ _ (normOf lns a) (normOf lns b) _ (HR14.out.below HB.out HR14.out.2.1) (HR24.out.below HB.out HR24.out.2.1) (by omega) (by omega)).mono ?_
   rintro e wz ⟨rfl, q, rfl⟩
   go_wp2
   go_ret
   exact ⟨ret_int HDN.out.symm, below_drewN' HBF.out⟩
namespace Tm
abbrev Deed := ByteArray × ByteArray × Bool
def formsD (N : ByteArray → List Int) (ds : List Deed) : List (List Int) := ds.map (fun d => N d.1)
def goneD (ds : List Deed) : List Bool := ds.map (fun d => d.2.2)
def shownD (N : ByteArray → List Int) (ds : List Deed) : List Nat := shownAt (formsD N ds) (goneD ds) ds.length
def dAt (ds : List Deed) (i : Nat) : Deed := ds.getD i (⟨#[]⟩, ⟨#[]⟩, true)
def shownEs (N : ByteArray → List Int) (ds : List Deed) : Ents := (shownD N ds).map (fun i => ((dAt ds i).1, (dAt ds i).2.1))
def thereD (N : ByteArray → List Int) (ds : List Deed) (k : ByteArray) : Bool := decide (0 ≤ lastAt (formsD N ds) (N k) ds.length) && !(dAt ds (lastAt (formsD N ds) (N k) ds.length).toNat).2.2
theorem dAt_get {ds : List Deed} {i : Nat} (h : i < ds.length) : dAt ds i = ds[i] := by unfold dAt; rw [List.getD_eq_getElem?_getD, List.getElem?_eq_getElem h]; rfl
theorem forms_get {N : ByteArray → List Int} {ds : List Deed} {i : Nat} (h : i < ds.length) : (formsD N ds)[i]? = some (N (ds[i]).1) := by unfold formsD; simp [h]
theorem gone_get {ds : List Deed} {i : Nat} (h : i < ds.length) : (goneD ds)[i]? = some (ds[i]).2.2 := by unfold goneD; simp [h]
theorem mem_shownD {N : ByteArray → List Int} {ds : List Deed} {i : Nat} : i ∈ shownD N ds ↔ ∃ h : i < ds.length, lastAt (formsD N ds) (N (ds[i]).1) ds.length = i ∧ (ds[i]).2.2 = false := by
 unfold shownD shownAt
 rw [List.mem_filter, List.mem_range]
 constructor
 ·rintro ⟨h, hs⟩
  refine ⟨h, ?_⟩
  simp only [shownIs, Bool.and_eq_true, decide_eq_true_eq, beq_iff_eq] at hs
  obtain ⟨⟨f, hf, hl⟩, hg⟩ := hs
  rw [forms_get h] at hf
  rw [gone_get h] at hg
  exact ⟨by rw [Option.some.inj hf]; exact hl, Option.some.inj hg⟩
 ·rintro ⟨h, hl, hg⟩
  refine ⟨h, ?_⟩
  simp only [shownIs, Bool.and_eq_true, decide_eq_true_eq, beq_iff_eq]
  exact ⟨⟨_, forms_get h, hl⟩, by rw [gone_get h, hg]⟩
theorem mem_shownEs {N : ByteArray → List Int} {ds : List Deed} {e : ByteArray × ByteArray} : e ∈ shownEs N ds ↔ ∃ i, ∃ h : i < ds.length, ds[i] = (e.1, e.2, false) ∧ lastAt (formsD N ds) (N e.1) ds.length = i := by
 unfold shownEs
 rw [List.mem_map]
 constructor
 ·rintro ⟨i, hi, rfl⟩
  obtain ⟨h, hl, hg⟩ := mem_shownD.1 hi
  rw [dAt_get h]
  exact ⟨i, h, by rw [← hg], hl⟩
 ·rintro ⟨i, h, he, hl⟩
  refine ⟨i, mem_shownD.2 ⟨h, by rw [he]; exact hl, by rw [he]⟩, ?_⟩
  rw [dAt_get h, he]
theorem shownEs_apart {N : ByteArray → List Int} {ds : List Deed} : (shownEs N ds).Pairwise (fun a b => N a.1 ≠ N b.1) := by
 unfold shownEs
 rw [List.pairwise_map]
 have hn : (shownD N ds).Pairwise (· ≠ ·) := List.Pairwise.filter _ List.nodup_range
 refine List.Pairwise.imp_of_mem (fun {i j} hi hj hne h => hne ?_) hn
 obtain ⟨h1, l1, _⟩ := mem_shownD.1 hi
 obtain ⟨h2, l2, _⟩ := mem_shownD.1 hj
 rw [dAt_get h1, dAt_get h2] at h
 simp only at h
 rw [h] at l1
 omega
theorem thereD_iff {N : ByteArray → List Int} {ds : List Deed} {k : ByteArray} : thereD N ds k = true ↔ ∃ e ∈ shownEs N ds, N e.1 = N k := by
 unfold thereD
 simp only [Bool.and_eq_true, decide_eq_true_eq, Bool.not_eq_true']
 constructor
 ·rintro ⟨h0, hg⟩
  rcases lastAt_range (formsD N ds) (N k) ds.length with h | ⟨i, h1, h2, h3⟩
  ·omega
  ·rw [h2, Int.toNat_natCast, dAt_get h1] at hg
   rw [forms_get h1] at h3
   have h4 := Option.some.inj h3
   refine ⟨((ds[i]).1, (ds[i]).2.1), mem_shownEs.2 ⟨i, h1, by rw [← hg], ?_⟩, h4⟩
   simp only
   rw [h4]; exact h2
 ·rintro ⟨e, he, hN⟩
  obtain ⟨i, h1, h2, h3⟩ := mem_shownEs.1 he
  rw [← hN, h3, Int.toNat_natCast, dAt_get h1, h2]
  exact ⟨by omega, rfl⟩
theorem forms_snoc (N : ByteArray → List Int) (ds : List Deed) (d : Deed) : formsD N (ds ++ [d]) = formsD N ds ++ [N d.1] := by simp [formsD]
theorem last_snoc (N : ByteArray → List Int) (ds : List Deed) (d : Deed) (f : List Int) : lastAt (formsD N (ds ++ [d])) f (ds ++ [d]).length = if N d.1 = f then (ds.length : Int) else lastAt (formsD N ds) f ds.length := by
 have hl : (formsD N ds).length = ds.length := by simp [formsD]
 rw [forms_snoc, List.length_append, List.length_singleton, ← hl]
 exact lastAt_new
theorem shown_snoc {N : ByteArray → List Int} {ds : List Deed} {k v : ByteArray} {g : Bool} {e : ByteArray × ByteArray} : e ∈ shownEs N (ds ++ [(k, v, g)]) ↔ (g = false ∧ e = (k, v)) ∨ (e ∈ shownEs N ds ∧ N e.1 ≠ N k) := by
 rw [mem_shownEs, mem_shownEs]
 constructor
 ·rintro ⟨i, h, he, hl⟩
  rw [last_snoc] at hl
  by_cases hN : N k = N e.1
  ·rw [if_pos hN] at hl
   have hi : i = ds.length := by omega
   subst hi
   rw [List.getElem_concat_length] at he
   simp only [Prod.mk.injEq] at he
   exact .inl ⟨he.2.2, by rw [he.1, he.2.1]⟩
   rfl
  ·rw [if_neg hN] at hl
   rcases lastAt_range (formsD N ds) (N e.1) ds.length with h' | ⟨j, h1, h2, _⟩
   ·omega
   ·have hij : i = j := by omega
    subst hij
    rw [List.getElem_append_left h1] at he
    exact .inr ⟨⟨i, h1, he, hl⟩, fun h => hN h.symm⟩
 ·rintro (⟨rfl, rfl⟩ | ⟨⟨i, h, he, hl⟩, hN⟩)
  ·refine ⟨ds.length, by simp, ?_, ?_⟩
   ·rw [List.getElem_concat_length]; rfl
   ·rw [last_snoc, if_pos rfl]
  ·refine ⟨i, by simp; omega, by rw [List.getElem_append_left h]; exact he, ?_⟩
   rw [last_snoc, if_neg (fun h => hN h.symm)]
   exact hl
structure DeedsOk (c : ByteArray → ByteArray → Int) (N : ByteArray → List Int) (ds : List Deed) (es : Ents) : Prop where
 zero : ∀ a b, c a b = 0 ↔ N a = N b
 rises : Rises (ByKey c) es
 same : ∀ e, e ∈ es ↔ e ∈ shownEs N ds
theorem DeedsOk.nil {c : ByteArray → ByteArray → Int} {N : ByteArray → List Int} (hz : ∀ a b, c a b = 0 ↔ N a = N b) : DeedsOk c N [] [] := ⟨hz, .nil, fun e => by rw [mem_shownEs]; simp⟩
theorem DeedsOk.has {c : ByteArray → ByteArray → Int} {N : ByteArray → List Int} {ds : List Deed} {es : Ents} (h : DeedsOk c N ds es) (k : ByteArray) : ixHas c es k = thereD N ds k := by
 rw [Bool.eq_iff_iff, thereD_iff]
 unfold ixHas
 rw [List.any_eq_true]
 constructor
 ·rintro ⟨e, he, h0⟩
  exact ⟨e, (h.same e).1 he, (h.zero _ _).1 (by simpa using h0)⟩
 ·rintro ⟨e, he, h0⟩
  exact ⟨e, (h.same e).2 he, by simpa using (h.zero _ _).2 h0⟩
theorem DeedsOk.scan {c : ByteArray → ByteArray → Int} (hT : Told c) {N : ByteArray → List Int} {ds : List Deed} {es : Ents} (h : DeedsOk c N ds es) (p : ByteArray × ByteArray → Bool) : es.filter p = scanIn (ByKey c) p (shownEs N ds) :=
 scanIn_one hT.byKey (List.Pairwise.imp (fun {a b} hab h0 => hab ((h.zero _ _).1 h0)) shownEs_apart) (List.Pairwise.filter p h.rises) (fun y => by
  rw [List.mem_filter, h.same])
theorem DeedsOk.count {c : ByteArray → ByteArray → Int} (hT : Told c) {N : ByteArray → List Int} {ds : List Deed} {es : Ents} (h : DeedsOk c N ds es) : (shownD N ds).length = es.length := by
 have := h.scan hT (fun _ => true)
 rw [List.filter_eq_self.2 (fun _ _ => rfl)] at this
 rw [this, scanIn_length]
 simp [shownEs]
theorem DeedsOk.put {c : ByteArray → ByteArray → Int} (hT : Told c) {N : ByteArray → List Int} {ds : List Deed} {es : Ents} (h : DeedsOk c N ds es) (k v : ByteArray) : DeedsOk c N (ds ++ [(k, v, false)]) (ixPut c es k v) :=
 ⟨h.zero, ixPut_rises hT h.rises, fun e => by
  rw [ixPut_mem, shown_snoc, h.same]
  constructor
  ·rintro (he | ⟨h1, h2⟩)
   ·exact .inl ⟨rfl, he⟩
   ·exact .inr ⟨h1, fun hn => h2 ((h.zero _ _).2 hn)⟩
  ·rintro (⟨_, he⟩ | ⟨h1, h2⟩)
   ·exact .inl he
   ·exact .inr ⟨h1, fun hn => h2 ((h.zero _ _).1 hn)⟩⟩
theorem DeedsOk.drop {c : ByteArray → ByteArray → Int} {N : ByteArray → List Int} {ds : List Deed} {es : Ents} (h : DeedsOk c N ds es) (k v : ByteArray) : DeedsOk c N (ds ++ [(k, v, true)]) (ixDrop c es k) :=
 ⟨h.zero, ixDrop_rises h.rises, fun e => by
  rw [ixDrop_mem, shown_snoc, h.same]
  constructor
  ·rintro ⟨h1, h2⟩
   exact .inr ⟨h1, fun hn => h2 ((h.zero _ _).2 hn)⟩
  ·rintro (⟨hf, _⟩ | ⟨h1, h2⟩)
   ·cases hf
   ·exact ⟨h1, fun hn => h2 ((h.zero _ _).1 hn)⟩⟩
theorem DeedsOk.get {c : ByteArray → ByteArray → Int} (hT : Told c) {N : ByteArray → List Int} {ds : List Deed} {es : Ents} (h : DeedsOk c N ds es) {k : ByteArray} (ht : thereD N ds k = true) : ixGet c es k = some (dAt ds (lastAt (formsD N ds) (N k) ds.length).toNat).2.1 := by
 obtain ⟨e, he, hN⟩ := thereD_iff.1 ht
 obtain ⟨i, h1, h2, h3⟩ := mem_shownEs.1 he
 rw [← hN, h3, Int.toNat_natCast, dAt_get h1, h2]
 have hm := (h.same e).2 he
 have hh : ixHas c es k = true := by rw [h.has]; exact ht
 rw [ixGet_at hT h.rises, if_pos hh]
 obtain ⟨hi, h0⟩ := (ixHas_at hT h.rises).1 hh
 have hm2 : es[below c es k] ∈ shownEs N ds := (h.same _).1 (List.getElem_mem hi)
 obtain ⟨j, g1, g2, g3⟩ := mem_shownEs.1 hm2
 rw [(h.zero _ _).1 h0, ← hN, h3] at g3
 have hij : i = j := by omega
 subst hij
 rw [h2] at g2
 simp only [Prod.mk.injEq] at g2
 rw [List.getElem?_eq_getElem hi]
 simp [← g2.2.1]
end Tm
def deedCells (ds : List Tm.Deed) (vs : List Value) : List Value := (ds.zip vs).flatMap fun p => [.string p.1.1, .string p.1.2.1, .bool p.1.2.2, p.2]
theorem deedCells_length {ds : List Tm.Deed} {vs : List Value} (h : vs.length = ds.length) : (deedCells ds vs).length = ds.length * 4 := by
 have : ∀ l : List (Tm.Deed × Value), (l.flatMap fun p => [Value.string p.1.1, Value.string p.1.2.1, Value.bool p.1.2.2, p.2]).length = l.length * 4 := by
  intro l
  induction l with
  | nil => rfl
  | cons a r ih => simp only [List.flatMap_cons, List.length_append, List.length_cons] at *; rw [ih]; simp; omega
 unfold deedCells
 rw [this, List.length_zip]
 omega
theorem deedCells_snoc {ds : List Tm.Deed} {vs : List Value} (h : vs.length = ds.length) (d : Tm.Deed) (v : Value) : deedCells (ds ++ [d]) (vs ++ [v]) = deedCells ds vs ++ [.string d.1, .string d.2.1, .bool d.2.2, v] := by
 unfold deedCells
 rw [List.zip_append h.symm]
 simp
structure DeedsRd (w : World) (lns : List Tm.Ln) (vd : Value) (vs : List Value) (ds : List Tm.Deed) : Prop where
 len : vs.length = ds.length
 row : Reads w vd 4 ds.length (deedCells ds vs)
 forms : ∀ k (h : k < ds.length), Reads w (vs[k]'(by omega)) 1 (normOf lns (ds[k]).1).length (ints (normOf lns (ds[k]).1))
theorem DeedsRd.below {w w' : World} {lns : List Tm.Ln} {vd : Value} {vs : List Value} {ds : List Tm.Deed} (h : DeedsRd w lns vd vs ds) (hb : Below w.heap.size w w') : DeedsRd w' lns vd vs ds :=
 ⟨h.len, h.row.below hb h.row.2.1, fun k hk => (h.forms k hk).below hb (h.forms k hk).2.1⟩
theorem DeedsRd.at {w : World} {lns : List Tm.Ln} {a : Option Addr} {n cap : Nat} {vs : List Value} {ds : List Tm.Deed} (h : DeedsRd w lns (.slice a n cap) vs ds) {k : Nat} (hk : k < ds.length) :
  ∃ g off v, a = some ⟨g, off, none⟩ ∧ g < w.heap.size ∧ w.cell? ⟨g, off + k * 4, none⟩ = some (.string (ds[k]).1) ∧ w.cell? ⟨g, off + k * 4 + 1, none⟩ = some (.string (ds[k]).2.1) ∧ w.cell? ⟨g, off + k * 4 + 2, none⟩ = some (.bool (ds[k]).2.2) ∧ w.cell? ⟨g, off + k * 4 + 3, none⟩ = some v ∧ Reads w v 1 (normOf lns (ds[k]).1).length (ints (normOf lns (ds[k]).1)) := by
 obtain ⟨g, off, cap', he, hg, hc⟩ := h.row.form (by rw [deedCells_length h.len]; omega)
 cases he
 have hkv : k < vs.length := by rw [h.len]; exact hk
 have hkz : k < (ds.zip vs).length := by rw [List.length_zip]; omega
 have hr := rows_get (fun p : Tm.Deed × Value => [Value.string p.1.1, Value.string p.1.2.1, Value.bool p.1.2.2, p.2]) 4 (fun _ => rfl) (ds.zip vs) k hkz
 have hz : (ds.zip vs)[k] = (ds[k], vs[k]) := by simp
 rw [hz] at hr
 exact ⟨g, off, vs[k], rfl, hg, hc (k * 4) _ (hr 0 (by omega)), hc (k * 4 + 1) _ (hr 1 (by omega)), hc (k * 4 + 2) _ (hr 2 (by omega)), hc (k * 4 + 3) _ (hr 3 (by omega)), h.forms k hk⟩
structure Rx (w : World) (X : Nat) (S : Nat → Prop) (by_ : Nat) (vT : Value) (st : Int) (sh : Bool) (lns : List Tm.Ln) (ds : List Tm.Deed) : Prop where
 from_ : ∀ i, S i → X ≤ i ∧ i < w.heap.size
 own : S by_
 c0 : w.cell? ⟨by_, 0, none⟩ = some vT
 c1 : w.cell? ⟨by_, 1, none⟩ = some (.int .i64 st)
 c2 : w.cell? ⟨by_, 2, none⟩ = some (.bool sh)
 deeds : ∃ vd vs, w.cell? ⟨by_, 3, none⟩ = some vd ∧ w.ownsRow X 258 4 vd ds.length (deedCells ds vs) ∧ DeedsRd w lns vd vs ds ∧ (∀ g, vd.ownBlock = some g → S g ∧ g ≠ by_) ∧ ∀ k (h : k < vs.length), ∀ g, (vs[k]).ownBlock = some g → S g ∧ g ≠ by_ ∧ vd.ownBlock ≠ some g
 free : ∀ o, w.frozen? ⟨by_, o, none⟩ = false
 short : ∀ d ∈ ds, d.1.size ≤ 64 ∧ d.2.1.size ≤ 64
theorem Rx.foot {w w' : World} {X : Nat} {S T : Nat → Prop} {by_ : Nat} {vT : Value} {st : Int} {sh : Bool} {lns : List Tm.Ln} {ds : List Tm.Deed} (h : Rx w X S by_ vT st sh lns ds) (hf : Foot T w w') (hd : ∀ i, S i → ¬ T i) : Rx w' X S by_ vT st sh lns ds := by
 have hl := (h.from_ by_ h.own).2
 have hn := hd by_ h.own
 obtain ⟨vd, vs, hc, hown, hrd, hg, hgs⟩ := h.deeds
 refine ⟨fun i hi => ⟨(h.from_ i hi).1, Nat.lt_of_lt_of_le (h.from_ i hi).2 hf.size⟩, h.own, by rw [hf.cell (p := ⟨by_, 0, none⟩) hl hn]; exact h.c0, by rw [hf.cell (p := ⟨by_, 1, none⟩) hl hn]; exact h.c1, by rw [hf.cell (p := ⟨by_, 2, none⟩) hl hn]; exact h.c2,
  ⟨vd, vs, by rw [hf.cell (p := ⟨by_, 3, none⟩) hl hn]; exact hc, hf.owns hown (fun g e => hd g (hg g e).1), ⟨hrd.len, hf.reads hrd.row (fun g e => hd g (hg g e).1), fun k hk => hf.reads (hrd.forms k hk) (fun g e => hd g (hgs k (by rw [hrd.len]; exact hk) g e).1)⟩, hg, hgs⟩,
  fun o => by rw [hf.frozen (p := ⟨by_, o, none⟩) hl hn]; exact h.free o, h.short⟩
theorem Rx.below {w w' : World} {X : Nat} {S : Nat → Prop} {by_ : Nat} {vT : Value} {st : Int} {sh : Bool} {lns : List Tm.Ln} {ds : List Tm.Deed} (h : Rx w X S by_ vT st sh lns ds) (hb : Below w.heap.size w w') : Rx w' X S by_ vT st sh lns ds :=
 h.foot (Foot.of (S := fun _ => False) hb) (fun _ _ e => e)
def RxStep (w w' : World) (X : Nat) (S : Nat → Prop) (by_ : Nat) (vT : Value) (st : Int) (sh : Bool) (lns : List Tm.Ln) (ds : List Tm.Deed) : Prop :=
 ∃ S' : Nat → Prop, Rx w' X S' by_ vT st sh lns ds ∧ Foot S w w' ∧ ∀ i, S' i → S i ∨ w.heap.size ≤ i
theorem RxStep.of_below {w w' : World} {X : Nat} {S : Nat → Prop} {by_ : Nat} {vT : Value} {st : Int} {sh : Bool} {lns : List Tm.Ln} {ds : List Tm.Deed} (h : Rx w X S by_ vT st sh lns ds) (hb : Below w.heap.size w w') : RxStep w w' X S by_ vT st sh lns ds :=
 ⟨S, h.below hb, Foot.of hb, fun _ hi => .inl hi⟩
theorem norm_len {lns : List Tm.Ln} (hf : ∀ o ∈ lns, Tm.Fit o) {s : ByteArray} (hs : s.size ≤ 64) : (normOf lns s).length ≤ 1000000 := by have := norm_short' hf hs; omega
set_option maxRecDepth 100000 in
set_option maxHeartbeats 1000000 in
theorem rxLast_any {X : Nat} {S : Nat → Prop} {by_ : Nat} {vT : Value} {st : Int} {sh : Bool} {lns : List Tm.Ln} {ds : List Tm.Deed} (hfit : ∀ o ∈ lns, Tm.Fit o) (vf : Value) (f : List Int) (n : Nat) (w : World) (hx : Rx w X S by_ vT st sh lns ds) (hf : Reads w vf 1 f.length (ints f)) (hfl : f.length ≤ 1000000) (hn : n ≤ ds.length) (hfew : ds.length ≤ 100000000) :
  Calls Tryz.prog 171 #[.pointer (some ⟨by_, 0, none⟩), vf, .int .i64 n] w fun e w' => e = .returned (.int .i64 (Tm.lastAt (Tm.formsD (normOf lns) ds) f n)) ∧ ∃ q, w' = w.drewN q := by
 obtain ⟨vd, vs, c3, _, hrd, _, _⟩ := hx.deeds
 obtain ⟨a, cap, rfl⟩ := hrd.row.shape
 have hl := (hx.from_ by_ hx.own).2
 have HRD := hide hrd
 have HF := hide hf
 have HSH := hide hx.short
 have HFT := hide hfit
 obtain ⟨av, capv, rfl⟩ := hf.shape
 obtain ⟨m, hm⟩ : ∃ m, ds.length = m := ⟨_, rfl⟩
 have HM := hide hm
 rw [hm] at hn hfew c3
 have HRD' := HRD
 rw [hm] at HRD'
 clear hx hrd hf hm hfit
 go_enter Tryz.func171, Tryz.ntmps171
 go_wp2_with fail
 go_loopw [7] (fun i wr => ∃ k : Nat, k ≤ n ∧ i = .int .i64 ((k : Int) - 1) ∧ Hid (Tm.lastAt (Tm.formsD (normOf lns) ds) f n = Tm.lastAt (Tm.formsD (normOf lns) ds) f k) ∧ ∃ q, wr = w.drewN q) (fun i _ => (intOf i + 1).toNat)
 case atStart => exact ⟨n, Nat.le_refl _, by go_num, (rfl : Tm.lastAt (Tm.formsD (normOf lns) ds) f n = _), 0, rfl⟩
 case round =>
  obtain ⟨k, hk, rfl, HLA, q, rfl⟩ := hrel
  by_cases h0 : 0 < k
  ·obtain ⟨j, rfl⟩ : ∃ j, k = j + 1 := ⟨k - 1, by omega⟩
   have hjl : j < ds.length := by rw [HM.out]; omega
   obtain ⟨g, off, v, rfl, hg, x0, x1, x2, x3, hrv⟩ := HRD'.out.at hjl
   have hrv' : Reads (w.drewN q) v 1 (normOf lns (ds[j]).1).length (ints (normOf lns (ds[j]).1)) := hrv
   have hfw : Reads (w.drewN q) (.slice av f.length capv) 1 f.length (ints f) := HF.out
   have hnl := norm_len HFT.out (HSH.out _ (List.getElem_mem hjl)).1
   have HFG := hide (Tm.forms_get (N := normOf lns) hjl)
   have y3 : (w.drewN q).cell? ⟨g, off + j * 4 + 3, none⟩ = some v := x3
   have c3' : (w.drewN q).cell? ⟨by_, 3, none⟩ = some (.slice (some ⟨g, off, none⟩) m cap) := c3
   generalize normOf lns (ds[j]).1 = nf at *
   have HRV := hide hrv'
   have HFW := hide hfw
   obtain ⟨a', c', hv⟩ := hrv'.shape
   subst hv
   have e1 : ((j + 1 : Nat) : Int) - 1 = (j : Int) := by omega
   rw [e1]
   have i1 : (0 : Int) ≤ (j : Int) := by omega
   have i2 : (j : Int) < (m : Int) := by omega
   clear hrv hrv' hfw x0 x1 x2 e1
   go_wp2_with fail
   refine (sameInts_any _ _ nf f _ HRV.out HFW.out hnl hfl).mono ?_
   rintro e w1 ⟨rfl, q1, rfl⟩
   by_cases hs : nf = f
   ·have HANS : Hid (Tm.lastAt (Tm.formsD (normOf lns) ds) f n = (j : Int)) := by
     unfold Hid
     rw [HLA.out, Tm.lastAt, HFG.out, if_pos (by rw [hs])]
    rw [decide_eq_true hs]
    go_wp2
    go_ret
    exact ⟨ret_int HANS.out.symm, q + q1, by simp⟩
   ·have HNX : Hid (Tm.lastAt (Tm.formsD (normOf lns) ds) f n = Tm.lastAt (Tm.formsD (normOf lns) ds) f j) := by
     unfold Hid
     rw [HLA.out, Tm.lastAt, HFG.out, if_neg (fun h => hs (Option.some.inj h))]
    rw [decide_eq_false hs]
    go_wp2
    go_roundw
    case rel => exact ⟨j, by omega, by go_num, HNX.out, q + q1, by simp⟩
    case measure => simp [intOf]
  ·have hk0 : k = 0 := by omega
   subst hk0
   have HANS : Hid (Tm.lastAt (Tm.formsD (normOf lns) ds) f n = -1) := HLA.out
   go_wp2
   go_ret
   exact ⟨ret_int HANS.out.symm, q, rfl⟩
def natInts (l : List Nat) : List Value := l.map fun (i : Nat) => Value.int .i64 (i : Int)
theorem natInts_length (l : List Nat) : (natInts l).length = l.length := by simp [natInts]
def shownTo (N : ByteArray → List Int) (ds : List Tm.Deed) (k : Nat) : List Nat := (List.range k).filter (Tm.shownIs (Tm.formsD N ds) (Tm.goneD ds) ds.length)
theorem shownTo_step (N : ByteArray → List Int) (ds : List Tm.Deed) {k : Nat} (hk : k < ds.length) : shownTo N ds (k + 1) = shownTo N ds k ++ (if Tm.lastAt (Tm.formsD N ds) (N (ds[k]).1) ds.length = k ∧ (ds[k]).2.2 = false then [k] else []) := by
 unfold shownTo
 rw [Tm.shownAt_step]
 congr 1
 have h1 : Tm.shownIs (Tm.formsD N ds) (Tm.goneD ds) ds.length k = decide (Tm.lastAt (Tm.formsD N ds) (N (ds[k]).1) ds.length = k ∧ (ds[k]).2.2 = false) := by
  unfold Tm.shownIs
  rw [Tm.gone_get hk, Bool.eq_iff_iff]
  simp only [Bool.and_eq_true, decide_eq_true_eq, beq_iff_eq, Option.some.injEq]
  constructor
  ·rintro ⟨⟨f, hf, hl⟩, hg⟩
   rw [Tm.forms_get hk] at hf
   exact ⟨by rw [Option.some.inj hf]; exact hl, hg⟩
  ·rintro ⟨hl, hg⟩
   exact ⟨⟨_, Tm.forms_get hk, hl⟩, hg⟩
 rw [h1]
 by_cases h : Tm.lastAt (Tm.formsD N ds) (N (ds[k]).1) ds.length = k ∧ (ds[k]).2.2 = false
 ·rw [if_pos h, if_pos (by simpa using h)]
 ·rw [if_neg h, if_neg (by simpa using h)]
set_option maxRecDepth 100000 in
set_option maxHeartbeats 4000000 in
theorem rxShown_any {X : Nat} {S : Nat → Prop} {by_ : Nat} {vT : Value} {st : Int} {sh : Bool} {lns : List Tm.Ln} {ds : List Tm.Deed} (hfit : ∀ o ∈ lns, Tm.Fit o) (w : World) (hx : Rx w X S by_ vT st sh lns ds) (hfew : ds.length ≤ 100000000) :
  Calls Tryz.prog 143 #[.pointer (some ⟨by_, 0, none⟩), .int .i64 ds.length] w fun e w' => ∃ v, e = .returned v ∧ w'.ownsRow w.heap.size 3 1 v (Tm.shownD (normOf lns) ds).length (natInts (Tm.shownD (normOf lns) ds)) ∧ Below w.heap.size w w' := by
 obtain ⟨i0, hi0, hz0, hzs, hzb⟩ := info_parts Tryz.infoInt
 obtain ⟨vd, vs, c3, _, hrd, _, _⟩ := hx.deeds
 obtain ⟨a, cap, rfl⟩ := hrd.row.shape
 have hl := (hx.from_ by_ hx.own).2
 have HRD := hide hrd
 have HSH := hide hx.short
 have HFT := hide hfit
 have HX := hide hx
 have HC3 := hide c3
 obtain ⟨m, hm⟩ : ∃ m, ds.length = m := ⟨_, rfl⟩
 have HM := hide hm
 rw [hm] at hfew HC3 HRD ⊢
 clear hx hrd hm hfit c3
 go_enter Tryz.func143, Tryz.ntmps143
 go_wp2_with fail
 go_loopw [5, 6] (fun x i wr => ∃ k : Nat, k ≤ m ∧ i = .int .i64 k ∧ (∃ a' n' c', x = .slice a' n' c') ∧ Hid (wr.ownsRow w.heap.size 3 1 x (shownTo (normOf lns) ds k).length (natInts (shownTo (normOf lns) ds k))) ∧ Hid (Below w.heap.size w wr)) (fun _ i _ => m - (intOf i).toNat)
 case atStart => exact ⟨0, Nat.zero_le _, rfl, ⟨_, _, _, rfl⟩, (by unfold Hid; exact World.ownsRow_nil _ _ _ _), Below.refl _ _⟩
 case round =>
  obtain ⟨k, hk, rfl, ⟨a', n', c', rfl⟩, HO, HB⟩ := hrel
  obtain rfl : n' = (shownTo (normOf lns) ds k).length := ((Reads.of_owns HO.out).fits).1
  by_cases hlt : k < m
  ·have hjl : k < ds.length := by rw [HM.out]; exact hlt
   have HXW := hide (HX.out.below HB.out)
   have c3 : wr.cell? ⟨by_, 3, none⟩ = some (.slice a m cap) := by rw [HB.out.cell (p := ⟨by_, 3, none⟩) hl]; exact HC3.out
   have hlw : by_ < wr.heap.size := by have := HB.out.size; omega
   obtain ⟨g, off, v, rfl, hg, x0, x1, x2, x3, hrv⟩ := (HRD.out.below HB.out).at hjl
   have hnl := norm_len HFT.out (HSH.out _ (List.getElem_mem hjl)).1
   have HST := hide (shownTo_step (normOf lns) ds hjl)
   have hsl : (shownTo (normOf lns) ds k).length ≤ k := by
    have := List.length_filter_le (Tm.shownIs (Tm.formsD (normOf lns) ds) (Tm.goneD ds) ds.length) (List.range k)
    simpa [shownTo] using this
   have HLA := hide (rxLast_any HFT.out v (normOf lns (ds[k]).1) ds.length wr HXW.out hrv hnl (Nat.le_refl _) (by rw [HM.out]; omega))
   have hrg := Tm.lastAt_range (Tm.formsD (normOf lns) ds) (normOf lns (ds[k]).1) ds.length
   rw [HM.out] at HLA HST hrg
   obtain ⟨la, hla⟩ : ∃ la, Tm.lastAt (Tm.formsD (normOf lns) ds) (normOf lns (ds[k]).1) m = la := ⟨_, rfl⟩
   rw [hla] at HLA HST hrg
   have hlar : -1 ≤ la ∧ la ≤ 100000000 := by
    rcases hrg with h | ⟨i, h1, h2, _⟩
    ·omega
    ·omega
   obtain ⟨l1, l2⟩ := hlar
   obtain ⟨av, cv, hv⟩ := hrv.shape
   subst hv
   clear hla hrg hrv
   generalize ds[k] = d at *
   obtain ⟨dk, dv, dg⟩ := d
   simp only at x0 x1 x2 HLA HST
   have i1 : (0 : Int) ≤ (k : Int) := by omega
   have i2 : (k : Int) < (m : Int) := by omega
   go_wp2_with fail
   refine HLA.out.mono ?_
   rintro e w1 ⟨rfl, q, rfl⟩
   have y2 : (wr.drewN q).cell? ⟨g, off + k * 4 + 2, none⟩ = some (.bool dg) := x2
   have c3' : (wr.drewN q).cell? ⟨by_, 3, none⟩ = some (.slice (some ⟨g, off, none⟩) m cap) := c3
   have HBQ : Hid (Below w.heap.size w (wr.drewN q)) := ⟨HB.out.os, HB.out.tape, HB.out.output, HB.out.size, HB.out.block⟩
   have HOQ : Hid ((wr.drewN q).ownsRow w.heap.size 3 1 (.slice a' (shownTo (normOf lns) ds k).length c') (shownTo (normOf lns) ds k).length (natInts (shownTo (normOf lns) ds k))) := HO.out
   have hzq : w.heap.size ≤ (wr.drewN q).heap.size := HBQ.out.size
   have hzw : w.heap.size ≤ wr.heap.size := HB.out.size
   clear x0 x1 x2 x3 c3
   by_cases hlk : la = k
   ·have hd1 : (la == (k : Int)) = true := by simpa using hlk
    cases dg
    ·have HS1 : Hid (shownTo (normOf lns) ds (k + 1) = shownTo (normOf lns) ds k ++ [k]) := by
      have := HST.out
      rw [if_pos ⟨hlk, rfl⟩] at this
      exact this
     go_wp2_with (at_builtin; go_must (refine wpList_append_keep rfl _ _ 83 rfl w.heap.size 3 i0 (.int .i64 0) 8 Tryz.underlying83 hi0 hz0 hzs hzb rfl _ _ _ rfl (HOQ.out.alloc _) ⟨wr.heap.size, 0, none⟩ 1 1 [.int .i64 k] rfl rfl (news_one) (by intro u hu; simp at hu; subst hu; rfl) (by unfold maxLen; omega) (by omega) (by simp; omega) ?_))
     intro v' w' hown hgr _ _
     have HO' : Hid (w'.ownsRow w.heap.size 3 1 v' (shownTo (normOf lns) ds (k + 1)).length (natInts (shownTo (normOf lns) ds (k + 1)))) := by
      unfold Hid
      rw [HS1.out]
      simpa [natInts] using hown
     have HB' : Hid (Below w.heap.size w w') := (HBQ.out.alloc hzq _).grown hgr (by simp; omega) (fun q hq => (HOQ.out.lt q hq).1)
     obtain ⟨a2, c2, rfl⟩ := (Reads.of_owns hown).shape
     clear hown hgr
     go_wp2
     go_roundw
     case rel => exact ⟨k + 1, by omega, by go_num, ⟨_, _, _, rfl⟩, HO'.out, HB'.out⟩
     case measure => simp [intOf]; omega
    ·have HS1 : Hid (shownTo (normOf lns) ds (k + 1) = shownTo (normOf lns) ds k) := by
      have := HST.out
      rw [if_neg (fun h => by cases h.2), List.append_nil] at this
      exact this
     go_wp2
     go_roundw
     case rel => exact ⟨k + 1, by omega, by go_num, ⟨_, _, _, rfl⟩, by unfold Hid; rw [HS1.out]; exact HOQ.out, HBQ.out⟩
     case measure => simp [intOf]; omega
   ·have hd1 : (la == (k : Int)) = false := by simpa using hlk
    have HS1 : Hid (shownTo (normOf lns) ds (k + 1) = shownTo (normOf lns) ds k) := by
     have := HST.out
     rw [if_neg (fun h => hlk h.1), List.append_nil] at this
     exact this
    go_wp2
    go_roundw
    case rel => exact ⟨k + 1, by omega, by go_num, ⟨_, _, _, rfl⟩, by unfold Hid; rw [HS1.out]; exact HOQ.out, HBQ.out⟩
    case measure => simp [intOf]; omega
  ·have e : k = m := by omega
   subst e
   have HO' : Hid (wr.ownsRow w.heap.size 3 1 (.slice a' (shownTo (normOf lns) ds k).length c') (Tm.shownD (normOf lns) ds).length (natInts (Tm.shownD (normOf lns) ds))) := by
    have e9 : shownTo (normOf lns) ds k = Tm.shownD (normOf lns) ds := by rw [← HM.out]; rfl
    unfold Hid
    rw [← e9]
    exact HO.out
   go_wp2
   go_ret
   exact ⟨_, rfl, HO'.out, HB.out⟩
structure TabOk (w : World) (vT : Value) (st : Int) (lns : List Tm.Ln) : Prop where
 rd : TableRd w vT lns
 fit : ∀ o ∈ lns, Tm.Fit o
 few : lns.length ≤ 1000000
 ok : TableOk st lns
theorem TabOk.below {w w' : World} {vT : Value} {st : Int} {lns : List Tm.Ln} (h : TabOk w vT st lns) (hb : Below w.heap.size w w') : TabOk w' vT st lns := ⟨h.rd.below hb, h.fit, h.few, h.ok⟩
def RxCells (w : World) (by_ : Nat) (vT : Value) (st : Int) (sh : Bool) (vd : Value) : Prop := w.cell? ⟨by_, 0, none⟩ = some vT ∧ w.cell? ⟨by_, 1, none⟩ = some (.int .i64 st) ∧ w.cell? ⟨by_, 2, none⟩ = some (.bool sh) ∧ w.cell? ⟨by_, 3, none⟩ = some vd
theorem RxCells.below {w w' : World} {by_ : Nat} {vT vd : Value} {st : Int} {sh : Bool} (h : RxCells w by_ vT st sh vd) (hl : by_ < w.heap.size) (hb : Below w.heap.size w w') : RxCells w' by_ vT st sh vd :=
 ⟨by rw [hb.cell (p := ⟨by_, 0, none⟩) hl]; exact h.1, by rw [hb.cell (p := ⟨by_, 1, none⟩) hl]; exact h.2.1, by rw [hb.cell (p := ⟨by_, 2, none⟩) hl]; exact h.2.2.1, by rw [hb.cell (p := ⟨by_, 3, none⟩) hl]; exact h.2.2.2⟩
theorem rxNormal_any {w : World} {vT : Value} {st : Int} (sh : Bool) {lns : List Tm.Ln} (hT : TabOk w vT st lns) (s : ByteArray) (hs : s.size ≤ 64) (W : World) (hW : Below w.heap.size w W) :
  Calls Tryz.prog 42 #[.agg #[vT, .int .i64 st, .bool sh], .string s] W fun e w' => ∃ a n c, e = .returned (.slice a n c) ∧ Reads w' (.slice a n c) 1 (normOf lns s).length (ints (normOf lns s)) ∧ Below w.heap.size w w' ∧ ∀ g, (Value.slice a n c).ownBlock = some g → W.heap.size ≤ g := by
 refine (RefNormal_new vT st sh s lns W (hT.rd.below hW) hT.fit hT.few hT.ok.ends hs).mono ?_
 rintro e w' ⟨v, rfl, hr, hb, hn⟩
 obtain ⟨a, c, rfl⟩ := hr.shape
 exact ⟨a, _, c, rfl, hr, hW.trans (hb.mono hW.size), hn⟩
set_option maxRecDepth 100000 in
set_option maxHeartbeats 4000000 in
theorem rxThere_any {X : Nat} {S : Nat → Prop} {by_ : Nat} {vT : Value} {st : Int} {sh : Bool} {lns : List Tm.Ln} {ds : List Tm.Deed} (key : ByteArray) (w : World) (hT : TabOk w vT st lns) (hx : Rx w X S by_ vT st sh lns ds) (hk : key.size ≤ 64) (hfew : ds.length ≤ 100000000) :
  Calls Tryz.prog 172 #[.pointer (some ⟨by_, 0, none⟩), .string key] w fun e w' => e = .returned (.bool (Tm.thereD (normOf lns) ds key)) ∧ Below w.heap.size w w' := by
 obtain ⟨vd, vs, c3, _, hrd, _, _⟩ := hx.deeds
 obtain ⟨a, cap, rfl⟩ := hrd.row.shape
 have hl := (hx.from_ by_ hx.own).2
 have hcs : RxCells w by_ vT st sh (.slice a ds.length cap) := ⟨hx.c0, hx.c1, hx.c2, c3⟩
 have HT := hide hT
 have HX := hide hx
 have HRD := hide hrd
 have HCS := hide hcs
 obtain ⟨aT, capT, hvT⟩ := hT.rd.shape
 have hrg := Tm.lastAt_range (Tm.formsD (normOf lns) ds) (normOf lns key) ds.length
 obtain ⟨la, hla⟩ : ∃ la, Tm.lastAt (Tm.formsD (normOf lns) ds) (normOf lns key) ds.length = la := ⟨_, rfl⟩
 have HTD : Hid (Tm.thereD (normOf lns) ds key = (decide (0 ≤ la) && !(Tm.dAt ds la.toNat).2.2)) := by unfold Hid Tm.thereD; rw [hla]
 have HLA : Hid (∀ W v, Below w.heap.size w W → Reads W v 1 (normOf lns key).length (ints (normOf lns key)) → Calls Tryz.prog 171 #[.pointer (some ⟨by_, 0, none⟩), v, .int .i64 ds.length] W fun e w' => e = .returned (.int .i64 la) ∧ Below w.heap.size w w') := fun W v hW hv => by
  refine (rxLast_any HT.out.fit v (normOf lns key) ds.length W (HX.out.below hW) hv (norm_len HT.out.fit hk) (Nat.le_refl _) hfew).mono ?_
  rintro e w' ⟨rfl, q, rfl⟩
  exact ⟨by rw [hla], hW.os, hW.tape, hW.output, hW.size, hW.block⟩
 rw [hla] at hrg
 have hlar : -1 ≤ la ∧ la < ds.length := by
  rcases hrg with h | ⟨i, h1, h2, _⟩
  ·omega
  ·omega
 obtain ⟨l1, l2⟩ := hlar
 obtain ⟨p0, p1, p2, p3⟩ := hcs
 rw [hvT] at p0
 obtain ⟨m, hm⟩ : ∃ m, ds.length = m := ⟨_, rfl⟩
 have HM := hide hm
 rw [hm] at l2 p3 HLA hfew HCS
 rw [hvT] at HCS HT
 clear hT hx hrd c3 hla hrg hm hvT
 go_enter Tryz.func172, Tryz.ntmps172
 go_upto_region 1 with fail
 go_cut [5] from 6 to 18 (fun t wx => t = .int .i64 la ∧ Hid (Below w.heap.size w wx))
 case first =>
  go_region_held3 (fun wx => wx.cell? ⟨by_, 0, none⟩ = some (.slice aT lns.length capT) ∧ wx.cell? ⟨by_, 1, none⟩ = some (.int .i64 st) ∧ wx.cell? ⟨by_, 2, none⟩ = some (.bool sh) ∧ wx.cell? ⟨by_, 3, none⟩ = some (.slice a m cap)) (go_keep)
   (first
   | (go_at_call 42; refine (rxNormal_any sh HT.out key hk _ (Below.refl _ _).drew).mono ?_; rintro e w1 ⟨an, nn, cn, rfl, hr1, hb1, _⟩; obtain ⟨d0, d1, d2, d3⟩ := HCS.out.below hl hb1; have HR1 := hide hr1; have HB1 := hide hb1; clear hr1 hb1)
   | (go_at_call 171; refine (HLA.out _ _ HB1.out HR1.out).mono ?_; rintro e w2 ⟨rfl, hb2⟩; obtain ⟨e0, e1, e2, e3⟩ := HCS.out.below hl hb2; have HB2 := hide hb2; clear hb2))
  all_goals (go_wp2_with fail; go_meet; exact ⟨rfl, HB2.out⟩)
 case rest =>
  obtain ⟨rfl, HBC⟩ := hcut
  obtain ⟨q0, q1, q2, q3⟩ := HCS.out.below hl HBC.out
  have hlc : by_ < wc.heap.size := by have := HBC.out.size; omega
  clear p0 p1 p2 p3 q0 q1 q2
  by_cases h0 : 0 ≤ la
  ·obtain ⟨i, rfl⟩ : ∃ i : Nat, la = i := ⟨la.toNat, by omega⟩
   have hil : i < ds.length := by rw [HM.out]; omega
   obtain ⟨g, off, v, he, hg, x0, x1, x2, x3, hrv⟩ := (HRD.out.below HBC.out).at hil
   subst he
   have HTD' : Hid (Tm.thereD (normOf lns) ds key = !(ds[i]).2.2) := by
    unfold Hid
    rw [HTD.out, decide_eq_true h0, Int.toNat_natCast, Tm.dAt_get hil, Bool.true_and]
   generalize ds[i] = d at *
   have i2 : (i : Int) < (m : Int) := by omega
   clear x0 x1 x3 hrv
   go_wp2
   go_ret
   exact ⟨by rw [HTD'.out]; rfl, HBC.out⟩
  ·have HTD' : Hid (Tm.thereD (normOf lns) ds key = false) := by
    unfold Hid
    rw [HTD.out, decide_eq_false h0, Bool.false_and]
   go_wp2
   go_ret
   exact ⟨by rw [HTD'.out]; rfl, HBC.out⟩
theorem Tryz.infoEnt2 : (Tryz.prog.info? 67).map (fun i => (i.zero, i.size, i.bytes)) = some (some (.agg #[.string ⟨#[]⟩, .string ⟨#[]⟩]), 2, 32) := by kernel_rfl
theorem putIn_take {α : Type} {c : α → α → Int} {e : α} : ∀ {l : List α} {k : Nat}, (∀ j (hj : j < l.length), j < k → ¬ c e l[j] < 0) → k ≤ l.length → Tm.putIn c e l = l.take k ++ Tm.putIn c e (l.drop k)
 | l, 0, _, _ => by simp
 | [], k + 1, _, hk => by simp at hk
 | x :: r, k + 1, h, hk => by
  have h0 := h 0 (by simp) (by omega)
  rw [Tm.putIn, if_neg (by simpa using h0), List.take_succ_cons, List.drop_succ_cons, List.cons_append]
  congr 1
  exact putIn_take (fun j hj hjk => by have := h (j + 1) (by simpa using hj) (by omega); simpa using this) (by simpa using hk)
structure WithAt (c : ByteArray → ByteArray → Int) (e : ByteArray × ByteArray) (l : Tm.Ents) (k : Nat) (done : Bool) (out : Tm.Ents) : Prop where
 no : done = false → out = l.take k ∧ ∀ j (hj : j < l.length), j < k → ¬ c e.1 (l[j]).1 < 0
 yes : done = true → out ++ l.drop k = Tm.putIn (Tm.ByKey c) e l
theorem WithAt.start (c : ByteArray → ByteArray → Int) (e : ByteArray × ByteArray) (l : Tm.Ents) : WithAt c e l 0 false [] := ⟨fun _ => ⟨rfl, fun j _ hj => by omega⟩, fun h => (by cases h)⟩
theorem WithAt.keep {c : ByteArray → ByteArray → Int} {e : ByteArray × ByteArray} {l : Tm.Ents} {k : Nat} {out : Tm.Ents} (h : WithAt c e l k true out) (hk : k < l.length) : WithAt c e l (k + 1) true (out ++ [l[k]]) :=
 ⟨fun h => (by cases h), fun _ => by rw [← h.yes rfl, List.append_assoc, List.singleton_append, ← List.drop_eq_getElem_cons hk]⟩
theorem WithAt.pass {c : ByteArray → ByteArray → Int} {e : ByteArray × ByteArray} {l : Tm.Ents} {k : Nat} {out : Tm.Ents} (h : WithAt c e l k false out) (hk : k < l.length) (hc : ¬ c e.1 (l[k]).1 < 0) : WithAt c e l (k + 1) false (out ++ [l[k]]) :=
 ⟨fun _ => ⟨by rw [(h.no rfl).1, List.take_add_one, List.getElem?_eq_getElem hk]; rfl, fun j hj hjk => by
  by_cases e : j = k
  ·subst e; exact hc
  ·exact (h.no rfl).2 j hj (by omega)⟩, fun h => (by cases h)⟩
theorem WithAt.put {c : ByteArray → ByteArray → Int} {e : ByteArray × ByteArray} {l : Tm.Ents} {k : Nat} {out : Tm.Ents} (h : WithAt c e l k false out) (hk : k < l.length) (hc : c e.1 (l[k]).1 < 0) : WithAt c e l (k + 1) true (out ++ [e] ++ [l[k]]) :=
 ⟨fun h => (by cases h), fun _ => by
  rw [putIn_take (c := Tm.ByKey c) (k := k) (h.no rfl).2 (by omega), List.drop_eq_getElem_cons hk, Tm.putIn, if_pos (show Tm.ByKey c e l[k] < 0 from hc), (h.no rfl).1]
  simp⟩
theorem WithAt.end_no {c : ByteArray → ByteArray → Int} {e : ByteArray × ByteArray} {l out : Tm.Ents} (h : WithAt c e l l.length false out) : out ++ [e] = Tm.putIn (Tm.ByKey c) e l := by
 rw [putIn_take (c := Tm.ByKey c) (k := l.length) (h.no rfl).2 (Nat.le_refl _), (h.no rfl).1, List.drop_length]
 rfl
theorem WithAt.end_yes {c : ByteArray → ByteArray → Int} {e : ByteArray × ByteArray} {l out : Tm.Ents} (h : WithAt c e l l.length true out) : out = Tm.putIn (Tm.ByKey c) e l := by
 have := h.yes rfl
 rw [List.drop_length, List.append_nil] at this
 exact this
theorem rxCompare_any {w : World} {vT : Value} {st : Int} (sh : Bool) {lns : List Tm.Ln} (hT : TabOk w vT st lns) (a b : ByteArray) (ha : a.size ≤ 64) (hb : b.size ≤ 64) (W : World) (hW : Below w.heap.size w W) :
  Calls Tryz.prog 47 #[.agg #[vT, .int .i64 st, .bool sh], .string a, .string b] W fun e w' => e = .returned (.int .i64 (cmpOf lns st sh a b)) ∧ Below w.heap.size w w' := by
 refine (RefCompare_any vT st sh a b lns W (hT.rd.below hW) hT.fit hT.few hT.ok ha hb).mono ?_
 rintro e w' ⟨rfl, h⟩
 exact ⟨rfl, hW.trans (h.mono hW.size)⟩
set_option maxRecDepth 100000 in
set_option maxHeartbeats 8000000 in
theorem rxWith_any {X : Nat} {S : Nat → Prop} {by_ : Nat} {vT : Value} {st : Int} {sh : Bool} {lns : List Tm.Ln} {ds : List Tm.Deed} (l : Tm.Ents) (vl : Value) (ek ev : ByteArray) (w : World) (hT : TabOk w vT st lns) (hx : Rx w X S by_ vT st sh lns ds) (hl : Reads w vl 2 l.length (entCells l)) (hsh : ∀ e ∈ l, e.1.size ≤ 64) (hek : ek.size ≤ 64) (hfew : l.length ≤ 100000000) :
  Calls Tryz.prog 170 #[.pointer (some ⟨by_, 0, none⟩), vl, .agg #[.string ek, .string ev]] w fun e w' => ∃ v, e = .returned v ∧ w'.ownsRow w.heap.size 67 2 v (Tm.putIn (Tm.ByKey (cmpOf lns st sh)) (ek, ev) l).length (entCells (Tm.putIn (Tm.ByKey (cmpOf lns st sh)) (ek, ev) l)) ∧ Below w.heap.size w w' := by
 obtain ⟨i0, hi0, hz0, hzs, hzb⟩ := info_parts Tryz.infoEnt2
 obtain ⟨a, cap, rfl⟩ := hl.shape
 have hlb := (hx.from_ by_ hx.own).2
 obtain ⟨aT, capT, hvT⟩ := hT.rd.shape
 subst hvT
 have HT := hide hT
 have HL := hide hl
 have HSH := hide hsh
 have HC : Hid (w.cell? ⟨by_, 0, none⟩ = some (.slice aT lns.length capT) ∧ w.cell? ⟨by_, 1, none⟩ = some (.int .i64 st) ∧ w.cell? ⟨by_, 2, none⟩ = some (.bool sh)) := ⟨hx.c0, hx.c1, hx.c2⟩
 obtain ⟨n, hn⟩ : ∃ n, l.length = n := ⟨_, rfl⟩
 rw [hn] at hfew HL ⊢
 have HN := hide hn
 clear hT hx hl hsh hn
 have HW0 : Hid (Below w.heap.size w (w.alloc (.cells #[.string ek, .string ev] 67))) := (Below.refl _ _).alloc (Nat.le_refl _) _
 have HK : Hid (∀ W, Below (w.heap.size + 1) (w.alloc (.cells #[.string ek, .string ev] 67)) W → W.cell? ⟨by_, 0, none⟩ = some (.slice aT lns.length capT) ∧ W.cell? ⟨by_, 1, none⟩ = some (.int .i64 st) ∧ W.cell? ⟨by_, 2, none⟩ = some (.bool sh) ∧ W.cell? ⟨w.heap.size, 0, none⟩ = some (.string ek) ∧ W.cell? ⟨w.heap.size, 1, none⟩ = some (.string ev) ∧ Below w.heap.size w W) := fun W hW => by
  have hWr : Below w.heap.size w W := HW0.out.trans (hW.mono (by omega))
  refine ⟨by rw [hWr.cell (p := ⟨by_, 0, none⟩) hlb]; exact HC.out.1, by rw [hWr.cell (p := ⟨by_, 1, none⟩) hlb]; exact HC.out.2.1, by rw [hWr.cell (p := ⟨by_, 2, none⟩) hlb]; exact HC.out.2.2, ?_, ?_, hWr⟩
  ·rw [hW.cell (p := ⟨w.heap.size, 0, none⟩) (by simp), cell_new rfl]; rfl
  ·rw [hW.cell (p := ⟨w.heap.size, 1, none⟩) (by simp), cell_new rfl]; rfl
 go_enter Tryz.func170, Tryz.ntmps170
 go_wp2_with fail
 obtain ⟨W0, hW0⟩ : ∃ W0, w.alloc (.cells #[.string ek, .string ev] 67) = W0 := ⟨_, rfl⟩
 rw [hW0] at HK HW0 ⊢
 have hzW : W0.heap.size = w.heap.size + 1 := by rw [← hW0]; simp
 clear hW0
 go_loopw [7, 8, 9] (fun x d i wr => ∃ (k : Nat) (b : Bool) (out : Tm.Ents), k ≤ n ∧ i = .int .i64 k ∧ d = .bool b ∧ (∃ a' c', x = .slice a' out.length c') ∧ out.length ≤ k + 1 ∧ Hid (wr.ownsRow (w.heap.size + 1) 67 2 x out.length (entCells out)) ∧ Hid (WithAt (cmpOf lns st sh) (ek, ev) l k b out) ∧ Hid (Below (w.heap.size + 1) W0 wr)) (fun _ _ i _ => n - (intOf i).toNat)
 case atStart => exact ⟨0, false, [], Nat.zero_le _, rfl, rfl, ⟨_, _, rfl⟩, Nat.zero_le _, (by unfold Hid; exact World.ownsRow_nil _ _ _ _), WithAt.start _ _ _, Below.refl _ _⟩
 case round =>
  obtain ⟨k, b, out, hk, rfl, rfl, ⟨a', c', rfl⟩, hol, HO, HWA, HB⟩ := hrel
  obtain ⟨q0, q1, q2, q3, q4, hbw⟩ := HK.out wr HB.out
  have HBW := hide hbw
  have hzr : w.heap.size + 1 ≤ wr.heap.size := by have := HB.out.size; omega
  have hlr : by_ < wr.heap.size := by omega
  by_cases hlt : k < n
  ·have hkl : k < l.length := by rw [HN.out]; exact hlt
   obtain ⟨g, off, rfl, hg, x0, x1⟩ := ents_at (es := l) (by rw [HN.out]; exact HL.out.below hbw HL.out.2.1) hkl
   have hsk := HSH.out l[k] (List.getElem_mem hkl)
   have HE : Hid (∀ W, Below w.heap.size w W → W.cell? ⟨g, off + k * 2, none⟩ = some (.string (l[k]).1) ∧ W.cell? ⟨g, off + k * 2 + 1, none⟩ = some (.string (l[k]).2)) := fun W hW => by
    obtain ⟨g', off', he, _, z0, z1⟩ := ents_at (es := l) (by rw [HN.out]; exact HL.out.below hW HL.out.2.1) hkl
    cases he
    exact ⟨z0, z1⟩
   have HPASS := hide (fun h hc => WithAt.pass (c := cmpOf lns st sh) (e := (ek, ev)) (l := l) (k := k) (out := out) h hkl hc)
   have HPUT := hide (fun h hc => WithAt.put (c := cmpOf lns st sh) (e := (ek, ev)) (l := l) (k := k) (out := out) h hkl hc)
   have HKEEP := hide (fun h => WithAt.keep (c := cmpOf lns st sh) (e := (ek, ev)) (l := l) (k := k) (out := out) h hkl)
   generalize l[k] = y at *
   obtain ⟨yk, yv⟩ := y
   simp only at x0 x1 hsk HPASS HPUT HE
   have i1 : (0 : Int) ≤ (k : Int) := by omega
   have i2 : (k : Int) < (n : Int) := by omega
   have HCMP : Hid (Calls Tryz.prog 47 #[.agg #[.slice aT lns.length capT, .int .i64 st, .bool sh], .string ek, .string yk] wr.drew fun e w' => e = .returned (.int .i64 (cmpOf lns st sh ek yk)) ∧ Below wr.heap.size wr w') := by
    have hbd : Below wr.heap.size wr wr.drew := (Below.refl _ _).drew
    exact rxCompare_any sh (HT.out.below HBW.out) ek yk hek hsk wr.drew hbd
   clear hbw
   go_upto_region 6 with fail
   go_cut [10] from 17 to 28 (fun t wx => t = .int .i64 (cmpOf lns st sh ek yk) ∧ Hid (Below wr.heap.size wr wx))
   case first =>
    go_region_held3 (fun wx => wx.cell? ⟨by_, 0, none⟩ = some (.slice aT lns.length capT) ∧ wx.cell? ⟨by_, 1, none⟩ = some (.int .i64 st) ∧ wx.cell? ⟨by_, 2, none⟩ = some (.bool sh) ∧ wx.cell? ⟨w.heap.size, 0, none⟩ = some (.string ek) ∧ wx.cell? ⟨g, off + k * 2, none⟩ = some (.string yk)) (go_keep)
     (first | (go_at_call 47; refine HCMP.out.mono ?_; rintro e w1 ⟨rfl, hb1⟩; have u0 := (hb1.cell (p := ⟨by_, 0, none⟩) hlr).trans q0; have u1 := (hb1.cell (p := ⟨by_, 1, none⟩) hlr).trans q1; have u2 := (hb1.cell (p := ⟨by_, 2, none⟩) hlr).trans q2; have u3 := (hb1.cell (p := ⟨w.heap.size, 0, none⟩) (by simp only; omega)).trans q3; have u4 := (hb1.cell (p := ⟨g, off + k * 2, none⟩) hg).trans x0; have HB1 := hide hb1; clear hb1))
    all_goals (go_wp2_with fail; go_meet; exact ⟨rfl, HB1.out⟩)
   case rest =>
    obtain ⟨rfl, HBC⟩ := hcut
    have HBX : Hid (Below (w.heap.size + 1) W0 wc) := HB.out.trans (HBC.out.mono hzr)
    obtain ⟨_, _, _, r3, r4, _⟩ := HK.out wc HBX.out
    have y0 := (HBC.out.cell (p := ⟨g, off + k * 2, none⟩) hg).trans x0
    have y1 := (HBC.out.cell (p := ⟨g, off + k * 2 + 1, none⟩) hg).trans x1
    have HOC : Hid (wc.ownsRow (w.heap.size + 1) 67 2 (.slice a' out.length c') out.length (entCells out)) := ownsRow_same HO.out (fun g hg => HBC.out.block g (HO.out.lt g hg).2)
    have hzc : w.heap.size + 1 ≤ wc.heap.size := by have := HBC.out.size; omega
    have hgc : g < wc.heap.size := by have := HBC.out.size; omega
    have hwc : w.heap.size < wc.heap.size := by omega
    clear q0 q1 q2 q3 q4 x0 x1
    have HwcB := HBX
    cases b
    ·by_cases hc : cmpOf lns st sh ek yk < 0
     ·have HWN := hide (HPUT.out HWA.out hc)
      go_wp2_with (at_builtin; go_must (refine wpList_append_row rfl _ _ 50 50 rfl (w.heap.size + 1) 67 67 i0 (.agg #[.string ⟨#[]⟩, .string ⟨#[]⟩]) 2 32 Tryz.underlying50 Tryz.underlying50 hi0 hz0 hzs hzb rfl (by omega) _ _ _ rfl (HOC.out.alloc _) ⟨wc.heap.size, 0, none⟩ 1 1 [.string ek, .string ev] rfl rfl (news_two rfl) (by intro u hu; simp at hu; rcases hu with rfl | rfl <;> rfl) (by unfold maxLen; omega) (by omega) (by simp; omega) ?_))
      intro v8 w8 hown8 hgr8 _
      have HO8 : Hid (w8.ownsRow (w.heap.size + 1) 67 2 v8 (out ++ [(ek, ev)]).length (entCells (out ++ [(ek, ev)]))) := by
       unfold Hid
       rw [entCells_append, List.length_append]
       exact hown8
      have Hw8B : Hid (Below (w.heap.size + 1) W0 w8) := (HBX.out.alloc hzc _).grown hgr8 (by simp; omega) (fun q hq => (HOC.out.lt q hq).1)
      have hz8 : wc.heap.size + 1 ≤ w8.heap.size := by have := hgr8.size; simpa using this
      obtain ⟨_, _, _, r38, r48, hbw8⟩ := HK.out w8 Hw8B.out
      obtain ⟨z0, z1⟩ := HE.out w8 hbw8
      obtain ⟨a8, c8, hv8⟩ := (Reads.of_owns HO8.out).shape
      subst hv8
      clear hown8 hgr8 hbw8 y0 y1 r3 r4
      obtain ⟨o2, ho2⟩ : ∃ o2, out ++ [(ek, ev)] = o2 := ⟨_, rfl⟩
      have hok : out.length ≤ k := by rw [(HWA.out.no rfl).1, List.length_take]; omega
      have hol2 : o2.length ≤ k + 1 := by rw [← ho2]; simp; omega
      rw [ho2] at HO8 HWN ⊢
      clear ho2
      go_wp2_with (at_builtin; go_must (refine wpList_append_row rfl _ _ 50 50 rfl (w.heap.size + 1) 67 67 i0 (.agg #[.string ⟨#[]⟩, .string ⟨#[]⟩]) 2 32 Tryz.underlying50 Tryz.underlying50 hi0 hz0 hzs hzb rfl (by omega) _ _ _ rfl (HO8.out.alloc _) ⟨w8.heap.size, 0, none⟩ 1 1 [.string yk, .string yv] rfl rfl (news_two rfl) (by intro u hu; simp at hu; rcases hu with rfl | rfl <;> rfl) (by unfold maxLen; omega) (by omega) (by simp; omega) ?_))
      intro v9 w9 hown9 hgr9 _
      have HO9 : Hid (w9.ownsRow (w.heap.size + 1) 67 2 v9 (o2 ++ [(yk, yv)]).length (entCells (o2 ++ [(yk, yv)]))) := by
       unfold Hid
       rw [entCells_append, List.length_append]
       exact hown9
      have HB9 : Hid (Below (w.heap.size + 1) W0 w9) := (Hw8B.out.alloc (by omega) _).grown hgr9 (by simp; omega) (fun q hq => (HO8.out.lt q hq).1)
      obtain ⟨a9, c9, hv9⟩ := (Reads.of_owns HO9.out).shape
      subst hv9
      clear hown9 hgr9
      go_wp2
      go_roundw
      case rel => exact ⟨k + 1, true, o2 ++ [(yk, yv)], by omega, by go_num, rfl, ⟨_, _, by first | rfl | simp⟩, by simp; omega, by first | exact HO9.out | simpa using HO9.out, HWN.out, HB9.out⟩
      case measure => simp [intOf]; omega
     ·have HWN := hide (HPASS.out HWA.out hc)
      go_wp2_with (at_builtin; go_must (refine wpList_append_row rfl _ _ 50 50 rfl (w.heap.size + 1) 67 67 i0 (.agg #[.string ⟨#[]⟩, .string ⟨#[]⟩]) 2 32 Tryz.underlying50 Tryz.underlying50 hi0 hz0 hzs hzb rfl (by omega) _ _ _ rfl (HOC.out.alloc _) ⟨wc.heap.size, 0, none⟩ 1 1 [.string yk, .string yv] rfl rfl (news_two rfl) (by intro u hu; simp at hu; rcases hu with rfl | rfl <;> rfl) (by unfold maxLen; omega) (by omega) (by simp; omega) ?_))
      intro v9 w9 hown9 hgr9 _
      have HO9 : Hid (w9.ownsRow (w.heap.size + 1) 67 2 v9 (out ++ [(yk, yv)]).length (entCells (out ++ [(yk, yv)]))) := by
       unfold Hid
       rw [entCells_append, List.length_append]
       exact hown9
      have HB9 : Hid (Below (w.heap.size + 1) W0 w9) := (HwcB.out.alloc (by omega) _).grown hgr9 (by simp; omega) (fun q hq => (HOC.out.lt q hq).1)
      obtain ⟨a9, c9, hv9⟩ := (Reads.of_owns HO9.out).shape
      subst hv9
      clear hown9 hgr9
      go_wp2
      go_roundw
      case rel => exact ⟨k + 1, false, out ++ [(yk, yv)], by omega, by go_num, rfl, ⟨_, _, by first | rfl | simp⟩, by simp; omega, by first | exact HO9.out | simpa using HO9.out, HWN.out, HB9.out⟩
      case measure => simp [intOf]; omega
    ·have HWN := hide (HKEEP.out HWA.out)
     go_wp2_with (at_builtin; go_must (refine wpList_append_row rfl _ _ 50 50 rfl (w.heap.size + 1) 67 67 i0 (.agg #[.string ⟨#[]⟩, .string ⟨#[]⟩]) 2 32 Tryz.underlying50 Tryz.underlying50 hi0 hz0 hzs hzb rfl (by omega) _ _ _ rfl (HOC.out.alloc _) ⟨wc.heap.size, 0, none⟩ 1 1 [.string yk, .string yv] rfl rfl (news_two rfl) (by intro u hu; simp at hu; rcases hu with rfl | rfl <;> rfl) (by unfold maxLen; omega) (by omega) (by simp; omega) ?_))
     intro v9 w9 hown9 hgr9 _
     have HO9 : Hid (w9.ownsRow (w.heap.size + 1) 67 2 v9 (out ++ [(yk, yv)]).length (entCells (out ++ [(yk, yv)]))) := by
      unfold Hid
      rw [entCells_append, List.length_append]
      exact hown9
     have HB9 : Hid (Below (w.heap.size + 1) W0 w9) := (HwcB.out.alloc (by omega) _).grown hgr9 (by simp; omega) (fun q hq => (HOC.out.lt q hq).1)
     obtain ⟨a9, c9, hv9⟩ := (Reads.of_owns HO9.out).shape
     subst hv9
     clear hown9 hgr9
     go_wp2
     go_roundw
     case rel => exact ⟨k + 1, true, out ++ [(yk, yv)], by omega, by go_num, rfl, ⟨_, _, by first | rfl | simp⟩, by simp; omega, by first | exact HO9.out | simpa using HO9.out, HWN.out, HB9.out⟩
     case measure => simp [intOf]; omega
  ·have e : k = n := by omega
   subst e
   clear q0 q1 q2
   cases b
   ·have HWN : Hid (out ++ [(ek, ev)] = Tm.putIn (Tm.ByKey (cmpOf lns st sh)) (ek, ev) l) := by
     have := HWA.out
     rw [← HN.out] at this
     exact this.end_no
    go_wp2_with (at_builtin; go_must (refine wpList_append_row rfl _ _ 50 50 rfl (w.heap.size + 1) 67 67 i0 (.agg #[.string ⟨#[]⟩, .string ⟨#[]⟩]) 2 32 Tryz.underlying50 Tryz.underlying50 hi0 hz0 hzs hzb rfl (by omega) _ _ _ rfl (HO.out.alloc _) ⟨wr.heap.size, 0, none⟩ 1 1 [.string ek, .string ev] rfl rfl (news_two rfl) (by intro u hu; simp at hu; rcases hu with rfl | rfl <;> rfl) (by unfold maxLen; omega) (by omega) (by simp; omega) ?_))
    intro v9 w9 hown9 hgr9 _
    have HO9 : Hid (w9.ownsRow w.heap.size 67 2 v9 (Tm.putIn (Tm.ByKey (cmpOf lns st sh)) (ek, ev) l).length (entCells (Tm.putIn (Tm.ByKey (cmpOf lns st sh)) (ek, ev) l))) := by
     unfold Hid
     rw [← HWN.out, entCells_append, List.length_append]
     exact owns_mono hown9 (by omega)
    have HB9 : Hid (Below (w.heap.size + 1) W0 w9) := (HB.out.alloc hzr _).grown hgr9 (by simp; omega) (fun q hq => (HO.out.lt q hq).1)
    have HF9 := hide (HK.out w9 HB9.out).2.2.2.2.2
    obtain ⟨a9, c9, rfl⟩ := (Reads.of_owns hown9).shape
    clear hown9 hgr9
    go_wp2
    go_ret
    exact ⟨_, rfl, HO9.out, HF9.out⟩
   ·have HWN : Hid (out = Tm.putIn (Tm.ByKey (cmpOf lns st sh)) (ek, ev) l) := by
     have := HWA.out
     rw [← HN.out] at this
     exact this.end_yes
    have HO9 : Hid (wr.ownsRow w.heap.size 67 2 (.slice a' out.length c') (Tm.putIn (Tm.ByKey (cmpOf lns st sh)) (ek, ev) l).length (entCells (Tm.putIn (Tm.ByKey (cmpOf lns st sh)) (ek, ev) l))) := by
     unfold Hid
     rw [← HWN.out]
     exact owns_mono HO.out (by omega)
    go_wp2
    go_ret
    exact ⟨_, rfl, HO9.out, HBW.out⟩
theorem within_parts' (c : ByteArray → ByteArray → Int) (lo hi k v : ByteArray) : Tm.within c lo hi (k, v) = (decide (0 ≤ c k lo) && (decide (hi.size = 0) || decide (c k hi < 0))) := rfl
def rxScanAns (c : ByteArray → ByteArray → Int) (N : ByteArray → List Int) (ds : List Tm.Deed) (lo hi : ByteArray) (limit : Int) (w : World) (e : Ending) (w' : World) : Prop :=
 Below w.heap.size w w' ∧
 if 64 < lo.size ∨ 64 < hi.size then e = .returned (.tuple #[.slice none 0 0, .int .i64 7])
 else if limit < 0 then e = .returned (.tuple #[.slice none 0 0, .int .i64 10])
 else ∃ v, e = .returned (.tuple #[v, .int .i64 0]) ∧ Reads w' v 2 ((Tm.scanIn (Tm.ByKey c) (Tm.within c lo hi) (Tm.shownEs N ds)).take limit.toNat).length (entCells ((Tm.scanIn (Tm.ByKey c) (Tm.within c lo hi) (Tm.shownEs N ds)).take limit.toNat))
def scanTo (c : ByteArray → ByteArray → Int) (N : ByteArray → List Int) (ds : List Tm.Deed) (lo hi : ByteArray) (k : Nat) : Tm.Ents := Tm.scanIn (Tm.ByKey c) (Tm.within c lo hi) ((Tm.shownEs N ds).take k)
theorem scanTo_step (c : ByteArray → ByteArray → Int) (N : ByteArray → List Int) (ds : List Tm.Deed) (lo hi : ByteArray) {k : Nat} (hk : k < (Tm.shownEs N ds).length) : scanTo c N ds lo hi (k + 1) = if Tm.within c lo hi (Tm.shownEs N ds)[k] then Tm.putIn (Tm.ByKey c) (Tm.shownEs N ds)[k] (scanTo c N ds lo hi k) else scanTo c N ds lo hi k := by
 unfold scanTo
 rw [List.take_add_one, List.getElem?_eq_getElem hk]
 exact Tm.scanIn_snoc _ _ _ _
theorem scanTo_length (c : ByteArray → ByteArray → Int) (N : ByteArray → List Int) (ds : List Tm.Deed) (lo hi : ByteArray) : ∀ k, k ≤ (Tm.shownEs N ds).length → (scanTo c N ds lo hi k).length ≤ k
 | 0, _ => by simp [scanTo, Tm.scanIn]
 | k + 1, hk => by
  have ih := scanTo_length c N ds lo hi k (by omega)
  rw [scanTo_step c N ds lo hi (by omega)]
  split
  ·rw [Tm.putIn_length]; omega
  ·omega
theorem scanTo_mem {c : ByteArray → ByteArray → Int} {N : ByteArray → List Int} {ds : List Tm.Deed} {lo hi : ByteArray} {k : Nat} {e : ByteArray × ByteArray} (h : e ∈ scanTo c N ds lo hi k) : e ∈ Tm.shownEs N ds := List.mem_of_mem_take ((Tm.scanIn_mem _).1 h).1
set_option maxRecDepth 100000 in
set_option maxHeartbeats 8000000 in
theorem rxScan_any {X : Nat} {S : Nat → Prop} {by_ : Nat} {vT : Value} {st : Int} {sh : Bool} {lns : List Tm.Ln} {ds : List Tm.Deed} (lo hi : ByteArray) (limit : Int) (w : World) (hT : TabOk w vT st lns) (hx : Rx w X S by_ vT st sh lns ds) (hlim : -9223372036854775808 ≤ limit ∧ limit ≤ 9223372036854775807) (hfew : ds.length ≤ 90000000) :
  Calls Tryz.prog 137 #[.pointer (some ⟨by_, 0, none⟩), .int .i64 0, .string lo, .string hi, .int .i64 limit] w fun e w' => rxScanAns (cmpOf lns st sh) (normOf lns) ds lo hi limit w e w' := by
 obtain ⟨l1, l2⟩ := hlim
 obtain ⟨vd, vs, c3, hown, hrd, hg, hgs⟩ := hx.deeds
 obtain ⟨a, cap, rfl⟩ := hrd.row.shape
 have hl := (hx.from_ by_ hx.own).2
 obtain ⟨aT, capT, hvT⟩ := hT.rd.shape
 subst hvT
 have hcs : RxCells w by_ (.slice aT lns.length capT) st sh (.slice a ds.length cap) := ⟨hx.c0, hx.c1, hx.c2, c3⟩
 have HT := hide hT
 have HX := hide hx
 have HRD := hide hrd
 have HCS := hide hcs
 have HSH := hide hx.short
 have c30 := hcs.2.2.2
 clear hT hx hrd hcs c3 hg hgs hown
 by_cases hlong : 64 < lo.size ∨ 64 < hi.size
 ·have HANS : Hid (rxScanAns (cmpOf lns st sh) (normOf lns) ds lo hi limit w (.returned (.tuple #[.slice none 0 0, .int .i64 7])) w) := ⟨Below.refl _ _, by rw [if_pos hlong]⟩
  by_cases hk : 64 < lo.size
  ·have i1 : (64 : Int) < (lo.size : Int) := by omega
   go_enter Tryz.func137, Tryz.ntmps137
   go_wp2
   go_ret2
   exact HANS.out
  ·have i1 : ¬ (64 : Int) < (lo.size : Int) := by omega
   have i2 : (64 : Int) < (hi.size : Int) := by omega
   go_enter Tryz.func137, Tryz.ntmps137
   go_wp2
   go_ret2
   exact HANS.out
 ·have hlo : lo.size ≤ 64 := by omega
  have hhi : hi.size ≤ 64 := by omega
  have i1 : ¬ (64 : Int) < (lo.size : Int) := by omega
  have i2 : ¬ (64 : Int) < (hi.size : Int) := by omega
  by_cases hneg : limit < 0
  ·have HANS : Hid (rxScanAns (cmpOf lns st sh) (normOf lns) ds lo hi limit w (.returned (.tuple #[.slice none 0 0, .int .i64 10])) w) := ⟨Below.refl _ _, by rw [if_neg hlong, if_pos hneg]⟩
   go_enter Tryz.func137, Tryz.ntmps137
   go_wp2
   go_ret2
   exact HANS.out
  ·obtain ⟨q, rfl⟩ : ∃ q : Nat, limit = q := ⟨limit.toNat, by omega⟩
   go_enter Tryz.func137, Tryz.ntmps137
   go_wp2_with fail
   refine (rxShown_any HT.out.fit _ HX.out (by omega)).mono ?_
   rintro e w1 ⟨v1, rfl, hown1, hb1⟩
   have HB1 := hide hb1
   have hz1 := hb1.size
   have HR1 := hide (Reads.of_owns hown1)
   obtain ⟨a1, cap1, rfl⟩ := (Reads.of_owns hown1).shape
   have HT1 := hide (HT.out.below hb1)
   have HX1 := hide (HX.out.below hb1)
   have HRD1 := hide (HRD.out.below hb1)
   have HCS1 := hide (HCS.out.below hl hb1)
   have hl1 : by_ < w1.heap.size := by omega
   have hsl : (Tm.shownEs (normOf lns) ds).length = (Tm.shownD (normOf lns) ds).length := by simp [Tm.shownEs]
   have hcnt : (Tm.shownD (normOf lns) ds).length ≤ ds.length := by
    have := List.length_filter_le (Tm.shownIs (Tm.formsD (normOf lns) ds) (Tm.goneD ds) ds.length) (List.range ds.length)
    simpa [Tm.shownD, Tm.shownAt] using this
   -- each place that is shown
   have HAT : Hid (∀ k (hk : k < (Tm.shownD (normOf lns) ds).length), ∃ i ek ev dg, (natInts (Tm.shownD (normOf lns) ds))[k]? = some (.int .i64 (i : Nat)) ∧ i < ds.length ∧ (∃ h : i < ds.length, ds[i] = (ek, ev, dg)) ∧ (∃ h : k < (Tm.shownEs (normOf lns) ds).length, (Tm.shownEs (normOf lns) ds)[k] = (ek, ev)) ∧ ek.size ≤ 64) := fun k hk => by
    have hm : (Tm.shownD (normOf lns) ds)[k] ∈ Tm.shownD (normOf lns) ds := List.getElem_mem hk
    obtain ⟨hi', _, _⟩ := Tm.mem_shownD.1 hm
    refine ⟨(Tm.shownD (normOf lns) ds)[k], _, _, _, by simp [natInts, hk], hi', ⟨hi', rfl⟩, ⟨by rw [hsl]; exact hk, ?_⟩, (HSH.out _ (List.getElem_mem hi')).1⟩
    simp [Tm.shownEs, Tm.dAt_get hi']
   obtain ⟨m, hm⟩ : ∃ m, (Tm.shownD (normOf lns) ds).length = m := ⟨_, rfl⟩
   have HM := hide hm
   rw [hm] at HR1 HAT hsl hcnt ⊢
   have HSL := hide hsl
   clear hb1 hown1 hm c30 hsl
   go_wp2_with fail
   go_loopw [14, 16] (fun x i wr => ∃ k : Nat, k ≤ m ∧ i = .int .i64 k ∧ (∃ a' c', x = .slice a' (scanTo (cmpOf lns st sh) (normOf lns) ds lo hi k).length c') ∧ Hid (Reads wr x 2 (scanTo (cmpOf lns st sh) (normOf lns) ds lo hi k).length (entCells (scanTo (cmpOf lns st sh) (normOf lns) ds lo hi k))) ∧ Hid (Below w1.heap.size w1 wr)) (fun _ i _ => m - (intOf i).toNat)
   case atStart => exact ⟨0, Nat.zero_le _, rfl, ⟨_, _, rfl⟩, (by unfold Hid; exact Reads.of_owns (World.ownsRow_nil w1 0 67 2)), Below.refl _ _⟩
   case round =>
    obtain ⟨k, hk, rfl, ⟨a', c', rfl⟩, HO, HB⟩ := hrel
    have hol := scanTo_length (cmpOf lns st sh) (normOf lns) ds lo hi k (by rw [HSL.out]; exact hk)
    have HOSH : Hid (∀ e ∈ scanTo (cmpOf lns st sh) (normOf lns) ds lo hi k, e.1.size ≤ 64) := fun e he => by
     obtain ⟨i, hi', he', _⟩ := Tm.mem_shownEs.1 (scanTo_mem he)
     have := (HSH.out _ (List.getElem_mem hi')).1
     rw [he'] at this
     exact this
    have hzr : w1.heap.size ≤ wr.heap.size := HB.out.size
    by_cases hlt : k < m
    ·obtain ⟨i, ek, ev, dg, hn, hil, ⟨h1, e1⟩, ⟨h2, e2⟩, hek⟩ := HAT.out k hlt
     obtain ⟨g1, off1, _, he1, hg1, hc1⟩ := HR1.out.form (by rw [natInts_length, HM.out]; omega)
     cases he1
     have hcell := hc1 k _ hn
     obtain ⟨g, off, vv, he2, hg, x0, x1, x2, x3, hrv⟩ := HRD1.out.at hil
     obtain ⟨av, cv, hvv⟩ := hrv.shape
     subst he2
     subst hvv
     generalize (normOf lns (ds[i]).1).length = nv at x3
     clear hrv
     rw [e1] at x0 x1 x2
     simp only at x0 x1 x2
     have HST : Hid (scanTo (cmpOf lns st sh) (normOf lns) ds lo hi (k + 1) = if Tm.within (cmpOf lns st sh) lo hi (ek, ev) then Tm.putIn (Tm.ByKey (cmpOf lns st sh)) (ek, ev) (scanTo (cmpOf lns st sh) (normOf lns) ds lo hi k) else scanTo (cmpOf lns st sh) (normOf lns) ds lo hi k) := by
      unfold Hid
      rw [scanTo_step _ _ _ _ _ h2, e2]
     generalize scanTo (cmpOf lns st sh) (normOf lns) ds lo hi k = out at *
     obtain ⟨p0, p1, p2, p3⟩ := HCS1.out.below hl1 HB.out
     have y0 := (HB.out.cell (p := ⟨g1, off1 + k, none⟩) hg1).trans hcell
     have z0 := (HB.out.cell (p := ⟨g, off + i * 4, none⟩) hg).trans x0
     have z1 := (HB.out.cell (p := ⟨g, off + i * 4 + 1, none⟩) hg).trans x1
     have z2 := (HB.out.cell (p := ⟨g, off + i * 4 + 2, none⟩) hg).trans x2
     have z3 := (HB.out.cell (p := ⟨g, off + i * 4 + 3, none⟩) hg).trans x3
     have hlr : by_ < wr.heap.size := by omega
     have hgr1 : g1 < wr.heap.size := by omega
     have hgr : g < wr.heap.size := by omega
     have j1 : (0 : Int) ≤ (k : Int) := by omega
     have j2 : (k : Int) < (m : Int) := by omega
     have j3 : (0 : Int) ≤ (i : Int) := by omega
     have j4 : (i : Int) < (ds.length : Int) := by omega
     clear hcell hc1 x0 x1 x2 x3 e1 e2 h1 h2 hn p0 p1 p2
     go_upto_region 16 with fail
     go_cut [17] from 59 to 68 (fun t wx => t = .pointer (some ⟨wr.heap.size, 0, none⟩) ∧ wx.cell? ⟨wr.heap.size, 0, none⟩ = some (.string ek) ∧ wx.cell? ⟨wr.heap.size, 1, none⟩ = some (.string ev) ∧ wr.heap.size < wx.heap.size ∧ Hid (Below wr.heap.size wr wx))
     case first =>
      go_region
      all_goals (go_wp2_with fail; go_meet; exact ⟨rfl, by (show (World.alloc wr _).cell? _ = _; rw [cell_new (by simp)]; rfl), by (show (World.alloc wr _).cell? _ = _; rw [cell_new (by simp)]; rfl), by simp, by first | exact ((Below.refl _ _).alloc (Nat.le_refl _) _).drew | exact (Below.refl _ _).drew.alloc (by simp) _⟩)
     case rest =>
      obtain ⟨rfl, d0, d1, hzc, HBC⟩ := hcut
      obtain ⟨wA, rfl⟩ : ∃ wA, wA = wc := ⟨_, rfl⟩
      have HBW := hide (HB.out.trans (HBC.out.mono HB.out.size))
      have HKK : Hid (∀ W, Below wA.heap.size wA W → W.cell? ⟨by_, 0, none⟩ = some (.slice aT lns.length capT) ∧ W.cell? ⟨by_, 1, none⟩ = some (.int .i64 st) ∧ W.cell? ⟨by_, 2, none⟩ = some (.bool sh) ∧ W.cell? ⟨wr.heap.size, 0, none⟩ = some (.string ek) ∧ W.cell? ⟨wr.heap.size, 1, none⟩ = some (.string ev) ∧ Below w1.heap.size w1 W) := fun W hW => by
       have hW1 := HBW.out.trans (hW.mono HBW.out.size)
       obtain ⟨r0, r1, r2, _⟩ := HCS1.out.below hl1 hW1
       exact ⟨r0, r1, r2, by rw [hW.cell (p := ⟨wr.heap.size, 0, none⟩) hzc]; exact d0, by rw [hW.cell (p := ⟨wr.heap.size, 1, none⟩) hzc]; exact d1, hW1⟩
      have HCM : Hid (∀ W s', s'.size ≤ 64 → Below wA.heap.size wA W → Calls Tryz.prog 47 #[.agg #[.slice aT lns.length capT, .int .i64 st, .bool sh], .string ek, .string s'] W fun e w' => e = .returned (.int .i64 (cmpOf lns st sh ek s')) ∧ Below wA.heap.size wA w' ∧ w'.cell? ⟨by_, 0, none⟩ = some (.slice aT lns.length capT) ∧ w'.cell? ⟨by_, 1, none⟩ = some (.int .i64 st) ∧ w'.cell? ⟨by_, 2, none⟩ = some (.bool sh) ∧ w'.cell? ⟨wr.heap.size, 0, none⟩ = some (.string ek)) := fun W s' hs' hW => by
       refine (rxCompare_any sh (HT1.out.below HBW.out) ek s' hek hs' W hW).mono ?_
       rintro e w' ⟨rfl, hb⟩
       obtain ⟨r0, r1, r2, r3, _, _⟩ := HKK.out w' hb
       exact ⟨rfl, hb, r0, r1, r2, r3⟩
      obtain ⟨r0, r1, r2, _, _, _⟩ := HKK.out wA (Below.refl _ _)
      clear y0 z0 z1 z2 z3 p3
      go_upto_region 17 with fail
      go_cut [18] from 69 to 76 (fun t wx => t = .int .i64 (cmpOf lns st sh ek lo) ∧ Hid (Below wA.heap.size wA wx))
      case first =>
       go_region_held3 (fun wx => wx.cell? ⟨by_, 0, none⟩ = some (.slice aT lns.length capT) ∧ wx.cell? ⟨by_, 1, none⟩ = some (.int .i64 st) ∧ wx.cell? ⟨by_, 2, none⟩ = some (.bool sh) ∧ wx.cell? ⟨wr.heap.size, 0, none⟩ = some (.string ek)) (go_keep)
        (first | (go_at_call 47; refine (HCM.out _ lo hlo (Below.refl _ _).drew).mono ?_; rintro e w2 ⟨rfl, hb2, u0, u1, u2, u3⟩; have HB2 := hide hb2; clear hb2))
       all_goals (go_wp2_with fail; go_meet; exact ⟨rfl, HB2.out⟩)
      case rest =>
       obtain ⟨rfl, HBC2⟩ := hcut
       obtain ⟨wB, rfl⟩ : ∃ wB, wB = wc := ⟨_, rfl⟩
       obtain ⟨s0, s1, s2, s3, _, _⟩ := HKK.out wB HBC2.out
       clear r0 r1 r2
       go_upto_region 18 with fail
       go_cut [19] from 77 to 84 (fun t wx => t = .int .i64 (cmpOf lns st sh ek hi) ∧ Hid (Below wA.heap.size wA wx))
       case first =>
        go_region_held3 (fun wx => wx.cell? ⟨by_, 0, none⟩ = some (.slice aT lns.length capT) ∧ wx.cell? ⟨by_, 1, none⟩ = some (.int .i64 st) ∧ wx.cell? ⟨by_, 2, none⟩ = some (.bool sh) ∧ wx.cell? ⟨wr.heap.size, 0, none⟩ = some (.string ek)) (go_keep)
         (first | (go_at_call 47; refine (HCM.out _ hi hhi HBC2.out.drew).mono ?_; rintro e w2 ⟨rfl, hb2, u0, u1, u2, u3⟩; have HB2 := hide hb2; clear hb2))
        all_goals (go_wp2_with fail; go_meet; exact ⟨rfl, HB2.out⟩)
       case rest =>
        obtain ⟨rfl, HBC3⟩ := hcut
        obtain ⟨wC, rfl⟩ : ∃ wC, wC = wc := ⟨_, rfl⟩
        obtain ⟨_, _, _, t3, t4, hbwC⟩ := HKK.out wC HBC3.out
        have HBWC := hide hbwC
        have HOC : Hid (Reads wC (.slice a' out.length c') 2 out.length (entCells out)) := by
         have h9 := HO.out.below HBC.out HO.out.2.1
         exact h9.below (HBC3.out.mono (Nat.le_refl _)) h9.2.1
        clear s0 s1 s2 s3 hbwC d0 d1
        have HCL := hide (within_parts' (cmpOf lns st sh) lo hi ek ev)
        generalize cmpOf lns st sh ek lo = clo at *
        generalize cmpOf lns st sh ek hi = chi at *
        by_cases hw : Tm.within (cmpOf lns st sh) lo hi (ek, ev) = true
        ·have HS1 : Hid (scanTo (cmpOf lns st sh) (normOf lns) ds lo hi (k + 1) = Tm.putIn (Tm.ByKey (cmpOf lns st sh)) (ek, ev) out) := by
          have := HST.out
          rw [if_pos hw] at this
          exact this
         have hcl := HCL.out
         rw [hw] at hcl
         have hcl2 := hcl.symm
         simp only [Bool.and_eq_true, Bool.or_eq_true, decide_eq_true_eq] at hcl2
         obtain ⟨hclo, hor⟩ := hcl2
         have hlrC : by_ < wC.heap.size := by have := HBWC.out.size; omega
         have HNX : Hid (∀ v w9, w9.ownsRow wC.heap.size 67 2 v (Tm.putIn (Tm.ByKey (cmpOf lns st sh)) (ek, ev) out).length (entCells (Tm.putIn (Tm.ByKey (cmpOf lns st sh)) (ek, ev) out)) → Below wC.heap.size wC w9 → (∃ a' c', v = .slice a' (scanTo (cmpOf lns st sh) (normOf lns) ds lo hi (k + 1)).length c') ∧ Reads w9 v 2 (scanTo (cmpOf lns st sh) (normOf lns) ds lo hi (k + 1)).length (entCells (scanTo (cmpOf lns st sh) (normOf lns) ds lo hi (k + 1))) ∧ Below w1.heap.size w1 w9) := fun v w9 ho hb => by
          rw [HS1.out]
          exact ⟨(Reads.of_owns ho).shape, Reads.of_owns ho, HBWC.out.trans (hb.mono HBWC.out.size)⟩
         clear hcl
         by_cases h0 : hi.size = 0
         ·have he : (hi.toList == []) = true := by
           obtain ⟨⟨q⟩⟩ := hi
           simp [ByteArray.size] at h0
           subst h0
           rw [Go.ByteArray.toList_eq]
           rfl
          clear h0 hor
          go_wp2_with fail
          refine (rxWith_any out _ ek ev _ (HT1.out.below HBWC.out) (HX1.out.below HBWC.out) HOC.out HOSH.out hek (by omega)).mono ?_
          rintro e w9 ⟨v9, rfl, hown9, hb9⟩
          obtain ⟨⟨a9, c9, rfl⟩, hr9, hbw9⟩ := HNX.out v9 w9 hown9 hb9
          have HR9 := hide hr9
          have HBW9 := hide hbw9
          clear hown9 hb9 hr9 hbw9
          go_wp2
          go_roundw
          case rel => exact ⟨k + 1, by omega, by go_num, ⟨_, _, rfl⟩, HR9.out, HBW9.out⟩
          case measure => simp [intOf]; omega
         ·have hchi : chi < 0 := by
           rcases hor with h | h
           ·exact absurd h h0
           ·exact h
          have he : (hi.toList == []) = false := by
           obtain ⟨⟨q⟩⟩ := hi
           rw [Go.ByteArray.toList_eq]
           cases q with
           | nil => simp [ByteArray.size] at h0
           | cons x r => rfl
          go_wp2_with fail
          refine (rxWith_any out _ ek ev _ (HT1.out.below HBWC.out) (HX1.out.below HBWC.out) HOC.out HOSH.out hek (by omega)).mono ?_
          rintro e w9 ⟨v9, rfl, hown9, hb9⟩
          obtain ⟨⟨a9, c9, rfl⟩, hr9, hbw9⟩ := HNX.out v9 w9 hown9 hb9
          have HR9 := hide hr9
          have HBW9 := hide hbw9
          clear hown9 hb9 hr9 hbw9
          go_wp2
          go_roundw
          case rel => exact ⟨k + 1, by omega, by go_num, ⟨_, _, rfl⟩, HR9.out, HBW9.out⟩
          case measure => simp [intOf]; omega
        ·have HS1 : Hid (scanTo (cmpOf lns st sh) (normOf lns) ds lo hi (k + 1) = out) := by
          have := HST.out
          rw [if_neg hw] at this
          exact this
         have hcl := HCL.out
         have hwf : Tm.within (cmpOf lns st sh) lo hi (ek, ev) = false := by simpa using hw
         rw [hwf] at hcl
         have HRN : Hid ((∃ a9 c9, Value.slice a' out.length c' = .slice a9 (scanTo (cmpOf lns st sh) (normOf lns) ds lo hi (k + 1)).length c9) ∧ Reads wC (.slice a' out.length c') 2 (scanTo (cmpOf lns st sh) (normOf lns) ds lo hi (k + 1)).length (entCells (scanTo (cmpOf lns st sh) (normOf lns) ds lo hi (k + 1)))) := by
          unfold Hid
          rw [HS1.out]
          exact ⟨⟨_, _, rfl⟩, HOC.out⟩
         by_cases hclo : 0 ≤ clo
         ·have hor : hi.size ≠ 0 ∧ ¬ chi < 0 := by
           rw [decide_eq_true hclo, Bool.true_and] at hcl
           have := hcl.symm
           simpa using this
          obtain ⟨h0, hchi⟩ := hor
          have he : (hi.toList == []) = false := by
           obtain ⟨⟨q⟩⟩ := hi
           rw [Go.ByteArray.toList_eq]
           cases q with
           | nil => simp [ByteArray.size] at h0
           | cons x r => rfl
          clear hcl hwf
          go_wp2
          go_roundw
          case rel => exact ⟨k + 1, by omega, by go_num, HRN.out.1, HRN.out.2, HBWC.out⟩
          case measure => simp [intOf]; omega
         ·clear hcl hwf
          go_wp2
          go_roundw
          case rel => exact ⟨k + 1, by omega, by go_num, HRN.out.1, HRN.out.2, HBWC.out⟩
          case measure => simp [intOf]; omega
    ·have e : k = m := by omega
     subst e
     have HFIN : Hid (scanTo (cmpOf lns st sh) (normOf lns) ds lo hi k = Tm.scanIn (Tm.ByKey (cmpOf lns st sh)) (Tm.within (cmpOf lns st sh) lo hi) (Tm.shownEs (normOf lns) ds)) := by
      unfold Hid scanTo
      rw [List.take_of_length_le (by rw [HSL.out]; exact Nat.le_refl _)]
     have HBF : Hid (Below w.heap.size w wr) := HB1.out.trans (HB.out.mono hz1)
     generalize scanTo (cmpOf lns st sh) (normOf lns) ds lo hi k = out at *
     obtain ⟨L, hL⟩ : ∃ L, out.length = L := ⟨_, rfl⟩
     have HLL := hide hL
     rw [hL] at HO hol ⊢
     clear hL
     by_cases hgt : q < L
     ·have i3 : (q : Int) < (L : Int) := by omega
      have HANS : Hid (rxScanAns (cmpOf lns st sh) (normOf lns) ds lo hi q w (.returned (.tuple #[.slice a' q c', .int .i64 0])) wr) := by
       refine ⟨HBF.out, ?_⟩
       rw [if_neg hlong, if_neg (by omega), ← HFIN.out, Int.toNat_natCast]
       refine ⟨_, rfl, ?_⟩
       have h9 := HO.out.upTo (j := q) (by omega)
       have e9 : entCells (out.take q) = (entCells out).take (q * 2) := by
        have h1 : entCells out = entCells (out.take q) ++ entCells (out.drop q) := by rw [← entCells_append, List.take_append_drop]
        conv => rhs; rw [h1]
        exact (List.take_left' (by rw [entCells_length, List.length_take, HLL.out]; omega)).symm
       rw [e9, List.length_take, HLL.out, Nat.min_eq_left (by omega)]
       exact h9
      have i4 : (0 : Int) ≤ (q : Int) := by omega
      have hcapq : (q : Int) ≤ (c' : Int) := by have := HO.out.fits; omega
      go_wp2
      go_ret2
      exact HANS.out
     ·have i3 : ¬ (q : Int) < (L : Int) := by omega
      have HANS : Hid (rxScanAns (cmpOf lns st sh) (normOf lns) ds lo hi q w (.returned (.tuple #[.slice a' L c', .int .i64 0])) wr) := by
       refine ⟨HBF.out, ?_⟩
       rw [if_neg hlong, if_neg (by omega), ← HFIN.out, Int.toNat_natCast]
       refine ⟨_, rfl, ?_⟩
       rw [List.take_of_length_le (by rw [HLL.out]; omega), HLL.out]
       exact HO.out
      go_wp2
      go_ret2
      exact HANS.out
theorem Tryz.infoDeed : (Tryz.prog.info? 258).map (fun i => (i.zero, i.size, i.bytes)) = some (some (.agg #[.string ⟨#[]⟩, .string ⟨#[]⟩, .bool false, .slice none 0 0]), 4, 64) := by kernel_rfl
theorem Rx.grow {w w1 w' : World} {X : Nat} {S : Nat → Prop} {by_ : Nat} {vT vd v' vn : Value} {vs : List Value} {st : Int} {sh : Bool} {lns : List Tm.Ln} {ds : List Tm.Deed} {d : Tm.Deed} {o : Obj} (h : Rx w X S by_ vT st sh lns ds) (hb : Below w.heap.size w w1) (hX : X ≤ w.heap.size) (hc : w.cell? ⟨by_, 3, none⟩ = some vd) (hrd : DeedsRd w lns vd vs ds) (hg : ∀ g, vd.ownBlock = some g → S g ∧ g ≠ by_) (hgs : ∀ k (h : k < vs.length), ∀ g, (vs[k]).ownBlock = some g → S g ∧ g ≠ by_ ∧ vd.ownBlock ≠ some g)
  (hvn : Reads w1 vn 1 (normOf lns d.1).length (ints (normOf lns d.1))) (hvnf : ∀ g, vn.ownBlock = some g → w.heap.size ≤ g) (hd : d.1.size ≤ 64 ∧ d.2.1.size ≤ 64)
  (hown : w'.ownsRow X 258 4 v' (ds.length + 1) (deedCells ds vs ++ [.string d.1, .string d.2.1, .bool d.2.2, vn])) (hgr : (w1.alloc o).grownBy w' vd.ownBlock) (hat : v'.ownBlock = vd.ownBlock ∨ v'.ownBlock = some (w1.alloc o).heap.size) :
  w'.cell? ⟨by_, 3, none⟩ = some vd ∧ w'.frozen? ⟨by_, 3, none⟩ = false ∧ by_ < w'.heap.size ∧ RxStep w (w'.setCell ⟨by_, 3, none⟩ v') X S by_ vT st sh lns (ds ++ [d]) := by
 have hl := (h.from_ by_ h.own).2
 have hz := hb.size
 have hz' : w1.heap.size + 1 ≤ w'.heap.size := by have := hgr.size; simpa using this
 have hneb : vd.ownBlock ≠ some by_ := fun e => (hg by_ e).2 rfl
 have hbk : ∀ k, k < w.heap.size → vd.ownBlock ≠ some k → w'.heap[k]? = w.heap[k]? := fun k hk hne => by
  rw [hgr.block k (by simp; omega) (fun e => hne e.symm), Below.heap_alloc _ _ _ (by omega), hb.block k hk]
 have hby := hbk by_ hl hneb
 have hv' : ∀ g, v'.ownBlock = some g → vd.ownBlock = some g ∨ g = w1.heap.size + 1 := fun g e => by
  rcases hat with e' | e'
  ·exact .inl (by rw [← e']; exact e)
  ·rw [e'] at e; simp at e; exact .inr e.symm
 have hneb' : v'.ownBlock ≠ some by_ := fun e => by
  rcases hv' by_ e with e | e
  ·exact hneb e
  ·omega
 have hf0 : Foot S w w' := ((Foot.of (S := S) hb).alloc o).grown hgr (fun k e => .inl (hg k e).1)
 have hf : Foot S w (w'.setCell ⟨by_, 3, none⟩ v') := Foot.setCell (p := ⟨by_, 3, none⟩) hf0 (.inl h.own) _
 have hvnlt := hvn.2.1
 have hlen : (vs ++ [vn]).length = (ds ++ [d]).length := by simp [hrd.len]
 -- the blocks of the forms are as they were
 have hform : ∀ k, k < w'.heap.size → k ≠ by_ → v'.ownBlock ≠ some k → vd.ownBlock ≠ some k → k < w1.heap.size → (w'.setCell ⟨by_, 3, none⟩ v').heap[k]? = w1.heap[k]? := fun k _ hne hn1 hn2 hk1 => by
  rw [Below.heap_setCell _ _ _ _ hne, hgr.block k (by simp; omega) (fun e => hn2 e.symm), Below.heap_alloc _ _ _ hk1]
 refine ⟨by rw [World.cell?_of_block (a := ⟨by_, 3, none⟩) hby]; exact hc, by rw [World.frozen?_of_block (a := ⟨by_, 3, none⟩) hby]; exact h.free 3, by omega, fun i => S i ∨ v'.ownBlock = some i ∨ vn.ownBlock = some i, ⟨fun i hi => ?_, .inl h.own, ?_, ?_, ?_, ⟨v', vs ++ [vn], ?_, ?_, ⟨hlen, ?_, fun k hk => ?_⟩, fun g e => ⟨.inr (.inl e), fun e' => hneb' (e' ▸ e)⟩, fun k hk g e => ?_⟩, fun q => ?_, fun d' hd' => ?_⟩, hf, fun i hi => ?_⟩
 ·rcases hi with e | e | e
  ·exact ⟨(h.from_ i e).1, Nat.lt_of_lt_of_le (h.from_ i e).2 hf.size⟩
  ·have := hown.lt i e
   exact ⟨this.1, by simpa [World.setCell] using this.2⟩
  ·exact ⟨by have := hvnf i e; omega, by have := hvnlt i e; have := hf.size; simp [World.setCell]; omega⟩
 ·rw [World.cell?_setCell_other _ _ _ _ (by simp), World.cell?_of_block (a := ⟨by_, 0, none⟩) hby]; exact h.c0
 ·rw [World.cell?_setCell_other _ _ _ _ (by simp), World.cell?_of_block (a := ⟨by_, 1, none⟩) hby]; exact h.c1
 ·rw [World.cell?_setCell_other _ _ _ _ (by simp), World.cell?_of_block (a := ⟨by_, 2, none⟩) hby]; exact h.c2
 ·exact World.cell?_setCell_same _ _ _ ((World.cell?_of_block (a := ⟨by_, 3, none⟩) hby).trans hc)
 ·rw [deedCells_snoc hrd.len, List.length_append]
  exact ownsRow_same hown (fun g e => Below.heap_setCell _ _ _ _ (fun e9 => hneb' (by simp only at e9; rw [← e9]; exact e)))
 ·rw [deedCells_snoc hrd.len, List.length_append]
  exact Reads.of_owns (ownsRow_same hown (fun g e => Below.heap_setCell _ _ _ _ (fun e9 => hneb' (by simp only at e9; rw [← e9]; exact e))))
 ·rw [List.length_append, List.length_singleton] at hk
  by_cases e : k < ds.length
  ·have hkv : k < vs.length := by rw [hrd.len]; exact e
   have e1 : (vs ++ [vn])[k]'(by rw [hlen]; simp; omega) = vs[k] := List.getElem_append_left hkv
   have e2 : (ds ++ [d])[k]'(by simp; omega) = ds[k] := List.getElem_append_left e
   rw [e1, e2]
   have hr := hrd.forms k e
   refine hr.of_blocks hf.size (fun g hg' => ?_)
   obtain ⟨q1, q2, q3⟩ := hgs k hkv g hg'
   have hlt := hr.2.1 g hg'
   rw [Below.heap_setCell _ _ _ _ q2]
   exact hbk g hlt q3
  ·have ek : k = ds.length := by omega
   subst ek
   have e1 : (vs ++ [vn])[ds.length]'(by rw [hlen]; simp) = vn := by simp [← hrd.len]
   have e2 : (ds ++ [d])[ds.length]'(by simp) = d := by simp
   rw [e1, e2]
   refine hvn.of_blocks (by have := hf.size; simp [World.setCell]; omega) (fun g hg' => ?_)
   have hlt := hvnlt g hg'
   have hfr := hvnf g hg'
   refine hform g (by omega) (by omega) (fun e => ?_) (fun e => ?_) hlt
   ·rcases hv' g e with e | e
    ·have := (h.from_ g (hg g e).1).2; omega
    ·omega
   ·have := (h.from_ g (hg g e).1).2; omega
 ·rw [List.length_append, List.length_singleton] at hk
  by_cases e' : k < vs.length
  ·have e1 : (vs ++ [vn])[k]'(by simp; omega) = vs[k] := List.getElem_append_left e'
   rw [e1] at e
   obtain ⟨q1, q2, q3⟩ := hgs k e' g e
   refine ⟨.inl q1, q2, fun e2 => ?_⟩
   rcases hv' g e2 with e2 | e2
   ·exact q3 e2
   ·have := (h.from_ g q1).2; omega
  ·have ek : k = vs.length := by omega
   subst ek
   have e1 : (vs ++ [vn])[vs.length]'(by simp) = vn := by simp
   rw [e1] at e
   have hlt := hvnlt g e
   have hfr := hvnf g e
   refine ⟨.inr (.inr e), by omega, fun e2 => ?_⟩
   rcases hv' g e2 with e2 | e2
   ·have := (h.from_ g (hg g e2).1).2; omega
   ·omega
 ·rw [World.frozen?_setCell, World.frozen?_of_block (a := ⟨by_, q, none⟩) hby]; exact h.free q
 ·rcases List.mem_append.1 hd' with e | e
  ·exact h.short d' e
  ·rw [List.mem_singleton.1 e]; exact hd
 ·rcases hi with e | e | e
  ·exact .inl e
  ·rcases hv' i e with e | e
   ·exact .inl (hg i e).1
   ·exact .inr (by omega)
  ·exact .inr (hvnf i e)
theorem news_quad {w : World} {x y z u : Value} {t : TypeId} {H : Nat} (hH : w.heap.size = H) : ∀ j q, [x, y, z, u][j]? = some q → (w.alloc (.cells #[x, y, z, u] t)).cell? ((⟨H, 0, none⟩ : Addr).add j) = some q := by
 subst hH
 intro j q hj
 match j, hj with
 | 0, hj => simp at hj; subst hj; simp [Addr.add]
 | 1, hj => simp at hj; subst hj; simp [Addr.add]
 | 2, hj => simp at hj; subst hj; simp [Addr.add]
 | 3, hj => simp at hj; subst hj; simp [Addr.add]
def rxPutErr (N : ByteArray → List Int) (ds : List Tm.Deed) (k v : ByteArray) : Int := if 64 < k.size ∨ 64 < v.size then 7 else if Tm.thereD N ds k = false ∧ 64 ≤ (Tm.shownD N ds).length then 8 else 0
def rxPutSt (N : ByteArray → List Int) (ds : List Tm.Deed) (k v : ByteArray) : List Tm.Deed := if rxPutErr N ds k v = 0 then ds ++ [(k, v, false)] else ds
set_option maxRecDepth 100000 in
set_option maxHeartbeats 8000000 in
theorem rxPut_any {X : Nat} {S : Nat → Prop} {by_ : Nat} {vT : Value} {st : Int} {sh : Bool} {lns : List Tm.Ln} {ds : List Tm.Deed} (k v : ByteArray) (w : World) (hT : TabOk w vT st lns) (hx : Rx w X S by_ vT st sh lns ds) (hX : X ≤ w.heap.size) (hfew : ds.length ≤ 90000000) :
  Calls Tryz.prog 144 #[.pointer (some ⟨by_, 0, none⟩), .string k, .string v] w fun e w' => e = .returned (.int .i64 (rxPutErr (normOf lns) ds k v)) ∧ RxStep w w' X S by_ vT st sh lns (rxPutSt (normOf lns) ds k v) := by
 by_cases hlong : 64 < k.size ∨ 64 < v.size
 ·have HE : Hid (rxPutErr (normOf lns) ds k v = 7) := by unfold Hid rxPutErr; rw [if_pos hlong]
  have HANS : Hid (RxStep w w X S by_ vT st sh lns (rxPutSt (normOf lns) ds k v)) := by
   unfold Hid rxPutSt
   rw [HE.out, if_neg (by omega)]
   exact RxStep.of_below hx (Below.refl _ _)
  clear hT hx
  by_cases hk : 64 < k.size
  ·have i1 : (64 : Int) < (k.size : Int) := by omega
   go_enter Tryz.func144, Tryz.ntmps144
   go_wp2
   go_ret
   exact ⟨by rw [HE.out]; rfl, HANS.out⟩
  ·have i1 : ¬ (64 : Int) < (k.size : Int) := by omega
   have i2 : (64 : Int) < (v.size : Int) := by omega
   go_enter Tryz.func144, Tryz.ntmps144
   go_wp2
   go_ret
   exact ⟨by rw [HE.out]; rfl, HANS.out⟩
 ·have hk : k.size ≤ 64 := by omega
  have hv : v.size ≤ 64 := by omega
  obtain ⟨i0, hi0, hz0, hzs, hzb⟩ := info_parts Tryz.infoDeed
  obtain ⟨vd, vs, c3, hown, hrd, hg, hgs⟩ := hx.deeds
  obtain ⟨a, cap, rfl⟩ := hrd.row.shape
  have hl := (hx.from_ by_ hx.own).2
  have hcs : RxCells w by_ vT st sh (.slice a ds.length cap) := ⟨hx.c0, hx.c1, hx.c2, c3⟩
  obtain ⟨aT, capT, hvT⟩ := hT.rd.shape
  subst hvT
  have HT := hide hT
  have HX := hide hx
  have HRD := hide hrd
  have HCS := hide hcs
  have HC3 := hide c3
  have HG := hide hg
  have HGS := hide hgs
  have HOWN := hide hown
  have HPE : Hid (rxPutErr (normOf lns) ds k v = if Tm.thereD (normOf lns) ds k = false ∧ 64 ≤ (Tm.shownD (normOf lns) ds).length then 8 else 0) := by unfold Hid rxPutErr; rw [if_neg hlong]
  have i1 : ¬ (64 : Int) < (k.size : Int) := by omega
  have i2 : ¬ (64 : Int) < (v.size : Int) := by omega
  have hcnt : (Tm.shownD (normOf lns) ds).length ≤ ds.length := by
   have := List.length_filter_le (Tm.shownIs (Tm.formsD (normOf lns) ds) (Tm.goneD ds) ds.length) (List.range ds.length)
   simpa [Tm.shownD, Tm.shownAt] using this
  clear hT hx hrd hcs c3 hg hgs hown
  go_enter Tryz.func144, Tryz.ntmps144
  go_wp2_with fail
  refine (rxThere_any k _ HT.out HX.out hk (by omega)).mono ?_
  rintro e w1 ⟨rfl, hb1⟩
  have HB1 := hide hb1
  have hz1 := hb1.size
  have HX1 := hide (HX.out.below hb1)
  obtain ⟨_, _, _, p3⟩ := HCS.out.below hl hb1
  have hl1 : by_ < w1.heap.size := by omega
  clear hb1
  go_wp2_with fail
  refine (rxShown_any HT.out.fit _ HX1.out (by omega)).mono ?_
  rintro e w2 ⟨vs2, rfl, hown2, hb2⟩
  have HB2 := hide (HB1.out.trans (hb2.mono hz1))
  obtain ⟨a2, cap2, rfl⟩ := (Reads.of_owns hown2).shape
  have hz2 := HB2.out.size
  obtain ⟨q0, q1, q2, q3⟩ := HCS.out.below hl HB2.out
  have hl2 : by_ < w2.heap.size := by omega
  clear hb2 hown2 p3
  generalize (Tm.shownD (normOf lns) ds).length = cn at *
  generalize hth : Tm.thereD (normOf lns) ds k = th at *
  clear hth
  by_cases hfull : th = false ∧ 64 ≤ cn
  ·obtain ⟨h1, h2⟩ := hfull
   subst h1
   have hpe : rxPutErr (normOf lns) ds k v = 8 := by rw [HPE.out, if_pos ⟨rfl, h2⟩]
   have HE := hide hpe
   have HANS : Hid (RxStep w w2 X S by_ (.slice aT lns.length capT) st sh lns (rxPutSt (normOf lns) ds k v)) := by
    unfold Hid rxPutSt
    rw [hpe, if_neg (by omega)]
    exact RxStep.of_below HX.out HB2.out
   have i3 : (64 : Int) ≤ (cn : Int) := by omega
   clear hpe
   go_wp2
   go_ret
   exact ⟨by rw [HE.out]; rfl, HANS.out⟩
  ·have hpe : rxPutErr (normOf lns) ds k v = 0 := by rw [HPE.out, if_neg hfull]
   have HE := hide hpe
   have HS : Hid (rxPutSt (normOf lns) ds k v = ds ++ [(k, v, false)]) := by unfold Hid rxPutSt; rw [if_pos hpe]
   have HAPP : Hid (∀ w3 an nn cn', Below w.heap.size w w3 → Reads w3 (.slice an nn cn') 1 (normOf lns k).length (ints (normOf lns k)) → (∀ g, (Value.slice an nn cn').ownBlock = some g → w.heap.size ≤ g) → ∀ v' w4, w4.ownsRow X 258 4 v' (ds.length + 1) (deedCells ds vs ++ [.string k, .string v, .bool false, .slice an nn cn']) → (w3.alloc (.cells #[.string k, .string v, .bool false, .slice an nn cn'] 258)).grownBy w4 (Value.slice a ds.length cap).ownBlock → (v'.ownBlock = (Value.slice a ds.length cap).ownBlock ∨ v'.ownBlock = some (w3.heap.size + 1)) →
     RxCells w4 by_ (.slice aT lns.length capT) st sh (.slice a ds.length cap) ∧ w4.frozen? ⟨by_, 3, none⟩ = false ∧ by_ < w4.heap.size ∧ (∃ a9 n9 c9, v' = .slice a9 n9 c9) ∧ RxStep w (w4.setCell ⟨by_, 3, none⟩ v') X S by_ (.slice aT lns.length capT) st sh lns (rxPutSt (normOf lns) ds k v)) := fun w3 an nn cn' hb3 hr3 hn3 v' w4 hown4 hgr4 hat4 => by
    have := HX.out.grow hb3 hX HC3.out HRD.out HG.out HGS.out (d := (k, v, false)) hr3 hn3 ⟨hk, hv⟩ hown4 hgr4 (by simpa using hat4)
    obtain ⟨h1, h2, h3, h4⟩ := this
    obtain ⟨a9, c9, h9⟩ := (Reads.of_owns hown4).shape
    have hbk : w4.heap[by_]? = w3.heap[by_]? := by
     rw [hgr4.block by_ (by simp; have := hb3.size; omega) (fun e => (HG.out by_ e.symm).2 rfl), Below.heap_alloc _ _ _ (by have := hb3.size; omega)]
    have hc9 := HCS.out.below hl hb3
    exact ⟨⟨(World.cell?_of_block (a := ⟨by_, 0, none⟩) hbk).trans hc9.1, (World.cell?_of_block (a := ⟨by_, 1, none⟩) hbk).trans hc9.2.1, (World.cell?_of_block (a := ⟨by_, 2, none⟩) hbk).trans hc9.2.2.1, h1⟩, h2, h3, ⟨a9, _, c9, h9⟩, by rw [HS.out]; exact h4⟩
   have hdl := HRD.out.len
   clear hpe
   cases th
   ·have i3 : ¬ (64 : Int) ≤ (cn : Int) := fun h => hfull ⟨rfl, by omega⟩
    go_upto_region 7 with fail
    go_region_law (first
     | (refine step_append_own rfl _ _ 218 rfl X 258 i0 (.agg #[.string ⟨#[]⟩, .string ⟨#[]⟩, .bool false, .slice none 0 0]) 4 64 Tryz.underlying218 hi0 hz0 hzs hzb rfl (by omega) _ _ _ (by simp [Act.eval]) ((ownsRow_same HOWN.out (fun g hg => HB3.out.block g (HOWN.out.lt g hg).2)).alloc _) ⟨w3.heap.size, 0, none⟩ 1 1 [.string k, .string v, .bool false, .slice an nn cn'] (by simp [Act.eval]) rfl (news_quad rfl) (by intro u hu; simp at hu; rcases hu with rfl | rfl | rfl | rfl <;> rfl) (by unfold maxLen; omega) (by omega) (by simp; omega) ?_; intro v' w4 hown4 hgr4 hat4; obtain ⟨⟨t0, t1, t2, t3⟩, s2, s3, ⟨a9, n9, c9, rfl⟩, s4⟩ := HAPP.out w3 an nn cn' HB3.out HR3.out HN3.out v' w4 hown4 hgr4 (by simpa using hat4); have HANS := hide s4; have z0 : (w4.setCell ⟨by_, 3, none⟩ (.slice a9 n9 c9)).cell? ⟨by_, 0, none⟩ = some (.slice aT lns.length capT) := (by rw [World.cell?_setCell_other _ _ _ _ (by simp)]; exact t0); have z1 : (w4.setCell ⟨by_, 3, none⟩ (.slice a9 n9 c9)).cell? ⟨by_, 1, none⟩ = some (.int .i64 st) := (by rw [World.cell?_setCell_other _ _ _ _ (by simp)]; exact t1); have z2 : (w4.setCell ⟨by_, 3, none⟩ (.slice a9 n9 c9)).cell? ⟨by_, 2, none⟩ = some (.bool sh) := (by rw [World.cell?_setCell_other _ _ _ _ (by simp)]; exact t2); clear hown4 hgr4 hat4 s4)
     | (go_simp; go_at_call 42; refine (rxNormal_any sh HT.out k hk _ HB2.out.drew).mono ?_; rintro e w3 ⟨an, nn, cn', rfl, hr3, hb3, hn3⟩; have HR3 := hide hr3; have HB3 := hide hb3; have HN3 : Hid (∀ g, (Value.slice an nn cn').ownBlock = some g → w.heap.size ≤ g) := (fun g hg => Nat.le_trans hz2 (hn3 g hg)); obtain ⟨u0, u1, u2, u3⟩ := HCS.out.below hl hb3; have hz3 := hb3.size; have hl3 : by_ < w3.heap.size := (by omega); clear hr3 hb3 hn3))
    all_goals
     go_wp2
     go_ret
     exact ⟨by rw [HE.out]; rfl, HANS.out⟩
   ·have i3 : True := trivial
    go_upto_region 7 with fail
    go_region_law (first
     | (refine step_append_own rfl _ _ 218 rfl X 258 i0 (.agg #[.string ⟨#[]⟩, .string ⟨#[]⟩, .bool false, .slice none 0 0]) 4 64 Tryz.underlying218 hi0 hz0 hzs hzb rfl (by omega) _ _ _ (by simp [Act.eval]) ((ownsRow_same HOWN.out (fun g hg => HB3.out.block g (HOWN.out.lt g hg).2)).alloc _) ⟨w3.heap.size, 0, none⟩ 1 1 [.string k, .string v, .bool false, .slice an nn cn'] (by simp [Act.eval]) rfl (news_quad rfl) (by intro u hu; simp at hu; rcases hu with rfl | rfl | rfl | rfl <;> rfl) (by unfold maxLen; omega) (by omega) (by simp; omega) ?_; intro v' w4 hown4 hgr4 hat4; obtain ⟨⟨t0, t1, t2, t3⟩, s2, s3, ⟨a9, n9, c9, rfl⟩, s4⟩ := HAPP.out w3 an nn cn' HB3.out HR3.out HN3.out v' w4 hown4 hgr4 (by simpa using hat4); have HANS := hide s4; have z0 : (w4.setCell ⟨by_, 3, none⟩ (.slice a9 n9 c9)).cell? ⟨by_, 0, none⟩ = some (.slice aT lns.length capT) := (by rw [World.cell?_setCell_other _ _ _ _ (by simp)]; exact t0); have z1 : (w4.setCell ⟨by_, 3, none⟩ (.slice a9 n9 c9)).cell? ⟨by_, 1, none⟩ = some (.int .i64 st) := (by rw [World.cell?_setCell_other _ _ _ _ (by simp)]; exact t1); have z2 : (w4.setCell ⟨by_, 3, none⟩ (.slice a9 n9 c9)).cell? ⟨by_, 2, none⟩ = some (.bool sh) := (by rw [World.cell?_setCell_other _ _ _ _ (by simp)]; exact t2); clear hown4 hgr4 hat4 s4)
     | (go_simp; go_at_call 42; refine (rxNormal_any sh HT.out k hk _ HB2.out.drew).mono ?_; rintro e w3 ⟨an, nn, cn', rfl, hr3, hb3, hn3⟩; have HR3 := hide hr3; have HB3 := hide hb3; have HN3 : Hid (∀ g, (Value.slice an nn cn').ownBlock = some g → w.heap.size ≤ g) := (fun g hg => Nat.le_trans hz2 (hn3 g hg)); obtain ⟨u0, u1, u2, u3⟩ := HCS.out.below hl hb3; have hz3 := hb3.size; have hl3 : by_ < w3.heap.size := (by omega); clear hr3 hb3 hn3))
    all_goals
     go_wp2
     go_ret
     exact ⟨by rw [HE.out]; rfl, HANS.out⟩
set_option maxRecDepth 100000 in
set_option maxHeartbeats 1000000 in
theorem rxOpen_any (aT : Option Addr) (nT capT : Nat) (st : Int) (sh : Bool) (lns : List Tm.Ln) (X : Nat) (w : World) (hX : X ≤ w.heap.size) :
  Calls Tryz.prog 136 #[.agg #[.slice aT nT capT, .int .i64 st, .bool sh]] w fun e w' => ∃ by_ S, e = .returned (.pointer (some ⟨by_, 0, none⟩)) ∧ Rx w' X S by_ (.slice aT nT capT) st sh lns [] ∧ Below w.heap.size w w' ∧ ∀ i, S i → w.heap.size ≤ i := by
 have HANS : Hid (Rx ((w.alloc (.cells #[.slice aT nT capT, .int .i64 st, .bool sh] 29)).alloc (.cells #[.slice aT nT capT, .int .i64 st, .bool sh, .slice none 0 0, .slice none 0 0, .int .i64 0] 221)) X (fun i => i = w.heap.size + 1) (w.heap.size + 1) (.slice aT nT capT) st sh lns [] ∧ Below w.heap.size w ((w.alloc (.cells #[.slice aT nT capT, .int .i64 st, .bool sh] 29)).alloc (.cells #[.slice aT nT capT, .int .i64 st, .bool sh, .slice none 0 0, .slice none 0 0, .int .i64 0] 221)) ∧ ∀ i, i = w.heap.size + 1 → w.heap.size ≤ i) := by
  refine ⟨⟨fun i hi => ⟨by omega, by simp; omega⟩, rfl, ?_, ?_, ?_, ⟨.slice none 0 0, [], ?_, World.ownsRow_nil _ _ _ _, ⟨rfl, ⟨rfl, (fun g hg => by cases hg), none, 0, rfl, ⟨Nat.le_refl _, Nat.zero_le _⟩, by simp [deedCells]⟩, fun k hk => by simp at hk⟩, (fun g hg => by cases hg), fun k hk => by simp at hk⟩, fun o => ?_, fun d hd => by cases hd⟩, ((Below.refl _ _).alloc (Nat.le_refl _) _).alloc (by simp) _, fun i hi => by omega⟩
  ·rw [cell_new (by simp)]; rfl
  ·rw [cell_new (by simp)]; rfl
  ·rw [cell_new (by simp)]; rfl
  ·rw [cell_new (by simp)]; rfl
  ·rw [frozen_new (by simp)]
 go_enter Tryz.func136, Tryz.ntmps136
 go_wp2
 go_ret
 exact ⟨w.heap.size + 1, _, rfl, HANS.out⟩
def rxGetV (N : ByteArray → List Int) (ds : List Tm.Deed) (k : ByteArray) : ByteArray := if Tm.thereD N ds k then (Tm.dAt ds (Tm.lastAt (Tm.formsD N ds) (N k) ds.length).toNat).2.1 else ⟨#[]⟩
set_option maxRecDepth 100000 in
set_option maxHeartbeats 8000000 in
theorem rxGet_any {X : Nat} {S : Nat → Prop} {by_ : Nat} {vT : Value} {st : Int} {sh : Bool} {lns : List Tm.Ln} {ds : List Tm.Deed} (k : ByteArray) (w : World) (hT : TabOk w vT st lns) (hx : Rx w X S by_ vT st sh lns ds) (hfew : ds.length ≤ 90000000) :
  Calls Tryz.prog 146 #[.pointer (some ⟨by_, 0, none⟩), .string k] w fun e w' => e = .returned (if k.size ≤ 64 then .tuple #[.string (rxGetV (normOf lns) ds k), .bool (Tm.thereD (normOf lns) ds k), .int .i64 0] else .tuple #[.string ⟨#[]⟩, .bool false, .int .i64 7]) ∧ Below w.heap.size w w' := by
 by_cases hk : k.size ≤ 64
 ·rw [if_pos hk]
  obtain ⟨vd, vs, c3, hown, hrd, hg, hgs⟩ := hx.deeds
  obtain ⟨a, cap, rfl⟩ := hrd.row.shape
  have hl := (hx.from_ by_ hx.own).2
  obtain ⟨aT, capT, hvT⟩ := hT.rd.shape
  subst hvT
  have hcs : RxCells w by_ (.slice aT lns.length capT) st sh (.slice a ds.length cap) := ⟨hx.c0, hx.c1, hx.c2, c3⟩
  have HT := hide hT
  have HX := hide hx
  have HRD := hide hrd
  have HCS := hide hcs
  have i1 : ¬ (64 : Int) < (k.size : Int) := by omega
  clear hT hx hrd hcs c3 hg hgs hown
  go_enter Tryz.func146, Tryz.ntmps146
  go_wp2_with fail
  refine (rxThere_any k _ HT.out HX.out hk (by omega)).mono ?_
  rintro e w1 ⟨rfl, hb1⟩
  have HB1 := hide hb1
  have hz1 := hb1.size
  obtain ⟨p0, p1, p2, p3⟩ := HCS.out.below hl hb1
  have hl1 : by_ < w1.heap.size := by omega
  clear hb1
  cases hth : Tm.thereD (normOf lns) ds k
  ·have HV : Hid (rxGetV (normOf lns) ds k = ⟨#[]⟩) := by unfold Hid rxGetV; rw [hth]; rfl
   have HTH := hide hth
   go_wp2
   go_ret3
   exact ⟨by rw [HV.out, HTH.out]; rfl, HB1.out⟩
  ·have HTH := hide hth
   obtain ⟨la, hla⟩ : ∃ la, Tm.lastAt (Tm.formsD (normOf lns) ds) (normOf lns k) ds.length = la := ⟨_, rfl⟩
   have hla0 : 0 ≤ la := by
    unfold Tm.thereD at hth
    rw [hla] at hth
    simp only [Bool.and_eq_true, decide_eq_true_eq] at hth
    exact hth.1
   have hrg := Tm.lastAt_range (Tm.formsD (normOf lns) ds) (normOf lns k) ds.length
   rw [hla] at hrg
   obtain ⟨i, rfl⟩ : ∃ i : Nat, la = i := ⟨la.toNat, by omega⟩
   have hil : i < ds.length := by
    rcases hrg with h | ⟨j, h1, h2, _⟩
    ·omega
    ·omega
   have HV : Hid (rxGetV (normOf lns) ds k = (ds[i]).2.1) := by
    unfold Hid rxGetV
    rw [hth, if_pos rfl, hla, Int.toNat_natCast, Tm.dAt_get hil]
   have HLA : Hid (∀ W v, Below w.heap.size w W → Reads W v 1 (normOf lns k).length (ints (normOf lns k)) → Calls Tryz.prog 171 #[.pointer (some ⟨by_, 0, none⟩), v, .int .i64 ds.length] W fun e w' => e = .returned (.int .i64 i) ∧ Below w.heap.size w w') := fun W v hW hv => by
    refine (rxLast_any HT.out.fit v (normOf lns k) ds.length W (HX.out.below hW) hv (norm_len HT.out.fit hk) (Nat.le_refl _) (by omega)).mono ?_
    rintro e w' ⟨rfl, q, rfl⟩
    exact ⟨by rw [hla], hW.os, hW.tape, hW.output, hW.size, hW.block⟩
   have HROW : Hid (∀ W, Below w.heap.size w W → ∃ g off, a = some ⟨g, off, none⟩ ∧ W.cell? ⟨g, off + i * 4 + 1, none⟩ = some (.string (ds[i]).2.1)) := fun W hW => by
    obtain ⟨g, off, v, he, hg, x0, x1, x2, x3, hrv⟩ := (HRD.out.below hW).at hil
    exact ⟨g, off, he, x1⟩
   obtain ⟨g, off, he, y1⟩ := HROW.out w1 HB1.out
   subst he
   have HROW' : Hid (∀ W, Below w.heap.size w W → W.cell? ⟨g, off + i * 4 + 1, none⟩ = some (.string (ds[i]).2.1)) := fun W hW => by
    obtain ⟨g', off', he, x1⟩ := HROW.out W hW
    cases he
    exact x1
   generalize (ds[i]).2.1 = dv at *
   have j1 : (0 : Int) ≤ (i : Int) := by omega
   have j2 : (i : Int) < (ds.length : Int) := by omega
   clear hla hrg hth HROW hla0
   go_upto_region 6 with fail
   go_region_held3 (fun wx => wx.cell? ⟨by_, 0, none⟩ = some (.slice aT lns.length capT) ∧ wx.cell? ⟨by_, 1, none⟩ = some (.int .i64 st) ∧ wx.cell? ⟨by_, 2, none⟩ = some (.bool sh) ∧ wx.cell? ⟨by_, 3, none⟩ = some (.slice (some ⟨g, off, none⟩) ds.length cap) ∧ wx.cell? ⟨g, off + i * 4 + 1, none⟩ = some (.string dv)) (go_keep)
    (first
    | (go_at_call 42; refine (rxNormal_any sh HT.out k hk _ HB1.out.drew).mono ?_; rintro e w3 ⟨an, nn, cn', rfl, hr3, hb3, _⟩; have HR3 := hide hr3; have HB3 := hide hb3; obtain ⟨u0, u1, u2, u3⟩ := HCS.out.below hl hb3; have u4 := HROW'.out w3 hb3; clear hr3 hb3)
    | (go_at_call 171; refine (HLA.out _ _ HB3.out HR3.out).mono ?_; rintro e w4 ⟨rfl, hb4⟩; obtain ⟨v0, v1, v2, v3⟩ := HCS.out.below hl hb4; have v4 := HROW'.out w4 hb4; have HB4 := hide hb4; clear hb4))
   all_goals
    go_wp2
    go_ret3
    exact ⟨by rw [HV.out, HTH.out]; rfl, HB4.out⟩
 ·rw [if_neg hk]
  have i1 : (64 : Int) < (k.size : Int) := by omega
  go_enter Tryz.func146, Tryz.ntmps146
  go_wp2
  go_ret3
  exact ⟨rfl, Below.refl _ _⟩
def rxDropSt (N : ByteArray → List Int) (ds : List Tm.Deed) (k : ByteArray) : List Tm.Deed := if k.size ≤ 64 ∧ Tm.thereD N ds k = true then ds ++ [(k, ⟨#[]⟩, true)] else ds
set_option maxRecDepth 100000 in
set_option maxHeartbeats 8000000 in
theorem rxDelete_any {X : Nat} {S : Nat → Prop} {by_ : Nat} {vT : Value} {st : Int} {sh : Bool} {lns : List Tm.Ln} {ds : List Tm.Deed} (k : ByteArray) (w : World) (hT : TabOk w vT st lns) (hx : Rx w X S by_ vT st sh lns ds) (hX : X ≤ w.heap.size) (hfew : ds.length ≤ 90000000) :
  Calls Tryz.prog 145 #[.pointer (some ⟨by_, 0, none⟩), .string k] w fun e w' => e = .returned (if k.size ≤ 64 then .tuple #[.bool (Tm.thereD (normOf lns) ds k), .int .i64 0] else .tuple #[.bool false, .int .i64 7]) ∧ RxStep w w' X S by_ vT st sh lns (rxDropSt (normOf lns) ds k) := by
 by_cases hk : k.size ≤ 64
 ·rw [if_pos hk]
  obtain ⟨i0, hi0, hz0, hzs, hzb⟩ := info_parts Tryz.infoDeed
  obtain ⟨vd, vs, c3, hown, hrd, hg, hgs⟩ := hx.deeds
  obtain ⟨a, cap, rfl⟩ := hrd.row.shape
  have hl := (hx.from_ by_ hx.own).2
  obtain ⟨aT, capT, hvT⟩ := hT.rd.shape
  subst hvT
  have hcs : RxCells w by_ (.slice aT lns.length capT) st sh (.slice a ds.length cap) := ⟨hx.c0, hx.c1, hx.c2, c3⟩
  have HT := hide hT
  have HX := hide hx
  have HRD := hide hrd
  have HCS := hide hcs
  have HC3 := hide c3
  have HG := hide hg
  have HGS := hide hgs
  have HOWN := hide hown
  have i1 : ¬ (64 : Int) < (k.size : Int) := by omega
  clear hT hx hrd hcs c3 hg hgs hown
  go_enter Tryz.func145, Tryz.ntmps145
  go_wp2_with fail
  refine (rxThere_any k _ HT.out HX.out hk (by omega)).mono ?_
  rintro e w1 ⟨rfl, hb1⟩
  have HB1 := hide hb1
  have hz1 := hb1.size
  obtain ⟨p0, p1, p2, p3⟩ := HCS.out.below hl hb1
  have hl1 : by_ < w1.heap.size := by omega
  clear hb1
  cases hth : Tm.thereD (normOf lns) ds k
  ·have HTH := hide hth
   have HANS : Hid (RxStep w w1 X S by_ (.slice aT lns.length capT) st sh lns (rxDropSt (normOf lns) ds k)) := by
    unfold Hid rxDropSt
    rw [if_neg (fun h => by rw [hth] at h; cases h.2)]
    exact RxStep.of_below HX.out HB1.out
   go_wp2
   go_ret2
   exact ⟨by rw [HTH.out]; rfl, HANS.out⟩
  ·have HTH := hide hth
   have HS : Hid (rxDropSt (normOf lns) ds k = ds ++ [(k, ⟨#[]⟩, true)]) := by unfold Hid rxDropSt; rw [if_pos ⟨hk, hth⟩]
   have HAPP : Hid (∀ w3 an nn cn', Below w.heap.size w w3 → Reads w3 (.slice an nn cn') 1 (normOf lns k).length (ints (normOf lns k)) → (∀ g, (Value.slice an nn cn').ownBlock = some g → w.heap.size ≤ g) → ∀ v' w4, w4.ownsRow X 258 4 v' (ds.length + 1) (deedCells ds vs ++ [.string k, .string ⟨#[]⟩, .bool true, .slice an nn cn']) → (w3.alloc (.cells #[.string k, .string ⟨#[]⟩, .bool true, .slice an nn cn'] 258)).grownBy w4 (Value.slice a ds.length cap).ownBlock → (v'.ownBlock = (Value.slice a ds.length cap).ownBlock ∨ v'.ownBlock = some (w3.heap.size + 1)) →
     RxCells w4 by_ (.slice aT lns.length capT) st sh (.slice a ds.length cap) ∧ w4.frozen? ⟨by_, 3, none⟩ = false ∧ by_ < w4.heap.size ∧ (∃ a9 n9 c9, v' = .slice a9 n9 c9) ∧ RxStep w (w4.setCell ⟨by_, 3, none⟩ v') X S by_ (.slice aT lns.length capT) st sh lns (rxDropSt (normOf lns) ds k)) := fun w3 an nn cn' hb3 hr3 hn3 v' w4 hown4 hgr4 hat4 => by
    have := HX.out.grow hb3 hX HC3.out HRD.out HG.out HGS.out (d := (k, ⟨#[]⟩, true)) hr3 hn3 ⟨hk, Nat.zero_le _⟩ hown4 hgr4 (by simpa using hat4)
    obtain ⟨h1, h2, h3, h4⟩ := this
    obtain ⟨a9, c9, h9⟩ := (Reads.of_owns hown4).shape
    have hbk : w4.heap[by_]? = w3.heap[by_]? := by
     rw [hgr4.block by_ (by simp; have := hb3.size; omega) (fun e => (HG.out by_ e.symm).2 rfl), Below.heap_alloc _ _ _ (by have := hb3.size; omega)]
    have hc9 := HCS.out.below hl hb3
    exact ⟨⟨(World.cell?_of_block (a := ⟨by_, 0, none⟩) hbk).trans hc9.1, (World.cell?_of_block (a := ⟨by_, 1, none⟩) hbk).trans hc9.2.1, (World.cell?_of_block (a := ⟨by_, 2, none⟩) hbk).trans hc9.2.2.1, h1⟩, h2, h3, ⟨a9, _, c9, h9⟩, by rw [HS.out]; exact h4⟩
   go_upto_region 5 with fail
   go_region_law (first
    | (refine step_append_own rfl _ _ 218 rfl X 258 i0 (.agg #[.string ⟨#[]⟩, .string ⟨#[]⟩, .bool false, .slice none 0 0]) 4 64 Tryz.underlying218 hi0 hz0 hzs hzb rfl (by omega) _ _ _ (by simp [Act.eval]) ((ownsRow_same HOWN.out (fun g hg => HB3.out.block g (HOWN.out.lt g hg).2)).alloc _) ⟨w3.heap.size, 0, none⟩ 1 1 [.string k, .string ⟨#[]⟩, .bool true, .slice an nn cn'] (by simp [Act.eval]) rfl (news_quad rfl) (by intro u hu; simp at hu; rcases hu with rfl | rfl | rfl | rfl <;> rfl) (by unfold maxLen; omega) (by omega) (by simp; omega) ?_; intro v' w4 hown4 hgr4 hat4; obtain ⟨⟨t0, t1, t2, t3⟩, s2, s3, ⟨a9, n9, c9, rfl⟩, s4⟩ := HAPP.out w3 an nn cn' HB3.out HR3.out HN3.out v' w4 hown4 hgr4 (by simpa using hat4); have HANS := hide s4; have z0 : (w4.setCell ⟨by_, 3, none⟩ (.slice a9 n9 c9)).cell? ⟨by_, 0, none⟩ = some (.slice aT lns.length capT) := (by rw [World.cell?_setCell_other _ _ _ _ (by simp)]; exact t0); have z1 : (w4.setCell ⟨by_, 3, none⟩ (.slice a9 n9 c9)).cell? ⟨by_, 1, none⟩ = some (.int .i64 st) := (by rw [World.cell?_setCell_other _ _ _ _ (by simp)]; exact t1); have z2 : (w4.setCell ⟨by_, 3, none⟩ (.slice a9 n9 c9)).cell? ⟨by_, 2, none⟩ = some (.bool sh) := (by rw [World.cell?_setCell_other _ _ _ _ (by simp)]; exact t2); clear hown4 hgr4 hat4 s4)
    | (go_simp; go_at_call 42; refine (rxNormal_any sh HT.out k hk _ HB1.out.drew).mono ?_; rintro e w3 ⟨an, nn, cn', rfl, hr3, hb3, hn3⟩; have HR3 := hide hr3; have HB3 := hide hb3; have HN3 : Hid (∀ g, (Value.slice an nn cn').ownBlock = some g → w.heap.size ≤ g) := (fun g hg => Nat.le_trans hz1 (hn3 g hg)); obtain ⟨u0, u1, u2, u3⟩ := HCS.out.below hl hb3; have hz3 := hb3.size; have hl3 : by_ < w3.heap.size := (by omega); clear hr3 hb3 hn3))
   all_goals
    go_wp2
    go_ret2
    exact ⟨by rw [HTH.out]; rfl, HANS.out⟩
 ·rw [if_neg hk]
  have i1 : (64 : Int) < (k.size : Int) := by omega
  have HANS : Hid (RxStep w w X S by_ vT st sh lns (rxDropSt (normOf lns) ds k)) := by
   unfold Hid rxDropSt
   rw [if_neg (fun h => hk h.1)]
   exact RxStep.of_below hx (Below.refl _ _)
  clear hT hx
  go_enter Tryz.func145, Tryz.ntmps145
  go_wp2
  go_ret2
  exact ⟨rfl, HANS.out⟩
end Go.Proofs.YtmnjjjhmnhfapaaGreatDoor
