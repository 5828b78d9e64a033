import Derived.Test.YtmnjjjhmnhfapaaGreatDoorMRefRunes
import Derived.Test.YtmnjjjhmnhfapaaGreatDoorMRefClass
import Derived.Test.YtmnjjjhmnhfapaaGreatDoorMIxRowKit
namespace Go.Proofs.YtmnjjjhmnhfapaaGreatDoor
open Go.RowKit
def Held (w : World) (base : Nat) (a : Option Addr) (xs : List Int) : Prop :=
 (xs = [] ∧ a = none) ∨ ∃ g, a = some ⟨g, 0, none⟩ ∧ base ≤ g ∧ g < w.heap.size ∧ Ints w g 0 xs
theorem Held.of_owns {w : World} {base n cap : Nat} {a : Option Addr} {xs : List Int} (h : w.ownsRow base 3 1 (.slice a n cap) xs.length (ints xs)) : Held w base a xs := by
 have hn := (Reads.of_owns h).fits.1
 obtain ⟨m, hm⟩ : ∃ m, xs.length = m := ⟨_, rfl⟩
 rw [hm] at h hn
 subst hn
 rcases h.2 with ⟨h1, h2⟩ | ⟨g, c, cur, h1, hg, _⟩
 ·cases h1
  exact .inl ⟨List.eq_nil_of_length_eq_zero hm, rfl⟩
 ·cases h1
  exact .inr ⟨g, rfl, hg, (h.lt g rfl).2, owns_ints h⟩
theorem Held.reads {w : World} {base cap : Nat} {a : Option Addr} {xs : List Int} (h : Held w base a xs) (hc : xs.length ≤ cap) (hm : cap ≤ maxLen) : Reads w (.slice a xs.length cap) 1 xs.length (ints xs) := by
 refine ⟨by simp [ints], ?_, a, cap, rfl, ⟨hc, hm⟩, ?_⟩
 ·rcases h with ⟨_, rfl⟩ | ⟨g, rfl, _, hg, _⟩
  ·intro g hg; simp [Value.ownBlock] at hg
  ·intro g' hg'; simp [Value.ownBlock] at hg'; omega
 ·intro j u hu
  rcases h with ⟨rfl, _⟩ | ⟨g, rfl, _, _, hi⟩
  ·simp [ints] at hu
  ·simp only [ints, List.getElem?_map, Option.map_eq_some_iff] at hu
   obtain ⟨x, hx, rfl⟩ := hu
   exact ⟨g, 0, rfl, (hi j x hx).1⟩
theorem Ints.below {w w' : World} {g off B : Nat} {xs : List Int} (h : Ints w g off xs) (hb : Below B w w') (hg : g < B) : Ints w' g off xs := by
 intro j x hx
 obtain ⟨h1, h2⟩ := h j x hx
 refine ⟨?_, ?_⟩
 ·rw [World.cell?_of_block (hb.block g hg)]; exact h1
 ·rw [World.frozen?_of_block (hb.block g hg)]; exact h2
theorem Held.below {w w' : World} {base B : Nat} {a : Option Addr} {xs : List Int} (h : Held w base a xs) (hb : Below B w w') (hB : w.heap.size ≤ B) : Held w' base a xs := by
 rcases h with h | ⟨g, rfl, h1, h2, h3⟩
 ·exact .inl h
 ·exact .inr ⟨g, rfl, h1, Nat.lt_of_lt_of_le h2 hb.size, h3.below hb (by omega)⟩
theorem split_two {ys : List Int} {j : Nat} (h : j + 1 < ys.length) : ys = ys.take j ++ ys[j] :: ([] ++ ys[j + 1] :: ys.drop (j + 2)) := by
 have h1 : ys.drop j = ys[j] :: ys[j + 1] :: ys.drop (j + 2) := by
  rw [List.drop_eq_getElem_cons (by omega), List.drop_eq_getElem_cons (by omega)]
 rw [List.nil_append, ← h1, List.take_append_drop]
def stepsSt (lns : List Tm.Ln) (E l : List Int) (t : Bool) : Prop := if t then ∃ n, n ≤ 4 ∧ l.all (Tm.ends lns n) = true ∧ l.flatMap (Tm.expand lns n) = E else l = E
theorem stepsSt.go {lns : List Tm.Ln} {E l : List Int} (h : stepsSt lns E l true) : stepsSt lns E (Tm.stepAll lns l) (Tm.hasParts lns l) := by
 obtain ⟨n, hn, ha, he⟩ := h
 cases hp : Tm.hasParts lns l
 ·show Tm.stepAll lns l = E
  rw [Tm.step_stop hp, ← he, Tm.flat_leaf hp]
 ·exact Tm.depth_step ha hn he hp
theorem stepsSt.short {lns : List Tm.Ln} {E l : List Int} {t : Bool} (h : stepsSt lns E l t) : l.length ≤ E.length := by
 cases t
 ·have : l = E := h
  rw [this]; exact Nat.le_refl _
 ·obtain ⟨n, hn, ha, he⟩ := h
  rw [← he]; exact Tm.flat_long n l
noncomputable def stepsLeft (lns : List Tm.Ln) (w : World) (v y : Value) : Nat := match y with
 | .bool true => Tm.depth lns (listOf w v) + 1
 | _ => 0
theorem stepsSt.less {lns : List Tm.Ln} {E l : List Int} {w w' : World} {v v' : Value} (h : stepsSt lns E l true) (h1 : listOf w v = l) (h2 : listOf w' v' = Tm.stepAll lns l) : stepsLeft lns w' v' (.bool (Tm.hasParts lns l)) < stepsLeft lns w v (.bool true) := by
 obtain ⟨n, hn, ha, he⟩ := h
 unfold stepsLeft
 rw [h1, h2]
 cases hp : Tm.hasParts lns l
 ·exact Nat.succ_pos _
 ·have := Tm.depth_less ha hn hp
  simp only; omega
noncomputable def passLeft (k : Int → Int) (w : World) (v y : Value) : Nat := 2 * Tm.inv k (listOf w v) + match y with
 | .bool true => 1
 | _ => 0
structure Pass (k : Int → Int) (E xs ys : List Int) (t : Bool) (j : Nat) : Prop where
 len : ys.length = xs.length
 same : Tm.ord k ys = Tm.ord k E
 still : t = false → ys = xs ∧ ∀ m, m < j → m + 1 < xs.length → Tm.wrong k (xs.getD m 0) (xs.getD (m + 1) 0) = false
 less : t = true → Tm.inv k ys < Tm.inv k xs
theorem getD_at {l : List Int} {j : Nat} (h : j < l.length) : l.getD j 0 = l[j] := by simp [List.getD, h]
theorem Pass.on {k : Int → Int} {E xs ys : List Int} {t : Bool} {j : Nat} (h : Pass k E xs ys t j) (hj : j + 1 < ys.length) (hw : Tm.wrong k ys[j] ys[j + 1] = false) : Pass k E xs ys t (j + 1) := by
 refine ⟨h.len, h.same, fun ht => ?_, h.less⟩
 obtain ⟨rfl, h2⟩ := h.still ht
 refine ⟨rfl, fun m hm hl => ?_⟩
 by_cases e : m = j
 ·subst e
  rw [getD_at (by omega), getD_at hj]; exact hw
 ·exact h2 m (by omega) hl
theorem Pass.swap {k : Int → Int} {E xs ys : List Int} {t : Bool} {j : Nat} (h : Pass k E xs ys t j) (hj : j + 1 < ys.length) (hw : Tm.wrong k ys[j] ys[j + 1] = true) : Pass k E xs (ys.take j ++ ys[j + 1] :: ([] ++ ys[j] :: ys.drop (j + 2))) true (j + 1) := by
 have hw' : k ys[j + 1] ≠ 0 ∧ k ys[j + 1] < k ys[j] := by simpa [Tm.wrong] using hw
 have e := split_two hj
 have hi : Tm.inv k ys = Tm.inv k (ys.take j ++ ys[j + 1] :: ys[j] :: ys.drop (j + 2)) + 1 := by
  rw [← Tm.inv_swap hw'.1 hw'.2]
  exact congrArg (Tm.inv k) e
 have ho : Tm.ord k ys = Tm.ord k (ys.take j ++ ys[j + 1] :: ys[j] :: ys.drop (j + 2)) := by
  rw [← Tm.ord_swap hw'.1 hw'.2]
  exact congrArg (Tm.ord k) e
 refine ⟨?_, ?_, fun ht => (by cases ht), fun _ => ?_⟩
 ·have := h.len
  simp; omega
 ·rw [List.nil_append, ← ho]; exact h.same
 ·rw [List.nil_append]
  cases t
  ·have := (h.still rfl).1
   subst this; omega
  ·have := h.less rfl; omega
theorem Pass.calm {k : Int → Int} {E xs ys : List Int} {j : Nat} (h : Pass k E xs ys false j) (hj : xs.length ≤ j + 1) : Tm.Calm k ys := by
 obtain ⟨rfl, h2⟩ := h.still rfl
 exact Tm.calm_of fun m hm => h2 m (by omega) hm
theorem Pass.left {k : Int → Int} {E xs ys : List Int} {t : Bool} {j : Nat} {w w' : World} {v : Value} (h : Pass k E xs ys t j) (h1 : listOf w v = xs) (h2 : listOf w' v = ys) : passLeft k w' v (.bool t) < passLeft k w v (.bool true) := by
 unfold passLeft
 rw [h1, h2]
 cases t
 ·have := (h.still rfl).1
  subst this
  simp
 ·have := h.less rfl
  simp only; omega
set_option maxRecDepth 100000 in
set_option maxHeartbeats 4000000 in
theorem RefNormal_new (vl : Value) (st : Int) (sh : Bool) (s : ByteArray) (lns : List Tm.Ln) (w : World) (ht : TableRd w vl lns) (hfit : ∀ o ∈ lns, Tm.Fit o) (hl : lns.length ≤ 1000000) (hends : ∀ r, Tm.ends lns 4 r = true) (hs : s.size ≤ 64) :
  Calls Tryz.prog 42 #[.agg #[vl, .int .i64 st, .bool sh], .string s] w fun e w' => ∃ v, e = .returned v ∧ Reads w' v 1 (normOf lns s).length (ints (normOf lns s)) ∧ Below w.heap.size w w' ∧ ∀ g, v.ownBlock = some g → w.heap.size ≤ g := by
 obtain ⟨a, cap, rfl⟩ := ht.shape
 have HT := hide ht
 have HF := hide hfit
 have HL3 : Hid (∀ o ∈ lns, o.runes.length ≤ 3) := fun o ho => (HF.out o ho).few
 have HNE : Hid (∀ o ∈ lns, o.runes ≠ []) := fun o ho => (HF.out o ho).some
 obtain ⟨E, hE⟩ : ∃ E, (runesOf s).flatMap (Tm.expand lns 4) = E := ⟨_, rfl⟩
 have HN : Hid (normOf lns s = Tm.ord (Tm.classOf lns) E) := by unfold Hid normOf; rw [hE]
 have hEl : E.length ≤ 1024 := by
  have h1 := Tm.flat_short (lns := lns) (parts_short HL3.out) 4 (runesOf s)
  have h2 := runesFrom_short (s := s) (f := s.size) (pos := 0)
  have h3 : (runesOf s).length ≤ 64 := by unfold runesOf; omega
  rw [hE] at h1
  have h4 := Nat.mul_le_mul_right (2 ^ 4) h3
  omega
 have HS0 : Hid (stepsSt lns E (runesOf s) true) := ⟨4, Nat.le_refl _, by rw [List.all_eq_true]; exact fun x _ => hends x, hE⟩
 clear ht hfit hends hE
 go_enter Tryz.func42, Tryz.ntmps42
 go_wp2_with fail
 refine (Runes_any s _ (by omega)).mono ?_
 rintro e w1 ⟨v1, rfl, hown1, hb1⟩
 have HO1 : Hid (w1.ownsRow (w.heap.size + 1) 3 1 v1 (runesOf s).length (ints (runesOf s))) := by unfold Hid; simpa using hown1
 have HB1 : Hid (Below (w.heap.size + 1) (w.alloc (.cells #[.slice a lns.length cap, .int .i64 st, .bool sh] 29)) w1) := by unfold Hid; simpa using hb1
 clear hown1 hb1
 go_wp2
 go_loopw [5, 6] (fun v y wr => ∃ (l : List Int) (t : Bool), y = .bool t ∧ wr.ownsRow (w.heap.size + 1) 3 1 v l.length (ints l) ∧ Below (w.heap.size + 1) (w.alloc (.cells #[.slice a lns.length cap, .int .i64 st, .bool sh] 29)) wr ∧ stepsSt lns E l t) (fun v y wr => stepsLeft lns wr v y)
 case atStart => exact ⟨runesOf s, true, rfl, HO1.out, HB1.out, HS0.out⟩
 case round =>
  obtain ⟨l, t, rfl, hown, hb, hst⟩ := hrel
  have hb0 : Below w.heap.size w wr := ((Below.refl _ _).alloc (Nat.le_refl _) _).trans (hb.mono (by omega))
  have HB := hide hb
  have HB0 := hide hb0
  have b0 : wr.cell? ⟨w.heap.size, 0, none⟩ = some (.slice a lns.length cap) := by rw [hb.cell (by simp)]; simp
  have b1 : wr.cell? ⟨w.heap.size, 1, none⟩ = some (.int .i64 st) := by rw [hb.cell (by simp)]; simp
  have b2 : wr.cell? ⟨w.heap.size, 2, none⟩ = some (.bool sh) := by rw [hb.cell (by simp)]; simp
  have hzr : w.heap.size + 1 ≤ wr.heap.size := by have := hb.size; simpa using this
  have HO := hide hown
  have HST := hide hst
  have hlen := hst.short
  clear hb hb0 hown hst
  cases t
  ·have he : l = E := HST.out
   subst he
   obtain ⟨ao, capo, rfl⟩ := (Reads.of_owns HO.out).shape
   have hcapo := (Reads.of_owns HO.out).fits
   have HH0 := hide (Held.of_owns HO.out)
   have HNEW : Hid (∀ k, ∀ g, (Value.slice ao k capo).ownBlock = some g → w.heap.size ≤ g) := fun k g hg => by
    have := (HO.out.lt g (by cases ao with
     | none => simp [Value.ownBlock] at hg
     | some ad => simpa [Value.ownBlock] using hg)).1
    omega
   obtain ⟨n, hn⟩ : ∃ n, l.length = n := ⟨_, rfl⟩
   rw [hn] at hcapo hlen
   have HCAP : Hid (n ≤ capo ∧ capo ≤ maxLen) := hcapo.2
   have hcap2 : n ≤ capo := hcapo.2.1
   have hn9 : n ≤ 1024 := by omega
   clear HO HST hcapo
   rw [hn]
   go_wp2
   go_loopw [7] (fun y wr => ∃ (t : Bool) (xs : List Int), y = .bool t ∧ xs.length = n ∧ Held wr (w.heap.size + 1) ao xs ∧ Below (w.heap.size + 1) (w.alloc (.cells #[.slice a lns.length cap, .int .i64 st, .bool sh] 29)) wr ∧ Tm.ord (Tm.classOf lns) xs = Tm.ord (Tm.classOf lns) l ∧ (t = false → Tm.Calm (Tm.classOf lns) xs)) (fun y wr => passLeft (Tm.classOf lns) wr (.slice ao n capo) y)
   case atStart => exact ⟨true, l, rfl, hn, HH0.out, HB.out, rfl, fun h => by cases h⟩
   case round =>
    obtain ⟨t, xs, rfl, hxn, hheld, hb, hord, hcalm⟩ := hrel
    have HH := hide hheld
    have HB2 := hide hb
    have HORD := hide hord
    have HCALM := hide hcalm
    have HRD : Hid (Reads wr (.slice ao n capo) 1 xs.length (ints xs)) := by
     have h := HH.out.reads (cap := capo) (by rw [hxn]; exact HCAP.out.1) HCAP.out.2
     rw [hxn] at h ⊢; exact h
    have HLX := hide (listOf_eq HRD.out)
    clear hheld hb hord hcalm
    cases t
    ·have HFIN : Hid (Reads wr (.slice ao n capo) 1 (normOf lns s).length (ints (normOf lns s))) := by
      unfold Hid
      rw [HN.out, ← HORD.out, Tm.ord_calm (HCALM.out rfl)]
      exact HRD.out
     have HBF : Hid (Below w.heap.size w wr) := ((Below.refl _ _).alloc (Nat.le_refl _) _).trans (HB2.out.mono (by omega))
     go_wp2
     go_ret
     exact ⟨_, rfl, HFIN.out, HBF.out, HNEW.out _⟩
    ·have HP0 : Hid (Pass (Tm.classOf lns) l xs xs false 0) := ⟨rfl, HORD.out, fun _ => ⟨rfl, fun m hm => by omega⟩, fun h => by cases h⟩
     clear b0 b1 b2 hzr
     go_wp2
     go_loopw [7, 8] (fun y i wr => ∃ (t : Bool) (j : Nat) (ys : List Int), y = .bool t ∧ i = .int .i64 j ∧ j ≤ n ∧ Held wr (w.heap.size + 1) ao ys ∧ Below (w.heap.size + 1) (w.alloc (.cells #[.slice a lns.length cap, .int .i64 st, .bool sh] 29)) wr ∧ Pass (Tm.classOf lns) l xs ys t j) (fun _ i _ => n - (intOf i).toNat)
     case atStart => exact ⟨false, 0, xs, rfl, rfl, Nat.zero_le _, HH.out, HB2.out, HP0.out⟩
     case round =>
      obtain ⟨t, j, ys, rfl, rfl, hjn, hheld, hb, hpass⟩ := hrel
      have hyn : ys.length = n := hpass.len.trans hxn
      have HPASS := hide hpass
      have HHy := hide hheld
      have HBy := hide hb
      have HB0y : Hid (Below w.heap.size w wr) := ((Below.refl _ _).alloc (Nat.le_refl _) _).trans (hb.mono (by omega))
      have b0 : wr.cell? ⟨w.heap.size, 0, none⟩ = some (.slice a lns.length cap) := by rw [hb.cell (by simp)]; simp
      have b1 : wr.cell? ⟨w.heap.size, 1, none⟩ = some (.int .i64 st) := by rw [hb.cell (by simp)]; simp
      have b2 : wr.cell? ⟨w.heap.size, 2, none⟩ = some (.bool sh) := by rw [hb.cell (by simp)]; simp
      have hzr : w.heap.size + 1 ≤ wr.heap.size := by have := hb.size; simpa using this
      clear hpass hb
      by_cases hlt : j + 1 < n
      ·have hj2 : j + 1 < ys.length := by omega
       rcases hheld with ⟨h0, _⟩ | ⟨g, rfl, hg1, hg2, hI⟩
       ·rw [h0] at hyn; simp at hyn; omega
       have HI := hide hI
       have cx := hI.at (j := j) (by omega)
       have cy := hI.at (j := j + 1) hj2
       rw [Nat.zero_add] at cx cy
       obtain ⟨cx, fx⟩ := cx
       obtain ⟨cy, fy⟩ := cy
       have HON : Hid (Tm.wrong (Tm.classOf lns) ys[j] ys[j + 1] = false → Pass (Tm.classOf lns) l xs ys t (j + 1)) := fun h => HPASS.out.on hj2 h
       have HSW : Hid (Tm.wrong (Tm.classOf lns) ys[j] ys[j + 1] = true → Pass (Tm.classOf lns) l xs (ys.take j ++ ys[j + 1] :: ([] ++ ys[j] :: ys.drop (j + 2))) true (j + 1)) := fun h => HPASS.out.swap hj2 h
       have HI2 : Hid (Ints wr g 0 (ys.take j ++ ys[j] :: ([] ++ ys[j + 1] :: ys.drop (j + 2)))) := by unfold Hid; rw [← split_two hj2]; exact HI.out
       have HLJ : Hid (j = (ys.take j).length) := by unfold Hid; simp; omega
       have i1 : (0 : Int) ≤ (j : Int) := by omega
       have i2 : (j : Int) < (n : Int) := by omega
       have i3 : (0 : Int) ≤ (j : Int) + 1 := by omega
       have i4 : (j : Int) + 1 < (n : Int) := by omega
       generalize ys[j] = x at *
       generalize ys[j + 1] = y at *
       clear hI
       go_upto_region 11 with fail
       go_cut [9] from 22 to 34 (fun t wx => t = .int .i64 (Tm.classOf lns x) ∧ Below wr.heap.size wr wx)
       case first =>
        go_region_with (go_at_call 88; refine (Class_any _ st sh x lns _ (by exact (HT.out.below HB0y.out).below (Below.refl _ _).drew) HF.out hl).mono ?_; rintro e w2 ⟨rfl, hbp⟩)
        all_goals (go_wp2_with fail; go_meet; exact ⟨rfl, ((Below.refl _ _).drew).trans hbp⟩)
       case rest =>
        obtain ⟨rfl, hbp1⟩ := hcut
        have HBP1 := hide hbp1
        have hz1 := hbp1.size
        have b0' : wc.cell? ⟨w.heap.size, 0, none⟩ = some (.slice a lns.length cap) := by rw [hbp1.cell (by simp only; omega)]; exact b0
        have b1' : wc.cell? ⟨w.heap.size, 1, none⟩ = some (.int .i64 st) := by rw [hbp1.cell (by simp only; omega)]; exact b1
        have b2' : wc.cell? ⟨w.heap.size, 2, none⟩ = some (.bool sh) := by rw [hbp1.cell (by simp only; omega)]; exact b2
        have cx' : wc.cell? ⟨g, j, none⟩ = some (.int .i64 x) := by rw [hbp1.cell (by simp only; omega)]; exact cx
        have cy' : wc.cell? ⟨g, j + 1, none⟩ = some (.int .i64 y) := by rw [hbp1.cell (by simp only; omega)]; exact cy
        have HTC : Hid (TableRd wc (.slice a lns.length cap) lns) := (HT.out.below HB0y.out).below HBP1.out
        clear hbp1
        go_upto_region 12 with fail
        go_cut [10] from 22 to 41 (fun t wx => t = .int .i64 (Tm.classOf lns y) ∧ Below wr.heap.size wr wx)
        case first =>
         have i5 : IntKind.i64.wrap ((j : Int) + 1) = (j : Int) + 1 := by rw [IntKind.wrap_i64]; omega
         go_region_with (go_at_call 88; refine (Class_any _ st sh y lns _ (by exact HTC.out.below (Below.refl _ _).drew) HF.out hl).mono ?_; rintro e w2 ⟨rfl, hbp⟩)
         all_goals (go_wp2_with fail; go_meet; exact ⟨rfl, HBP1.out.trans ((((Below.refl _ _).drew).trans hbp).mono hz1)⟩)
        case rest =>
         obtain ⟨rfl, hbp2⟩ := hcut
         have HBP2 := hide hbp2
         have hz2 := hbp2.size
         have HIC : Hid (Ints wc g 0 (ys.take j ++ x :: ([] ++ y :: ys.drop (j + 2)))) := HI2.out.below HBP2.out hg2
         have HBC : Hid (Below (w.heap.size + 1) (w.alloc (.cells #[.slice a lns.length cap, .int .i64 st, .bool sh] 29)) wc) := HBy.out.trans (HBP2.out.mono hzr)
         have HHC : Hid (Held wc (w.heap.size + 1) (some ⟨g, 0, none⟩) ys) := HHy.out.below HBP2.out (Nat.le_refl _)
         have cx2 : wc.cell? ⟨g, j, none⟩ = some (.int .i64 x) := by rw [hbp2.cell (by simp only; omega)]; exact cx
         have cy2 : wc.cell? ⟨g, j + 1, none⟩ = some (.int .i64 y) := by rw [hbp2.cell (by simp only; omega)]; exact cy
         have fx2 : wc.frozen? ⟨g, j, none⟩ = false := by rw [World.frozen?_of_block (hbp2.block g hg2)]; exact fx
         have fy2 : wc.frozen? ⟨g, j + 1, none⟩ = false := by rw [World.frozen?_of_block (hbp2.block g hg2)]; exact fy
         have hgc : g < wc.heap.size := by omega
         clear hbp2 b0 b1 b2 b0' b1' b2' cx cy cx' cy' fx fy
         have HW : Hid (Tm.wrong (Tm.classOf lns) x y = decide (Tm.classOf lns y ≠ 0 ∧ Tm.classOf lns y < Tm.classOf lns x)) := rfl
         generalize Tm.classOf lns x = kx at *
         generalize Tm.classOf lns y = ky at *
         by_cases hgt : ky < kx
         ·cases hz : (ky != 0)
          ·have HQ := hide (HON.out (by rw [HW.out]; simp at hz; simp [hz]))
           go_wp2
           go_roundw
           case rel => exact ⟨t, j + 1, ys, rfl, by go_num, by omega, HHC.out, HBC.out, HQ.out⟩
           case measure => simp [intOf]; omega
          ·have HQ := hide (HSW.out (by rw [HW.out]; simp at hz; simp [hz, hgt]))
           have HM := hide (HIC.out.swap HLJ.out (j := j + 1) (by rw [← HLJ.out]; rfl))
           go_wp2
           go_roundw
           case rel =>
            refine ⟨true, j + 1, _, rfl, by go_num, by omega, .inr ⟨g, rfl, hg1, by simpa using hgc, ?_⟩, (HBC.out.setCell (p := ⟨g, j, none⟩) hg1 _).setCell (p := ⟨g, j + 1, none⟩) hg1 _, HQ.out⟩
            have h := HM.out
            rw [Nat.zero_add, Nat.zero_add] at h
            exact h
           case measure => simp [intOf]; omega
         ·have HQ := hide (HON.out (by rw [HW.out]; simp; omega))
          go_wp2
          go_roundw
          case rel => exact ⟨t, j + 1, ys, rfl, by go_num, by omega, HHC.out, HBC.out, HQ.out⟩
          case measure => simp [intOf]; omega
      ·have HRY : Hid (Reads wr (.slice ao n capo) 1 ys.length (ints ys)) := by
        have h := HHy.out.reads (cap := capo) (by rw [hyn]; exact HCAP.out.1) HCAP.out.2
        rw [hyn] at h ⊢; exact h
       have HLEFT := hide (HPASS.out.left HLX.out (listOf_eq HRY.out))
       have hj9 : (n : Int) ≤ (j : Int) + 1 := by omega
       clear hheld
       go_wp2
       go_roundw
       case rel => exact ⟨t, ys, rfl, hyn, HHy.out, HBy.out, HPASS.out.same, fun h => by subst h; exact HPASS.out.calm (by omega)⟩
       case measure => exact HLEFT.out
  ·go_wp2_with fail
   refine (steps_any _ st sh _ l lns _ (HT.out.below HB0.out) (Reads.of_owns HO.out) hl (by omega) HL3.out HNE.out).mono ?_
   rintro e w2 ⟨v2, rfl, hown2, hb2⟩
   have HO2 : Hid (w2.ownsRow (w.heap.size + 1) 3 1 v2 (Tm.stepAll lns l).length (ints (Tm.stepAll lns l))) := owns_mono hown2 (by omega)
   have HB2 : Hid (Below (w.heap.size + 1) (w.alloc (.cells #[.slice a lns.length cap, .int .i64 st, .bool sh] 29)) w2) := HB.out.trans (hb2.mono (by omega))
   have HGO := hide HST.out.go
   have HLESS := hide (HST.out.less (listOf_eq (Reads.of_owns HO.out)) (listOf_eq (Reads.of_owns HO2.out)))
   clear hown2 hb2
   generalize Tm.hasParts lns l = t2 at *
   go_wp2
   go_roundw
   case rel => exact ⟨_, t2, rfl, HO2.out, HB2.out, HGO.out⟩
   case measure => exact HLESS.out
theorem RefNormal_any (vl : Value) (st : Int) (sh : Bool) (s : ByteArray) (lns : List Tm.Ln) (w : World) (ht : TableRd w vl lns) (hfit : ∀ o ∈ lns, Tm.Fit o) (hl : lns.length ≤ 1000000) (hends : ∀ r, Tm.ends lns 4 r = true) (hs : s.size ≤ 64) :
  Calls Tryz.prog 42 #[.agg #[vl, .int .i64 st, .bool sh], .string s] w fun e w' => ∃ v, e = .returned v ∧ Reads w' v 1 (normOf lns s).length (ints (normOf lns s)) ∧ Below w.heap.size w w' :=
 (RefNormal_new vl st sh s lns w ht hfit hl hends hs).mono fun _ _ ⟨v, h1, h2, h3, _⟩ => ⟨v, h1, h2, h3⟩
end Go.Proofs.YtmnjjjhmnhfapaaGreatDoor
