import Derived.Deep.RegionHeld3
import Derived.Test.YtmnjjjhmnhfapaaGreatDoorMLevels
import Derived.Test.YtmnjjjhmnhfapaaGreatDoorMCodeApi
import Derived.Test.YtmnjjjhmnhfapaaGreatDoorMRefEls2
import Derived.Test.YtmnjjjhmnhfapaaGreatDoorMRefNormalW
namespace Go.Proofs.YtmnjjjhmnhfapaaGreatDoor
open Go.RowKit

set_option maxRecDepth 100000 in
set_option maxHeartbeats 4000000 in
theorem bookParted_any (lns : List Tm.Ln) (bc bm bb B : Nat) (st : Int) (sh : Bool) (vb vl : Value) (rows : List Value) (s : ByteArray) (w : World) (hcoll : Coll w bc bm st sh lns) (ht : TableRd w vl lns) (hok : TableOk st lns) (hbook : EBookIs w bb B vb rows) (hrows : rows.length ≤ 90000000) :
    Calls Tryz.prog 13 #[.pointer (some ⟨bb, 0, none⟩), .pointer (some ⟨bc, 0, none⟩), .agg #[vl, .int .i64 st, .bool sh], .string s] w fun e w' => e = .returned (.bool true) ∧ ∃ vb' rows', EBookIs w' bb B vb' rows' ∧ rows'.length ≤ rows.length + 4 ∧ Turns bb vb vb' w w' := by
  obtain ⟨a, cap, rfl⟩ := ht.shape
  have HOK := hide hok
  have HBK := hide hbook
  have HF := hide hcoll.fit
  have hfew : lns.length ≤ 1000000 := by have := hcoll.few; omega
  obtain ⟨W, hW⟩ : ∃ W, w.alloc (.cells #[.slice a lns.length cap, .int .i64 st, .bool sh] 29) = W := ⟨_, rfl⟩
  have hb0 : Below w.heap.size w W := by rw [← hW]; exact (Below.refl _ _).alloc (Nat.le_refl _) _
  have hz0 : W.heap.size = w.heap.size + 1 := by rw [← hW]; simp
  have k0 : W.cell? ⟨w.heap.size, 0, none⟩ = some (.slice a lns.length cap) := by rw [← hW, cell_new rfl]; rfl
  have k1 : W.cell? ⟨w.heap.size, 1, none⟩ = some (.int .i64 st) := by rw [← hW, cell_new rfl]; rfl
  have k2 : W.cell? ⟨w.heap.size, 2, none⟩ = some (.bool sh) := by rw [← hW, cell_new rfl]; rfl
  have HK : Hid (∀ w', Below W.heap.size W w' → w'.cell? ⟨w.heap.size, 0, none⟩ = some (.slice a lns.length cap) ∧ w'.cell? ⟨w.heap.size, 1, none⟩ = some (.int .i64 st) ∧ w'.cell? ⟨w.heap.size, 2, none⟩ = some (.bool sh)) := fun w' h => by
    rw [h.cell (p := ⟨w.heap.size, 0, none⟩) (by simp only; omega), h.cell (p := ⟨w.heap.size, 1, none⟩) (by simp only; omega), h.cell (p := ⟨w.heap.size, 2, none⟩) (by simp only; omega)]
    exact ⟨k0, k1, k2⟩
  have HB0 := hide hb0
  have hn := norm_short' hcoll.fit (s := s)
  have hel := Tm.elements_length hcoll.fit (normOf lns s)
  have HRG := hide (norm_range hcoll.fit s)
  have HC0 := hide (hcoll.below hb0)
  have HT0 := hide (ht.below hb0)
  have HW := hide hW
  clear hcoll ht hok hbook hb0 hW
  go_enter Tryz.func13, Tryz.ntmps13
  go_wp2_with fail
  rw [HW.out]
  refine (CodeElements_any lns bc bm st sh s _ HC0.out HOK.out).mono ?_
  rintro e w1 hans
  by_cases hs : s.size ≤ 64
  · rw [partsOfAns, if_pos hs] at hans
    obtain ⟨v, rfl, hown, hb1⟩ := hans
    have hd : decide (64 < (s.size : Int)) = false := by simp <;> omega
    have hn := hn hs
    obtain ⟨av, capv, rfl⟩ := (Reads.of_owns hown).shape
    have hz1 := hb1.size
    clear k0 k1 k2
    obtain ⟨k0, k1, k2⟩ := HK.out w1 hb1
    have HBW1 := hide hb1
    have HB1 : Hid (Below w.heap.size w w1) := HB0.out.trans (hb1.mono (by omega))
    have HO1 := hide (owns_mono (base' := w.heap.size) hown (by omega))
    have HT1 := hide (HT0.out.below hb1)
    clear hown hb1
    go_wp2_with fail
    go_region_held3 (fun wx => wx.cell? ⟨w.heap.size, 0, none⟩ = some (.slice a lns.length cap) ∧ wx.cell? ⟨w.heap.size, 1, none⟩ = some (.int .i64 st) ∧ wx.cell? ⟨w.heap.size, 2, none⟩ = some (.bool sh)) (go_keep)
      (first
      | (go_at_call 42; refine (RefNormal_any _ st sh s lns _ (HT1.out.below (Below.refl _ _).drew) HF.out hfew HOK.out.ends hs).mono ?_; rintro e w2 ⟨v2, rfl, hr2, hb2⟩; have HR2 := hide hr2; have HB2 : Hid (Below w1.heap.size w1 w2) := (Below.refl _ _).drew.trans hb2; obtain ⟨p0, p1, p2⟩ := HK.out w2 (HBW1.out.trans (HB2.out.mono hz1)); clear hr2 hb2)
      | (go_at_call 41; refine (RefElements_any _ st sh _ (normOf lns s) lns _ (HT1.out.below HB2.out) HR2.out HRG.out hfew (Nat.le_trans hn (by decide)) HF.out).mono ?_; rintro e w3 ⟨v3, rfl, hr3, hb3⟩; obtain ⟨r0, r1, r2⟩ := HK.out w3 (HBW1.out.trans ((HB2.out.trans (hb3.mono HB2.out.size)).mono hz1))))
    obtain ⟨a3, cap3, rfl⟩ := hr3.shape
    have hz2 := HB2.out.size
    have hz3 := hb3.size
    have HB3 : Hid (Below w.heap.size w w3) := HB1.out.trans ((HB2.out.trans (hb3.mono hz2)).mono (by omega))
    have HO3 : Hid (w3.ownsRow w.heap.size 102 4 (.slice av (Tm.elements lns (normOf lns s)).length capv) (Tm.elements lns (normOf lns s)).length (elsCells (Tm.elements lns (normOf lns s)))) := ownsRow_same HO1.out (fun g hg => (hb3.block g (by have := (HO1.out.lt g hg).2; omega)).trans (HB2.out.block g (HO1.out.lt g hg).2))
    have HR3 := hide hr3
    clear hb3 hr3 k0 k1 k2 p0 p1 p2 r0 r1 r2
    go_wp2_with fail
    refine (lawSameEls_any _ _ (Tm.elements lns (normOf lns s)) _ (Reads.of_owns HO3.out) HR3.out (by omega)).mono ?_
    rintro e w4 ⟨rfl, q, rfl⟩
    have hz4 : w.heap.size ≤ w3.heap.size := by omega
    go_wp2_with fail
    refine (keepElements_any bb B w.heap.size vb _ rows (Tm.elements lns (normOf lns s)) (w3.drewN q) ?_ ?_ ?_ (by exact HO3.out) HBK.out.lt (fun g hg => ⟨(HBK.out.row.lt g hg).2, HBK.out.other g hg⟩) hz4 (by have := HBK.out.lt; have := HBK.out.le; omega) (by omega) (by omega)).mono ?_
    · exact (HBK.out.stay HB3.out).cell
    · exact (HBK.out.stay HB3.out).free
    · exact (HBK.out.stay HB3.out).row
    rintro e w5 ⟨rfl, vb', v1, v2, v3, hk⟩
    have HBK5 := hide (HBK.out.kept (w := w3.drewN q) ⟨HB3.out.os, HB3.out.tape, HB3.out.output, HB3.out.size, HB3.out.block⟩ hk (by omega))
    have HTU : Hid (Turns bb vb vb' w w5) := ⟨Nat.le_trans hz4 hk.size, hk.os.trans HB3.out.os, hk.tape.trans HB3.out.tape, hk.output.trans HB3.out.output, fun k h1 h2 h3 => (hk.block k h1 h2 h3).trans (HB3.out.block k h1), fun g hg => (hk.at' g hg).imp id (fun h => Nat.le_trans hz4 h)⟩
    clear hk
    go_wp2
    go_ret
    exact ⟨rfl, vb', _, HBK5.out, by simp, HTU.out⟩
  · rw [partsOfAns, if_neg hs] at hans
    obtain ⟨rfl, rfl⟩ := hans
    have hd : decide (64 < (s.size : Int)) = true := by simp <;> omega
    go_wp2
    go_ret
    exact ⟨rfl, vb, rows, HBK.out.stay HB0.out, by omega, Turns.of HB0.out⟩
end Go.Proofs.YtmnjjjhmnhfapaaGreatDoor
