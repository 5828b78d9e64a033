import Derived.BigQuiet
import Derived.Test.YtmnjjjhmnhfapaaGreatDoorMCodeCmp
import Derived.Test.YtmnjjjhmnhfapaaGreatDoorMLawEKeep
namespace Go.Proofs.YtmnjjjhmnhfapaaGreatDoor
open Go.RowKit

set_option maxRecDepth 100000 in
set_option maxHeartbeats 2000000 in
theorem order_any (va vb : Value) (a b : List Int) (w : World) (ha : Reads w va 1 a.length (ints a)) (hb : Reads w vb 1 b.length (ints b)) (_hla : a.length ≤ 1000000) (_hlb : b.length ≤ 1000000) :
    Calls Tryz.prog 94 #[va, vb] w fun e w' => e = .returned (.int .i64 (Tm.cmpL a b)) ∧ ∃ q, w' = w.drewN q := by
  obtain ⟨aa, ca, rfl⟩ := ha.shape
  obtain ⟨ab, cb, rfl⟩ := hb.shape
  have HA := hide ha
  have HB := hide hb
  obtain ⟨n, hn⟩ : ∃ n, a.length = n := ⟨_, rfl⟩
  obtain ⟨m, hm⟩ : ∃ m, b.length = m := ⟨_, rfl⟩
  have HN := hide hn
  have HM := hide hm
  rw [hn] at _hla HA
  rw [hm] at HB
  rw [hn, hm]
  clear ha hb hn hm
  go_enter Tryz.func94, Tryz.ntmps94
  go_wp2_with fail
  go_loopw [5] (fun i wr => ∃ k : Nat, k ≤ n ∧ k ≤ m ∧ i = .int .i64 k ∧ Tm.cmpL a b = Tm.cmpL (a.drop k) (b.drop k) ∧ ∃ q, wr = w.drewN q) (fun i _ => n - (intOf i).toNat)
  case atStart => exact ⟨0, Nat.zero_le _, Nat.zero_le _, rfl, rfl, 0, rfl⟩
  case round =>
    obtain ⟨k, hk, hkm, rfl, hcm, q, rfl⟩ := hrel
    have HCM := hide hcm
    clear hcm
    by_cases hlt : k < n
    · have hlt' : k < a.length := by rw [HN.out]; exact hlt
      obtain ⟨g, off, rfl, hg, ck⟩ := Reads.at (by rw [HN.out]; exact HA.out) hlt'
      have i1 : (0 : Int) ≤ (k : Int) := by omega
      have i2 : (k : Int) < (n : Int) := by omega
      by_cases hlm : k < m
      · have hlm' : k < b.length := by rw [HM.out]; exact hlm
        obtain ⟨gb, ob, rfl, hgb, cbk⟩ := Reads.at (by rw [HM.out]; exact HB.out) hlm'
        have i3 : (k : Int) < (m : Int) := by omega
        have HST := hide (Tm.cmpL_step hlt' hlm')
        generalize a[k] = x at *
        generalize b[k] = y at *
        go_wp2
        go_quiet (fail)
        obtain ⟨q1, hq1⟩ : ∃ q1, w.drewN q1 = (w.drewN q).drewN nq := ⟨q + nq, by simp⟩
        rw [← hq1]
        by_cases h1 : x < y
        · go_wp2
          go_ret
          exact ⟨ret_int (by rw [HCM.out, HST.out, if_pos h1]), q1, rfl⟩
        · clear hq1
          go_wp2
          go_quiet (fail)
          by_cases h2 : y < x
          · go_wp2
            go_ret
            exact ⟨ret_int (by rw [HCM.out, HST.out, if_neg (by omega), if_pos h2]), q1 + nq, by simp⟩
          · go_wp2
            go_roundw
            case rel => exact ⟨k + 1, by omega, by omega, by go_num, by rw [HCM.out, HST.out, if_neg (by omega), if_neg (by omega)], q1 + nq, by simp⟩
            case measure => simp [intOf]; omega
      · have HST := hide (Tm.cmpL_more hlt' (show b.length ≤ k by rw [HM.out]; omega))
        have hmn : m < n := by omega
        go_wp2
        go_ret
        exact ⟨ret_int (by rw [HCM.out, HST.out]), _, rfl⟩
    · have HST := hide (Tm.cmpL_end (b := b) (show a.length ≤ k by rw [HN.out]; omega))
      rw [HM.out] at HST
      by_cases hnm : n < m
      · go_wp2
        go_ret
        exact ⟨ret_int (by rw [HCM.out, HST.out, if_pos (by omega)]), _, rfl⟩
      · have hmn : ¬ m < n := by omega
        go_wp2
        go_ret
        exact ⟨ret_int (by rw [HCM.out, HST.out, if_neg (by omega)]), _, rfl⟩
end Go.Proofs.YtmnjjjhmnhfapaaGreatDoor
namespace Go.Proofs.YtmnjjjhmnhfapaaGreatDoor
open Go.RowKit

namespace Tm
/-- The one number that an element gives to a level; 0: none. -/
def gives (sh b : Bool) (e : El) (k : Nat) : Int :=
  if sh then (if b then (if k = 3 then e.p else 0) else (if k = 0 then e.p else if k = 1 then e.s else if k = 2 then e.t else if empty e then 0 else 65535))
  else (if k = 0 then e.p else if k = 1 then e.s else if k = 2 then e.t else 0)
theorem gives_eq {sh b : Bool} {e : El} {k : Nat} (hk : k < 4) : nz (gives sh b e k) = if sh then shiftW b e k else plainW e k := by
  rcases (show k = 0 ∨ k = 1 ∨ k = 2 ∨ k = 3 by omega) with rfl | rfl | rfl | rfl <;> cases sh <;> cases b <;> simp [gives, shiftW, plainW, nz] <;> (split <;> simp)
theorem level_gives {sh : Bool} {els : List El} {i k : Nat} (hi : i < els.length) (hk : k < 4) : level sh (els.take (i + 1)) k = level sh (els.take i) k ++ nz (gives sh (lastB false (els.take (i + 1))) els[i] k) := by
  rw [gives_eq hk, List.take_succ_eq_append_getElem hi, level_snoc, lastB_snoc]
/-- How the last element with a primary weight is sought, from j on downward. -/
def Sought (els : List El) (i j : Nat) (y : El) : Prop := (y.p ≠ 0 → lastB false (els.take (i + 1)) = y.v) ∧ (y.p = 0 → lastB false (els.take (i + 1)) = lastB false (els.take j))
theorem Sought.start {els : List El} {i : Nat} (hi : i < els.length) : Sought els i (i + 1) els[i] := by
  refine ⟨fun h => ?_, fun _ => rfl⟩
  rw [List.take_succ_eq_append_getElem hi, lastB_snoc]
  simp [behind, h]
theorem Sought.step {els : List El} {i j : Nat} {y : El} (h : Sought els i (j + 1) y) (h0 : y.p = 0) (hj : j < els.length) : Sought els i j els[j] := by
  have h1 := h.2 h0
  rw [List.take_succ_eq_append_getElem hj, lastB_snoc] at h1
  refine ⟨fun h => ?_, fun h => ?_⟩
  · rw [h1]; simp [behind, h]
  · rw [h1]; simp [behind, h]
theorem Sought.done {els : List El} {i j : Nat} {y : El} (h : Sought els i j y) (hv : y.v = true → y.p ≠ 0) (hd : y.p ≠ 0 ∨ j = 0) : y.v = lastB false (els.take (i + 1)) := by
  by_cases h0 : y.p = 0
  · rcases hd with h1 | h1
    · exact absurd h0 h1
    · rw [h.2 h0, h1]
      cases hy : y.v
      · rfl
      · exact absurd h0 (hv hy)
  · exact (h.1 h0).symm
end Tm
theorem four_of {P : Nat → Prop} {kk : Nat} (h : 1 ≤ kk ∧ kk ≤ 4) (h1 : P 1) (h2 : P 2) (h3 : P 3) (h4 : P 4) : P kk := by
  rcases (show kk = 1 ∨ kk = 2 ∨ kk = 3 ∨ kk = 4 by omega) with rfl | rfl | rfl | rfl <;> assumption

set_option maxRecDepth 100000 in
set_option maxHeartbeats 8000000 in
theorem Level_any (vl : Value) (st : Int) (sh : Bool) (ve : Value) (els : List Tm.El) (kk : Nat) (w : World) (he : Reads w ve 4 els.length (elsCells els)) (hk : 1 ≤ kk ∧ kk ≤ 4) (hl : els.length ≤ 800000) (hvar : ∀ x ∈ els, x.v = true → x.p ≠ 0) :
    Calls Tryz.prog 95 #[.agg #[vl, .int .i64 st, .bool sh], ve, .int .i64 kk] w fun e w' => ∃ v, e = .returned v ∧ Reads w' v 1 (Tm.level sh els (kk - 1)).length (ints (Tm.level sh els (kk - 1))) ∧ Below w.heap.size w w' := by
  obtain ⟨i0, hi, hz0, hz1, hz2⟩ := info_parts Tryz.infoInt
  obtain ⟨a, cap, rfl⟩ := he.shape
  have HE := hide he
  have HVAR := hide hvar
  obtain ⟨W, hW⟩ : ∃ W, w.alloc (.cells #[vl, .int .i64 st, .bool sh] 29) = W := ⟨_, rfl⟩
  have hb0 : Below w.heap.size w W := by rw [← hW]; exact (Below.refl _ _).alloc (Nat.le_refl _) _
  have hzW : W.heap.size = w.heap.size + 1 := by rw [← hW]; simp
  have k2 : W.cell? ⟨w.heap.size, 2, none⟩ = some (.bool sh) := by rw [← hW, cell_new rfl]; rfl
  have HB0 := hide hb0
  have HK2 := hide k2
  obtain ⟨n, hn⟩ : ∃ n, els.length = n := ⟨_, rfl⟩
  have HN := hide hn
  rw [hn] at hl HE
  rw [hn]
  obtain ⟨hk1, hk4⟩ := hk
  have i3 : (0 : Int) ≤ (kk : Int) := by omega
  have i4 : (kk : Int) < 5 := by omega
  clear he hb0 k2 hvar hn
  go_enter Tryz.func95, Tryz.ntmps95
  go_wp2_with fail
  go_loopw [7, 8] (fun vo q wr => ∃ i : Nat, i ≤ n ∧ q = .int .i64 i ∧ wr.ownsRow W.heap.size 3 1 vo (Tm.level sh (els.take i) (kk - 1)).length (ints (Tm.level sh (els.take i) (kk - 1))) ∧ Below W.heap.size W wr) (fun _ q _ => n - (intOf q).toNat)
  case atStart => exact ⟨0, Nat.zero_le _, rfl, World.ownsRow_nil _ _ _ _, Below.refl _ _⟩
  case round =>
    obtain ⟨i, hin, rfl, hown, hb⟩ := hrel
    have HO := hide hown
    have HB := hide hb
    have hzr := hb.size
    obtain ⟨ao, co, rfl⟩ := (Reads.of_owns hown).shape
    have HBW : Hid (Below w.heap.size w wr) := HB0.out.trans (hb.mono (by omega))
    have hlv : (Tm.level sh (els.take i) (kk - 1)).length ≤ 800000 := by
      have h1 : (Tm.level sh (els.take i) (kk - 1)).length ≤ (els.take i).length := Tm.lev_length sh (kk - 1) _ _
      have h2 : (els.take i).length ≤ n := by rw [List.length_take, HN.out]; omega
      omega
    clear hown hb
    by_cases hlt : i < n
    · have hlt' : i < els.length := by rw [HN.out]; exact hlt
      have HER := hide (HE.out.below HBW.out HE.out.2.1)
      obtain ⟨g, off, rfl, hg, c0, c1, c2, c3⟩ := els_at (by rw [HN.out]; exact HER.out) hlt'
      have HLG := hide (Tm.level_gives (sh := sh) (k := kk - 1) hlt' (by omega))
      have HSO := hide (Tm.Sought.start hlt')
      have hvx := HVAR.out els[i] (List.getElem_mem hlt')
      have hmem : els[i] ∈ els := List.getElem_mem hlt'
      have HME := hide hmem
      obtain ⟨b, hbd⟩ : ∃ b, Tm.lastB false (els.take (i + 1)) = b := ⟨_, rfl⟩
      have HBD := hide hbd
      rw [hbd] at HLG
      obtain ⟨x, hx⟩ : ∃ x, els[i] = x := ⟨_, rfl⟩
      rw [hx] at c0 c1 c2 c3 HLG HSO HME hvx
      obtain ⟨p, s, t, v⟩ := x
      simp only at c0 c1 c2 c3 hvx
      have i1 : (0 : Int) ≤ (i : Int) := by omega
      have i2 : (i : Int) < (n : Int) := by omega
      have ksh : wr.cell? ⟨w.heap.size, 2, none⟩ = some (.bool sh) := by rw [HB.out.cell (p := ⟨w.heap.size, 2, none⟩) (by simp only; omega)]; exact HK2.out
      have hwlt : w.heap.size < wr.heap.size := by omega
      obtain ⟨L, hL⟩ : ∃ L, Tm.level sh (els.take i) (kk - 1) = L := ⟨_, rfl⟩
      rw [hL] at HO hlv HLG ⊢
      clear hbd hx hmem hL
      obtain ⟨V0, hV0⟩ : ∃ V0, (wr.alloc (.cells #[.int .i64 p, .int .i64 s, .int .i64 t, .bool v] 102)).alloc (.cells #[.int .i64 0, .int .i64 p, .int .i64 s, .int .i64 t, .int .i64 0] 3) = V0 := ⟨_, rfl⟩
      have kshV : V0.cell? ⟨w.heap.size, 2, none⟩ = some (.bool sh) := by rw [← hV0, cell_old (by simp <;> omega), cell_old hwlt]; exact ksh
      have HV0 := hide hV0
      clear hV0
      go_upto_region 7 with fail
      rw [HV0.out]
      go_upto_if 32 with fail
      go_cut [10, 11, 12] from 30 to 69 (fun y y1 y2 wx => ∃ bw, y = .slice (some ⟨bw, 0, none⟩) 5 5 ∧ bw < wx.heap.size ∧ wx.cell? ⟨bw, kk, none⟩ = some (.int .i64 (Tm.gives sh b ⟨p, s, t, v⟩ (kk - 1))) ∧ Below wr.heap.size wr wx)
      case first =>
        rw [← HV0.out]
        cases sh
        · go_wp2
          go_meet
          refine ⟨wr.heap.size + 1, rfl, by simp, ?_, ((Below.refl _ _).alloc (Nat.le_refl _) _).alloc (by simp) _⟩
          rw [cell_new (by simp)]
          exact four_of (P := fun kk => (#[Value.int .i64 0, .int .i64 p, .int .i64 s, .int .i64 t, .int .i64 0] : Array Value)[kk]? = some (.int .i64 (Tm.gives false b ⟨p, s, t, v⟩ (kk - 1)))) ⟨hk1, hk4⟩ rfl rfl rfl rfl
        · go_upto_region 9 with fail
          obtain ⟨V1, hV1⟩ : ∃ V1, (wr.alloc (.cells #[.int .i64 p, .int .i64 s, .int .i64 t, .bool v] 102)).alloc (.cells #[.int .i64 0, .int .i64 p, .int .i64 s, .int .i64 t, .int .i64 65535] 3) = V1 := ⟨_, rfl⟩
          have HV1 := hide hV1
          rw [hV1]
          have m0 : V1.cell? ⟨wr.heap.size, 0, none⟩ = some (.int .i64 p) := by rw [← hV1, cell_old (by simp), cell_new rfl]; rfl
          have m1 : V1.cell? ⟨wr.heap.size, 1, none⟩ = some (.int .i64 s) := by rw [← hV1, cell_old (by simp), cell_new rfl]; rfl
          have m2 : V1.cell? ⟨wr.heap.size, 2, none⟩ = some (.int .i64 t) := by rw [← hV1, cell_old (by simp), cell_new rfl]; rfl
          clear hV1
          go_cut [47] from 30 to 69 (fun y wx => y = .bool (Tm.empty ⟨p, s, t, v⟩) ∧ V1 = wx)
          case first =>
            go_wp2
            all_goals go_meet
            all_goals refine ⟨?_, rfl⟩
            all_goals simp [Tm.empty, *]
          case rest =>
            obtain ⟨rfl, rfl⟩ := hcut
            rw [← HV1.out]
            clear m0 m1 m2
            cases hem : Tm.empty ⟨p, s, t, v⟩
            · skip
              obtain ⟨V2, hV2⟩ : ∃ V2, ((wr.alloc (.cells #[.int .i64 p, .int .i64 s, .int .i64 t, .bool v] 102)).alloc (.cells #[.int .i64 0, .int .i64 p, .int .i64 s, .int .i64 t, .int .i64 65535] 3)).alloc (.cells #[.int .i64 p, .int .i64 s, .int .i64 t, .bool v] 102) = V2 := ⟨_, rfl⟩
              have hzV2 : V2.heap.size = wr.heap.size + 3 := by rw [← hV2]; simp
              have hbV2 : Below wr.heap.size wr V2 := by rw [← hV2]; exact (((Below.refl _ _).alloc (Nat.le_refl _) _).alloc (by simp) _).alloc (by simp <;> omega) _
              have l0 : V2.cell? ⟨wr.heap.size + 1 + 1, 0, none⟩ = some (.int .i64 p) := by rw [← hV2, cell_new (by simp)]; rfl
              have l1 : V2.cell? ⟨wr.heap.size + 1 + 1, 1, none⟩ = some (.int .i64 s) := by rw [← hV2, cell_new (by simp)]; rfl
              have l2 : V2.cell? ⟨wr.heap.size + 1 + 1, 2, none⟩ = some (.int .i64 t) := by rw [← hV2, cell_new (by simp)]; rfl
              have l3 : V2.cell? ⟨wr.heap.size + 1 + 1, 3, none⟩ = some (.bool v) := by rw [← hV2, cell_new (by simp)]; rfl
              have lf : ∀ o, V2.frozen? ⟨wr.heap.size + 1 + 1, o, none⟩ = false := fun o => by rw [← hV2, frozen_new (by simp)]
              have HLL := hide (And.intro l0 (And.intro l1 (And.intro l2 (And.intro l3 lf))))
              have HBV2 := hide hbV2
              have HV2 := hide hV2
              clear hbV2 hV2 l0 l1 l2 l3 lf c0 c1 c2 c3 ksh kshV
              go_wp2_with fail
              rw [HV2.out]
              obtain ⟨wo, rfl⟩ : ∃ wo : World, wo = wr := ⟨_, rfl⟩
              go_loopw [12] (fun q wi => ∃ (j : Nat) (y : Tm.El), q = .int .i64 ((j : Int) - 1) ∧ j ≤ i + 1 ∧ y ∈ els ∧ Tm.Sought els i j y ∧ wi.cell? ⟨wo.heap.size + 1 + 1, 0, none⟩ = some (.int .i64 y.p) ∧ wi.cell? ⟨wo.heap.size + 1 + 1, 1, none⟩ = some (.int .i64 y.s) ∧ wi.cell? ⟨wo.heap.size + 1 + 1, 2, none⟩ = some (.int .i64 y.t) ∧ wi.cell? ⟨wo.heap.size + 1 + 1, 3, none⟩ = some (.bool y.v) ∧ (∀ o, wi.frozen? ⟨wo.heap.size + 1 + 1, o, none⟩ = false) ∧ Sole V2.heap.size (wo.heap.size + 1 + 1) V2 wi ∧ wi.heap.size = V2.heap.size) (fun q _ => ((intOf q) + 1).toNat)
              case atStart => exact ⟨i + 1, ⟨p, s, t, v⟩, by congr 1; omega, Nat.le_refl _, HME.out, HSO.out, HLL.out.1, HLL.out.2.1, HLL.out.2.2.1, HLL.out.2.2.2.1, HLL.out.2.2.2.2, Sole.refl _ _ _, rfl⟩
              case round =>
                obtain ⟨j, y, rfl, hj, hym, hso, y0, y1, y2, y3, yf, hsole, hsz⟩ := hrel
                have hyvar := HVAR.out y hym
                obtain ⟨yp, ys, yt, yv⟩ := y
                simp only at y0 y1 y2 y3 hyvar
                have hbl : wo.heap.size + 1 + 1 < wr.heap.size := by omega
                cases j with
                | zero =>
                  have ej : ((0 : Nat) : Int) - 1 = -1 := rfl
                  rw [ej]
                  have hyv : yv = b := (hso.done hyvar (.inr rfl)).trans HBD.out
                  subst hyv
                  have HBI : Hid (Below wo.heap.size wo wr) := HBV2.out.trans (hsole.below (by omega) (by omega))
                  cases yv
                  · have HCW : Hid (wr.cell? ⟨wo.heap.size + 1, kk, none⟩ = some (.int .i64 (Tm.gives true false ⟨p, s, t, v⟩ (kk - 1)))) := by
                      unfold Hid
                      rw [hsole.cell (p := ⟨wo.heap.size + 1, kk, none⟩) (by simp only; omega) (by simp only; omega), ← HV2.out, cell_old (by simp), cell_new (by simp)]
                      exact four_of (P := fun kk => (#[Value.int .i64 0, .int .i64 p, .int .i64 s, .int .i64 t, .int .i64 65535] : Array Value)[kk]? = some (.int .i64 (Tm.gives true false ⟨p, s, t, v⟩ (kk - 1)))) ⟨hk1, hk4⟩ rfl rfl rfl (by simp [Tm.gives, hem])
                    go_wp2
                    go_meet
                    exact ⟨wo.heap.size + 1, rfl, by omega, HCW.out, HBI.out⟩
                  · have cpx : wr.cell? ⟨wo.heap.size, 0, none⟩ = some (.int .i64 p) := by
                      rw [hsole.cell (p := ⟨wo.heap.size, 0, none⟩) (by simp only; omega) (by simp only; omega), ← HV2.out, cell_old (by simp <;> omega), cell_old (by simp), cell_new rfl]; rfl
                    go_wp2
                    go_meet
                    refine ⟨_, rfl, by simp <;> omega, ?_, HBI.out.alloc (by omega) _⟩
                    rw [cell_new (by omega)]
                    exact four_of (P := fun kk => (#[Value.int .i64 0, .int .i64 0, .int .i64 0, .int .i64 0, .int .i64 p] : Array Value)[kk]? = some (.int .i64 (Tm.gives true true ⟨p, s, t, v⟩ (kk - 1)))) ⟨hk1, hk4⟩ rfl rfl rfl rfl
                | succ j =>
                  have ej : ((j + 1 : Nat) : Int) - 1 = (j : Int) := by omega
                  rw [ej]
                  cases hy0 : (yp == 0)
                  · have hyp : yp ≠ 0 := by simpa using hy0
                    have hyv : yv = b := (hso.done hyvar (.inl hyp)).trans HBD.out
                    subst hyv
                    have HBI : Hid (Below wo.heap.size wo wr) := HBV2.out.trans (hsole.below (by omega) (by omega))
                    cases yv
                    · have HCW : Hid (wr.cell? ⟨wo.heap.size + 1, kk, none⟩ = some (.int .i64 (Tm.gives true false ⟨p, s, t, v⟩ (kk - 1)))) := by
                        unfold Hid
                        rw [hsole.cell (p := ⟨wo.heap.size + 1, kk, none⟩) (by simp only; omega) (by simp only; omega), ← HV2.out, cell_old (by simp), cell_new (by simp)]
                        exact four_of (P := fun kk => (#[Value.int .i64 0, .int .i64 p, .int .i64 s, .int .i64 t, .int .i64 65535] : Array Value)[kk]? = some (.int .i64 (Tm.gives true false ⟨p, s, t, v⟩ (kk - 1)))) ⟨hk1, hk4⟩ rfl rfl rfl (by simp [Tm.gives, hem])
                      go_wp2
                      go_meet
                      exact ⟨wo.heap.size + 1, rfl, by omega, HCW.out, HBI.out⟩
                    · have cpx : wr.cell? ⟨wo.heap.size, 0, none⟩ = some (.int .i64 p) := by
                        rw [hsole.cell (p := ⟨wo.heap.size, 0, none⟩) (by simp only; omega) (by simp only; omega), ← HV2.out, cell_old (by simp <;> omega), cell_old (by simp), cell_new rfl]; rfl
                      go_wp2
                      go_meet
                      refine ⟨_, rfl, by simp <;> omega, ?_, HBI.out.alloc (by omega) _⟩
                      rw [cell_new (by omega)]
                      exact four_of (P := fun kk => (#[Value.int .i64 0, .int .i64 0, .int .i64 0, .int .i64 0, .int .i64 p] : Array Value)[kk]? = some (.int .i64 (Tm.gives true true ⟨p, s, t, v⟩ (kk - 1)))) ⟨hk1, hk4⟩ rfl rfl rfl rfl
                  · have hyp : yp = 0 := by simpa using hy0
                    have hjl : j < els.length := by rw [HN.out]; omega
                    have HBI : Hid (Below wo.heap.size wo wr) := HBV2.out.trans (hsole.below (by omega) (by omega))
                    obtain ⟨g', off', hga, hg', d0, d1, d2, d3⟩ := els_at (by rw [HN.out]; exact HER.out.below HBI.out HER.out.2.1) hjl
                    cases hga
                    have HS2 := hide (hso.step hyp hjl)
                    have HM2 : Hid (els[j] ∈ els) := List.getElem_mem hjl
                    generalize els[j] = z at *
                    obtain ⟨zp, zs, zt, zv⟩ := z
                    simp only at d0 d1 d2 d3
                    have j1 : (0 : Int) ≤ (j : Int) := by omega
                    have j2 : (j : Int) < (n : Int) := by omega
                    have f0 := yf 0
                    have f1 := yf 1
                    have f2 := yf 2
                    have f3 := yf 3
                    have HPC := hide (put4c_cell (v0 := .int .i64 zp) (v1 := .int .i64 zs) (v2 := .int .i64 zt) (v3 := .bool zv) y0 y1 y2 y3)
                    have HPS := hide (put4c_size wr (wo.heap.size + 1 + 1) (.int .i64 zp) (.int .i64 zs) (.int .i64 zt) (.bool zv))
                    have HPO : Hid (Sole V2.heap.size (wo.heap.size + 1 + 1) V2 (put4c wr (wo.heap.size + 1 + 1) (.int .i64 zp) (.int .i64 zs) (.int .i64 zt) (.bool zv))) := hsole.trans ⟨rfl, rfl, rfl, by rw [put4c_size]; omega, fun k _ hk => put4c_other hk⟩
                    have HPF : Hid (∀ o, (put4c wr (wo.heap.size + 1 + 1) (.int .i64 zp) (.int .i64 zs) (.int .i64 zt) (.bool zv)).frozen? ⟨wo.heap.size + 1 + 1, o, none⟩ = false) := fun o => by unfold put4c; rw [World.frozen?_setCell, World.frozen?_setCell, World.frozen?_setCell, World.frozen?_setCell]; exact yf o
                    unfold put4c at HPC HPS HPO HPF
                    clear yf
                    go_wp2
                    go_roundw
                    case rel => exact ⟨j, ⟨zp, zs, zt, zv⟩, by go_num, by omega, HM2.out, HS2.out, HPC.out.1, HPC.out.2.1, HPC.out.2.2.1, HPC.out.2.2.2, HPF.out, HPO.out, by rw [HPS.out]; exact hsz⟩
                    case measure => simp [intOf] <;> omega
            · skip
              obtain ⟨V2, hV2⟩ : ∃ V2, ((wr.alloc (.cells #[.int .i64 p, .int .i64 s, .int .i64 t, .bool v] 102)).alloc (.cells #[.int .i64 0, .int .i64 p, .int .i64 s, .int .i64 t, .int .i64 0] 3)).alloc (.cells #[.int .i64 p, .int .i64 s, .int .i64 t, .bool v] 102) = V2 := ⟨_, rfl⟩
              have hzV2 : V2.heap.size = wr.heap.size + 3 := by rw [← hV2]; simp
              have hbV2 : Below wr.heap.size wr V2 := by rw [← hV2]; exact (((Below.refl _ _).alloc (Nat.le_refl _) _).alloc (by simp) _).alloc (by simp <;> omega) _
              have l0 : V2.cell? ⟨wr.heap.size + 1 + 1, 0, none⟩ = some (.int .i64 p) := by rw [← hV2, cell_new (by simp)]; rfl
              have l1 : V2.cell? ⟨wr.heap.size + 1 + 1, 1, none⟩ = some (.int .i64 s) := by rw [← hV2, cell_new (by simp)]; rfl
              have l2 : V2.cell? ⟨wr.heap.size + 1 + 1, 2, none⟩ = some (.int .i64 t) := by rw [← hV2, cell_new (by simp)]; rfl
              have l3 : V2.cell? ⟨wr.heap.size + 1 + 1, 3, none⟩ = some (.bool v) := by rw [← hV2, cell_new (by simp)]; rfl
              have lf : ∀ o, V2.frozen? ⟨wr.heap.size + 1 + 1, o, none⟩ = false := fun o => by rw [← hV2, frozen_new (by simp)]
              have HLL := hide (And.intro l0 (And.intro l1 (And.intro l2 (And.intro l3 lf))))
              have HBV2 := hide hbV2
              have HV2 := hide hV2
              clear hbV2 hV2 l0 l1 l2 l3 lf c0 c1 c2 c3 ksh kshV
              go_wp2_with fail
              rw [HV2.out]
              obtain ⟨wo, rfl⟩ : ∃ wo : World, wo = wr := ⟨_, rfl⟩
              go_loopw [12] (fun q wi => ∃ (j : Nat) (y : Tm.El), q = .int .i64 ((j : Int) - 1) ∧ j ≤ i + 1 ∧ y ∈ els ∧ Tm.Sought els i j y ∧ wi.cell? ⟨wo.heap.size + 1 + 1, 0, none⟩ = some (.int .i64 y.p) ∧ wi.cell? ⟨wo.heap.size + 1 + 1, 1, none⟩ = some (.int .i64 y.s) ∧ wi.cell? ⟨wo.heap.size + 1 + 1, 2, none⟩ = some (.int .i64 y.t) ∧ wi.cell? ⟨wo.heap.size + 1 + 1, 3, none⟩ = some (.bool y.v) ∧ (∀ o, wi.frozen? ⟨wo.heap.size + 1 + 1, o, none⟩ = false) ∧ Sole V2.heap.size (wo.heap.size + 1 + 1) V2 wi ∧ wi.heap.size = V2.heap.size) (fun q _ => ((intOf q) + 1).toNat)
              case atStart => exact ⟨i + 1, ⟨p, s, t, v⟩, by congr 1; omega, Nat.le_refl _, HME.out, HSO.out, HLL.out.1, HLL.out.2.1, HLL.out.2.2.1, HLL.out.2.2.2.1, HLL.out.2.2.2.2, Sole.refl _ _ _, rfl⟩
              case round =>
                obtain ⟨j, y, rfl, hj, hym, hso, y0, y1, y2, y3, yf, hsole, hsz⟩ := hrel
                have hyvar := HVAR.out y hym
                obtain ⟨yp, ys, yt, yv⟩ := y
                simp only at y0 y1 y2 y3 hyvar
                have hbl : wo.heap.size + 1 + 1 < wr.heap.size := by omega
                cases j with
                | zero =>
                  have ej : ((0 : Nat) : Int) - 1 = -1 := rfl
                  rw [ej]
                  have hyv : yv = b := (hso.done hyvar (.inr rfl)).trans HBD.out
                  subst hyv
                  have HBI : Hid (Below wo.heap.size wo wr) := HBV2.out.trans (hsole.below (by omega) (by omega))
                  cases yv
                  · have HCW : Hid (wr.cell? ⟨wo.heap.size + 1, kk, none⟩ = some (.int .i64 (Tm.gives true false ⟨p, s, t, v⟩ (kk - 1)))) := by
                      unfold Hid
                      rw [hsole.cell (p := ⟨wo.heap.size + 1, kk, none⟩) (by simp only; omega) (by simp only; omega), ← HV2.out, cell_old (by simp), cell_new (by simp)]
                      exact four_of (P := fun kk => (#[Value.int .i64 0, .int .i64 p, .int .i64 s, .int .i64 t, .int .i64 0] : Array Value)[kk]? = some (.int .i64 (Tm.gives true false ⟨p, s, t, v⟩ (kk - 1)))) ⟨hk1, hk4⟩ rfl rfl rfl (by simp [Tm.gives, hem])
                    go_wp2
                    go_meet
                    exact ⟨wo.heap.size + 1, rfl, by omega, HCW.out, HBI.out⟩
                  · have cpx : wr.cell? ⟨wo.heap.size, 0, none⟩ = some (.int .i64 p) := by
                      rw [hsole.cell (p := ⟨wo.heap.size, 0, none⟩) (by simp only; omega) (by simp only; omega), ← HV2.out, cell_old (by simp <;> omega), cell_old (by simp), cell_new rfl]; rfl
                    go_wp2
                    go_meet
                    refine ⟨_, rfl, by simp <;> omega, ?_, HBI.out.alloc (by omega) _⟩
                    rw [cell_new (by omega)]
                    exact four_of (P := fun kk => (#[Value.int .i64 0, .int .i64 0, .int .i64 0, .int .i64 0, .int .i64 p] : Array Value)[kk]? = some (.int .i64 (Tm.gives true true ⟨p, s, t, v⟩ (kk - 1)))) ⟨hk1, hk4⟩ rfl rfl rfl rfl
                | succ j =>
                  have ej : ((j + 1 : Nat) : Int) - 1 = (j : Int) := by omega
                  rw [ej]
                  cases hy0 : (yp == 0)
                  · have hyp : yp ≠ 0 := by simpa using hy0
                    have hyv : yv = b := (hso.done hyvar (.inl hyp)).trans HBD.out
                    subst hyv
                    have HBI : Hid (Below wo.heap.size wo wr) := HBV2.out.trans (hsole.below (by omega) (by omega))
                    cases yv
                    · have HCW : Hid (wr.cell? ⟨wo.heap.size + 1, kk, none⟩ = some (.int .i64 (Tm.gives true false ⟨p, s, t, v⟩ (kk - 1)))) := by
                        unfold Hid
                        rw [hsole.cell (p := ⟨wo.heap.size + 1, kk, none⟩) (by simp only; omega) (by simp only; omega), ← HV2.out, cell_old (by simp), cell_new (by simp)]
                        exact four_of (P := fun kk => (#[Value.int .i64 0, .int .i64 p, .int .i64 s, .int .i64 t, .int .i64 0] : Array Value)[kk]? = some (.int .i64 (Tm.gives true false ⟨p, s, t, v⟩ (kk - 1)))) ⟨hk1, hk4⟩ rfl rfl rfl (by simp [Tm.gives, hem])
                      go_wp2
                      go_meet
                      exact ⟨wo.heap.size + 1, rfl, by omega, HCW.out, HBI.out⟩
                    · have cpx : wr.cell? ⟨wo.heap.size, 0, none⟩ = some (.int .i64 p) := by
                        rw [hsole.cell (p := ⟨wo.heap.size, 0, none⟩) (by simp only; omega) (by simp only; omega), ← HV2.out, cell_old (by simp <;> omega), cell_old (by simp), cell_new rfl]; rfl
                      go_wp2
                      go_meet
                      refine ⟨_, rfl, by simp <;> omega, ?_, HBI.out.alloc (by omega) _⟩
                      rw [cell_new (by omega)]
                      exact four_of (P := fun kk => (#[Value.int .i64 0, .int .i64 0, .int .i64 0, .int .i64 0, .int .i64 p] : Array Value)[kk]? = some (.int .i64 (Tm.gives true true ⟨p, s, t, v⟩ (kk - 1)))) ⟨hk1, hk4⟩ rfl rfl rfl rfl
                  · have hyp : yp = 0 := by simpa using hy0
                    have hjl : j < els.length := by rw [HN.out]; omega
                    have HBI : Hid (Below wo.heap.size wo wr) := HBV2.out.trans (hsole.below (by omega) (by omega))
                    obtain ⟨g', off', hga, hg', d0, d1, d2, d3⟩ := els_at (by rw [HN.out]; exact HER.out.below HBI.out HER.out.2.1) hjl
                    cases hga
                    have HS2 := hide (hso.step hyp hjl)
                    have HM2 : Hid (els[j] ∈ els) := List.getElem_mem hjl
                    generalize els[j] = z at *
                    obtain ⟨zp, zs, zt, zv⟩ := z
                    simp only at d0 d1 d2 d3
                    have j1 : (0 : Int) ≤ (j : Int) := by omega
                    have j2 : (j : Int) < (n : Int) := by omega
                    have f0 := yf 0
                    have f1 := yf 1
                    have f2 := yf 2
                    have f3 := yf 3
                    have HPC := hide (put4c_cell (v0 := .int .i64 zp) (v1 := .int .i64 zs) (v2 := .int .i64 zt) (v3 := .bool zv) y0 y1 y2 y3)
                    have HPS := hide (put4c_size wr (wo.heap.size + 1 + 1) (.int .i64 zp) (.int .i64 zs) (.int .i64 zt) (.bool zv))
                    have HPO : Hid (Sole V2.heap.size (wo.heap.size + 1 + 1) V2 (put4c wr (wo.heap.size + 1 + 1) (.int .i64 zp) (.int .i64 zs) (.int .i64 zt) (.bool zv))) := hsole.trans ⟨rfl, rfl, rfl, by rw [put4c_size]; omega, fun k _ hk => put4c_other hk⟩
                    have HPF : Hid (∀ o, (put4c wr (wo.heap.size + 1 + 1) (.int .i64 zp) (.int .i64 zs) (.int .i64 zt) (.bool zv)).frozen? ⟨wo.heap.size + 1 + 1, o, none⟩ = false) := fun o => by unfold put4c; rw [World.frozen?_setCell, World.frozen?_setCell, World.frozen?_setCell, World.frozen?_setCell]; exact yf o
                    unfold put4c at HPC HPS HPO HPF
                    clear yf
                    go_wp2
                    go_roundw
                    case rel => exact ⟨j, ⟨zp, zs, zt, zv⟩, by go_num, by omega, HM2.out, HS2.out, HPC.out.1, HPC.out.2.1, HPC.out.2.2.1, HPC.out.2.2.2, HPF.out, HPO.out, by rw [HPS.out]; exact hsz⟩
                    case measure => simp [intOf] <;> omega
      case rest =>
        obtain ⟨bw, rfl, hbw, cv, hbc⟩ := hcut
        have HBC := hide hbc
        have hzc := hbc.size
        have HOC := hide (owns_below HO.out hbc)
        have HBF : Hid (Below W.heap.size W wc) := HB.out.trans (hbc.mono hzr)
        generalize Tm.gives sh b ⟨p, s, t, v⟩ (kk - 1) = gv at *
        clear hbc c0 c1 c2 c3 ksh
        cases hgv : (gv != 0)
        · have HL2 : Hid (Tm.level sh (els.take (i + 1)) (kk - 1) = L) := by unfold Hid; rw [HLG.out]; simp at hgv; simp [Tm.nz, hgv]
          have HO2 : Hid (wc.ownsRow W.heap.size 3 1 (.slice ao L.length co) (Tm.level sh (els.take (i + 1)) (kk - 1)).length (ints (Tm.level sh (els.take (i + 1)) (kk - 1)))) := by unfold Hid; rw [HL2.out]; exact HOC.out
          go_wp2
          go_roundw
          case rel => exact ⟨i + 1, by omega, by go_num, HO2.out, HBF.out⟩
          case measure => simp [intOf]; omega
        · have HL2 : Hid (Tm.level sh (els.take (i + 1)) (kk - 1) = L ++ [gv]) := by unfold Hid; rw [HLG.out]; simp at hgv; simp [Tm.nz, hgv]
          go_wp2_with (at_builtin; go_must (refine wpList_append_own_at _ rfl _ _ 83 rfl W.heap.size 3 i0 (.int .i64 0) 1 8 Tryz.underlying83 hi hz0 hz1 hz2 rfl (by decide) _ _ _ rfl (HOC.out.alloc _) ⟨wc.heap.size, 0, none⟩ 1 1 [.int .i64 gv] rfl rfl news_one (by intro u hu; simp at hu; subst hu; rfl) (by unfold maxLen; omega) (by omega) (by simp; omega) ?_))
          intro v8 w8 hown8 hgr8 _ _
          have HO2 : Hid (w8.ownsRow W.heap.size 3 1 v8 (Tm.level sh (els.take (i + 1)) (kk - 1)).length (ints (Tm.level sh (els.take (i + 1)) (kk - 1)))) := by
            unfold Hid; rw [HL2.out, ints_snoc, List.length_append, hzW]; exact hown8
          have HB8 : Hid (Below W.heap.size W w8) := (HBF.out.alloc (by omega) _).grown hgr8 (by simp; omega) (fun j hj => (HOC.out.lt j hj).1)
          obtain ⟨a8, c8, rfl⟩ := (Reads.of_owns hown8).shape
          clear hown8 hgr8
          go_wp2
          go_roundw
          case rel => exact ⟨i + 1, by omega, by go_num, HO2.out, HB8.out⟩
          case measure => simp [intOf]; omega
    · have HF : Hid (Reads wr (.slice ao (Tm.level sh (els.take i) (kk - 1)).length co) 1 (Tm.level sh els (kk - 1)).length (ints (Tm.level sh els (kk - 1)))) := by
        have h := Reads.of_owns HO.out
        have e : els.take i = els := List.take_of_length_le (by rw [HN.out]; omega)
        unfold Hid
        rw [e] at h ⊢
        exact h
      go_wp2
      go_ret
      exact ⟨_, rfl, HF.out, HBW.out⟩
end Go.Proofs.YtmnjjjhmnhfapaaGreatDoor
