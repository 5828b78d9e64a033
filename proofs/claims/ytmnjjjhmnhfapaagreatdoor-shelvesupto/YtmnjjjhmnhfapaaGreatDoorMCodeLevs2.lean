import Derived.Test.YtmnjjjhmnhfapaaGreatDoorMCodeGrow
import Derived.Test.YtmnjjjhmnhfapaaGreatDoorMCodeWeighE
import Derived.Test.YtmnjjjhmnhfapaaGreatDoorMCodeArr
namespace Go.Proofs.YtmnjjjhmnhfapaaGreatDoor
open Go.RowKit
theorem weigh_few {lns : List Tm.Ln} (hf : ∀ o ∈ lns, Tm.Fit o) (q : List Int) : 0 < (Tm.weigh lns q).length ∧ (Tm.weigh lns q).length ≤ 4 := by
 unfold Tm.weigh
 cases h : Tm.seqOf lns q with
 | none => simp [Tm.implicit]
 | some e => exact seqOf_els hf h
theorem elsCells_append (a b : List Tm.El) : elsCells (a ++ b) = elsCells a ++ elsCells b := by simp [elsCells]
theorem elsCells_one (l : List Tm.El) : ∀ u ∈ elsCells l, u.oneCell' = true := by
 intro u hu
 simp only [elsCells, List.mem_flatMap] at hu
 obtain ⟨x, _, hx⟩ := hu
 simp [elCells] at hx
 rcases hx with rfl | rfl | rfl | rfl <;> rfl
def RestIs (w : World) (B : Nat) (ve : Value) (v : Value) (l : List Int) : Prop :=
 ∃ a cap, v = .slice a l.length cap ∧ (l = [] ∨ ∃ gr off, a = some ⟨gr, off, none⟩ ∧ B ≤ gr ∧ gr < w.heap.size ∧ Ints w gr off l ∧ ve.ownBlock ≠ some gr ∧ l.length ≤ cap ∧ cap ≤ maxLen)
structure ElsSt (lns : List Tm.Ln) (B : Nat) (l : List Int) (w0 w : World) (ve v : Value) (ds : List Tm.El) (l' : List Int) : Prop where
 same : Tm.elements lns l = ds ++ Tm.elements lns l'
 own : w.ownsRow B 102 4 ve ds.length (elsCells ds)
 rest : RestIs w B ve v l'
 calm : Tm.Calm (Tm.classOf lns) l'
 rr : ∀ x ∈ l', 0 ≤ x ∧ x ≤ 1114111
 few : ds.length + 4 * l'.length ≤ 4 * l.length
 below : Below B w0 w
set_option maxRecDepth 100000 in
set_option maxHeartbeats 4000000 in
theorem elements_any (lns : List Tm.Ln) (bm : Nat) (v : Value) (l : List Int) (w : World) (hrd : NodesRd w bm lns) (hr : Reads w v 1 l.length (ints l)) (hcalm : Tm.Calm (Tm.classOf lns) l) (hrg : ∀ r ∈ l, 0 ≤ r ∧ r ≤ 1114111) (hl : l.length ≤ 100000) (hn : lns.length ≤ 8192) (hf : ∀ o ∈ lns, Tm.Fit o) :
  Calls Tryz.prog 85 #[.map (some bm), v] w fun e w' => ∃ v', e = .returned v' ∧ w'.ownsRow w.heap.size 102 4 v' (Tm.elements lns l).length (elsCells (Tm.elements lns l)) ∧ Below w.heap.size w w' := by
 obtain ⟨i0, hi, hz0, hz1, hz2⟩ := info_parts Tryz.infoInt
 obtain ⟨i1, ki, kz0, kz1, kz2⟩ := info_parts Tryz.infoEl
 have hmk : ∀ w : World, (Instr.makeSlice 83 (.int .i64 0) (.int .i64 3)).run Tryz.prog w = .ok (.slice (some ⟨w.heap.size, 0, none⟩) 0 3) (w.alloc (.cells #[.int .i64 0, .int .i64 0, .int .i64 0] 3)) := fun _ => by kernel_rfl
 obtain ⟨av, cv, rfl⟩ := hr.shape
 have HN : Hid (NB lns bm w.heap.size w) := ⟨w, hrd, Below.refl _ _, Nat.le_refl _⟩
 have HR := hide hr
 have HCALM := hide hcalm
 have HRG := hide hrg
 have HF := hide hf
 clear hrd hr hcalm hrg hf
 go_enter Tryz.func85, Tryz.ntmps85
 go_wp2_with fail
 refine (Clone_ints _ l _ HR.out (by omega)).mono ?_
 rintro e w1 ⟨v1, rfl, hown1, hb1⟩
 have HST : Hid (ElsSt lns w.heap.size l w w1 (.slice none 0 0) v1 [] l) := by
  refine ⟨rfl, World.ownsRow_nil _ _ _ _, ?_, HCALM.out, HRG.out, by simp, hb1⟩
  obtain ⟨a1, c1, rfl⟩ := (Reads.of_owns hown1).shape
  refine ⟨a1, c1, rfl, ?_⟩
  rcases hown1.2 with ⟨h1, h2⟩ | ⟨g, c, cur, h1, hg, _⟩
  ·left; exact List.eq_nil_of_length_eq_zero h2
  ·right
   cases h1
   exact ⟨g, 0, rfl, hg, (hown1.lt g rfl).2, owns_ints hown1, by simp [Value.ownBlock], (Reads.of_owns hown1).fits.2⟩
 clear hown1 hb1
 go_wp2_with fail
 go_loopw [5, 6] (fun ve vr wr => ∃ ds l', ElsSt lns w.heap.size l w wr ve vr ds l') (fun _ vr _ => slen vr)
 case atStart => exact ⟨[], l, HST.out⟩
 case round =>
  obtain ⟨ds, l', hst⟩ := hrel
  have HS := hide hst
  obtain ⟨a, cap, rfl, hrest⟩ := hst.rest
  obtain ⟨ae, ce, rfl⟩ := (Reads.of_owns hst.own).shape
  have hfew := hst.few
  have hzr := hst.below.size
  clear hst
  obtain ⟨m, hm⟩ : ∃ m, l'.length = m := ⟨_, rfl⟩
  have HM := hide hm
  rw [hm] at hfew
  rw [hm]
  clear hm
  by_cases h0 : 0 < m
  ·have hne : l' ≠ [] := fun h => by have := HM.out; rw [h] at this; simp at this; omega
   obtain ⟨gr, off, rfl, hgr, hgrl, hI, hve, hc1, hc2⟩ := hrest.resolve_left hne
   rw [HM.out] at hc1
   have HI := hide hI
   have HC2 := hide hc2
   have HNE := hide hne
   have HRD : Hid (Reads wr (.slice (some ⟨gr, off, none⟩) m cap) 1 l'.length (ints l')) := by unfold Hid; rw [HM.out]; exact hI.reads hgrl HM.out hc1 hc2
   have HNr := hide (HN.out.below HS.out.below)
   clear hrest hI hc2 hne
   go_wp2_with fail
   refine (longest_any lns bm _ l' _ HNr.out.rd HRD.out (by rw [HM.out]; exact h0) HS.out.rr (by rw [HM.out]; omega) hn HF.out).mono ?_
   rintro e w2 ⟨rfl, hb2⟩
   have HB2 := hide hb2
   have hz2' := hb2.size
   obtain ⟨n, hn'⟩ : ∃ n, Tm.lead lns l' = n := ⟨_, rfl⟩
   have hnp := Tm.lead_pos lns l'
   have hn3 := Tm.lead_three lns l'
   have hnm := Tm.lead_le (lns := lns) HNE.out
   rw [HM.out] at hnm
   rw [hn'] at hnp hn3 hnm
   have HL := hide hn'
   rw [hn']
   clear hb2 hn'
   have j1 : (0 : Int) ≤ (n : Int) := by omega
   have j2 : (n : Int) ≤ (cap : Int) := by omega
   have j3 : (n : Int) ≤ (m : Int) := by omega
   have hlt : (l'.take n).length = n := by rw [List.length_take, HM.out]; omega
   have HSRC : Hid (∀ j u, (ints (l'.take n))[j]? = some u → (w2.alloc (.cells #[.int .i64 0, .int .i64 0, .int .i64 0] 3)).cell? ((⟨gr, off, none⟩ : Addr).add j) = some u) := fun j u hu => by
    rw [addr_add, cell_old (by omega), HB2.out.cell (p := ⟨gr, off + j, none⟩) hgrl]
    simp only [ints, List.getElem?_map, Option.map_eq_some_iff] at hu
    obtain ⟨x, hx, rfl⟩ := hu
    refine (HI.out j x ?_).1
    rw [List.getElem?_take] at hx
    split at hx
    ·exact hx
    ·cases hx
   have HSP : Hid (∀ j, j < (ints (l'.take n)).length → ((w2.alloc (.cells #[.int .i64 0, .int .i64 0, .int .i64 0] 3)).cell? ⟨w2.heap.size, 0 + 0 * 1 + j, none⟩).isSome = true ∧ (w2.alloc (.cells #[.int .i64 0, .int .i64 0, .int .i64 0] 3)).frozen? ⟨w2.heap.size, 0 + 0 * 1 + j, none⟩ = false) := fun j hj => by
    rw [ints_length, hlt] at hj
    rw [cell_new rfl, frozen_new rfl]
    refine ⟨?_, rfl⟩
    rcases (show j = 0 ∨ j = 1 ∨ j = 2 by omega) with rfl | rfl | rfl <;> rfl
   have HLT := hide hlt
   have HL1 : Hid ((ints (l'.take n)).length = n * 1) := by unfold Hid; rw [ints_length, HLT.out, Nat.mul_one]
   clear hlt
   have HFIRST : Hid (Value.slice (some ⟨w2.heap.size, 0, none⟩) n 3 = .slice (some ⟨w2.heap.size, 0, none⟩) n 3 ∧ Room ((w2.alloc (.cells #[.int .i64 0, .int .i64 0, .int .i64 0] 3)).drew.setCells w2.heap.size 0 (ints (l'.take n))) w2.heap.size (l'.take n) ∧ Below w2.heap.size w2 ((w2.alloc (.cells #[.int .i64 0, .int .i64 0, .int .i64 0] 3)).drew.setCells w2.heap.size 0 (ints (l'.take n))) ∧ w2.heap.size < ((w2.alloc (.cells #[.int .i64 0, .int .i64 0, .int .i64 0] 3)).drew.setCells w2.heap.size 0 (ints (l'.take n))).heap.size) := by
    refine ⟨rfl, ?_, ?_, ?_⟩
    ·have h0 : Ints (w2.alloc (.cells #[.int .i64 0, .int .i64 0, .int .i64 0] 3)).drew w2.heap.size 0 [0, 0, 0] := by
      intro j x hx
      have hj := (List.getElem?_eq_some_iff.1 hx).1
      simp at hj
      show (w2.alloc _).cell? _ = _ ∧ (w2.alloc _).frozen? _ = _
      rw [cell_new rfl, frozen_new rfl]
      refine ⟨?_, rfl⟩
      rcases (show j = 0 ∨ j = 1 ∨ j = 2 by omega) with rfl | rfl | rfl <;> (simp at hx; subst hx; rfl)
     have h1 := Ints.put (k := 0) (news := l'.take n) h0 (by rw [HLT.out]; simp; omega)
     refine ⟨[0, 0, 0].drop n, by simp [HLT.out]; omega, ?_⟩
     simpa [HLT.out] using h1
    ·exact (Sole.setCells (Sole.of ((Below.refl w2.heap.size w2).alloc (Nat.le_refl _) _)).drew _ _ (by simp [World.drew])).below (Nat.le_refl _) (Nat.le_refl _)
    ·rw [(setCells_keep _ _ _ _).1]; simp [World.drew]
   go_upto_region 5 with fail
   go_cut [8] from 11 to 21 (fun t wx => t = .slice (some ⟨w2.heap.size, 0, none⟩) n 3 ∧ Room wx w2.heap.size (l'.take n) ∧ Below w2.heap.size w2 wx ∧ w2.heap.size < wx.heap.size)
   case first =>
    go_region_law (refine step_append_room rfl (.tmp 17) (.tmp 20) 83 rfl 3 i0 1 Tryz.underlying83 hi hz1 w2.heap.size 0 0 3 (by simp [Act.eval]) ⟨gr, off, none⟩ n cap (ints (l'.take n)) (by simp [Act.eval]) HL1.out HSRC.out (fun u hu => ints_one u hu) (by omega) HSP.out ?_)
    all_goals (go_wp2_with fail; go_meet; exact ⟨rfl, HFIRST.out.2⟩)
   case rest =>
    obtain ⟨rfl, hroom, hbc, hzc⟩ := hcut
    have hgs : w.heap.size ≤ w2.heap.size := by omega
    have hkr : wc.heap[gr]? = wr.heap[gr]? := (hbc.block gr (by omega)).trans (HB2.out.block gr hgrl)
    have hzc' := hbc.size
    obtain ⟨off', hA, hI'⟩ : ∃ off', (if cap = n then some (⟨gr, off, none⟩ : Addr) else some ⟨gr, off + n, none⟩) = some ⟨gr, off', none⟩ ∧ Ints wc gr off' (l'.drop n) := by
     by_cases h : cap = n
     ·refine ⟨off, by rw [if_pos h], fun j x hx => ?_⟩
      have := (List.getElem?_eq_some_iff.1 hx).1
      rw [List.length_drop, HM.out] at this
      omega
     ·refine ⟨off + n, by rw [if_neg h], fun j x hx => ?_⟩
      have := (HI.out.of_block hkr) (n + j) x (by rw [List.getElem?_drop] at hx; exact hx)
      rw [Nat.add_assoc]
      exact this
    have hdl : (l'.drop n).length = m - n := by rw [List.length_drop, HM.out]
    have HNc : Hid (NB lns bm w.heap.size wc) := HNr.out.below ((HB2.out.mono hzr).trans (hbc.mono hgs))
    have HG := hide (grow_any lns bm w.heap.size w2.heap.size gr off' (cap - n) (l'.take n) (l'.drop n) wc HNc.out hgs hgr (by omega)
     ⟨rfl, hroom, hI', Tm.calm_drop HS.out.calm n, (fun y hy => by cases hy), by rw [HLT.out]; omega, by rw [HLT.out]; omega, fun x hx => HS.out.rr x (List.mem_of_mem_take hx), fun x hx => HS.out.rr x (List.mem_of_mem_drop hx), by simp, Two.refl _ _ _, hzc, by omega⟩ (by rw [hdl]; have := HC2.out; omega) (by rw [hdl]; omega) hn HF.out (by omega))
    rw [HLT.out, hdl] at HG
    have HSTEP := hide (Tm.elements_step (lns := lns) HNE.out)
    rw [HL.out] at HSTEP
    have hgl := Tm.grow_length lns (l'.drop n) (l'.take n) []
    have hgle := Tm.grow_left lns (l'.drop n) (l'.take n) []
    have HMEM := hide (Tm.grow_mem lns (l'.drop n) (l'.take n) [])
    have HCA := hide (Tm.grow_calm (lns := lns) (l'.drop n) (l'.take n) [] (Tm.calm_drop HS.out.calm n))
    rw [HLT.out, hdl] at hgl
    rw [HLT.out] at hgle
    have hoe : wc.ownsRow w.heap.size 102 4 (.slice ae ds.length ce) ds.length (elsCells ds) := ownsRow_same HS.out.own (fun g hg => by
     have := (HS.out.own.lt g hg).2
     exact (hbc.block g (by omega)).trans (HB2.out.block g this))
    have HOE := hide hoe
    have HBC : Hid (Below w.heap.size w wc) := HS.out.below.trans ((HB2.out.mono hzr).trans (hbc.mono hgs))
    clear hroom hbc hI' hdl hkr hoe
    go_wp2_with fail
    refine HG.out.mono ?_
    rintro e w6 ⟨rfl, hroom6, hI6, hfew6, htwo6, hlts6, hltr6⟩
    obtain ⟨S, hS⟩ : ∃ S, (Tm.grow lns (l'.take n) [] (l'.drop n)).1 = S := ⟨_, rfl⟩
    obtain ⟨R, hR⟩ : ∃ R, (Tm.grow lns (l'.take n) [] (l'.drop n)).2 = R := ⟨_, rfl⟩
    simp only [hS, hR] at hroom6 hI6 hfew6 hgl hgle HMEM HCA HSTEP ⊢
    have HRM6 := hide hroom6
    have HI6 := hide hI6
    have HTW := hide htwo6
    have hz6 := htwo6.size
    have HN6 := hide (HNc.out.below (htwo6.below hgs hgr (by omega)))
    have HRD6 : Hid (Reads w6 (.slice (some ⟨w2.heap.size, 0, none⟩) S.length 3) 1 S.length (ints S)) := by
     obtain ⟨pad, h1, h2⟩ := hroom6
     exact h2.front.reads hlts6 rfl hfew6 (by unfold maxLen; omega)
    have HOE6 : Hid (w6.ownsRow w.heap.size 102 4 (.slice ae ds.length ce) ds.length (elsCells ds)) := ownsRow_same HOE.out (fun g hg => by
     have h1 := (HS.out.own.lt g hg).2
     exact htwo6.block g (by omega) (by omega) (fun h => hve (by rw [← h]; exact hg)))
    clear hroom6 hI6 htwo6 hS hR
    obtain ⟨sl, hsl⟩ : ∃ sl, S.length = sl := ⟨_, rfl⟩
    obtain ⟨rl, hrl⟩ : ∃ rl, R.length = rl := ⟨_, rfl⟩
    have HSL := hide hsl
    have HRL := hide hrl
    rw [hsl] at HRD6 hfew6 hgle hgl
    rw [hrl] at hgl
    rw [hsl, hrl]
    clear hsl hrl
    go_wp2_with fail
    refine (weigh_any lns bm _ S _ HN6.out.rd (by rw [HSL.out]; exact HRD6.out) (by rw [HSL.out]; omega) (fun x hx => by
     rcases (HMEM.out x).1 hx with h | h
     ·exact HS.out.rr x (List.mem_of_mem_take h)
     ·exact HS.out.rr x (List.mem_of_mem_drop h)) (by rw [HSL.out]; exact hfew6) hn HF.out).mono ?_
    rintro e w7 ⟨v7, rfl, hr7, hb7⟩
    have hwf := weigh_few HF.out S
    obtain ⟨g7, o7, c7, rfl, hg7, hc7⟩ := hr7.form (by rw [elsCells_length]; omega)
    have hz7 := hb7.size
    have HOE7 := hide (owns_below HOE6.out hb7)
    have HC7 : Hid (∀ j u, (elsCells (Tm.weigh lns S))[j]? = some u → w7.cell? ((⟨g7, o7, none⟩ : Addr).add j) = some u) := fun j u hu => by rw [addr_add]; exact hc7 j u hu
    have HB7 := hide hb7
    obtain ⟨wl, hwl⟩ : ∃ wl, (Tm.weigh lns S).length = wl := ⟨_, rfl⟩
    have HWL := hide hwl
    have HL7 : Hid ((elsCells (Tm.weigh lns S)).length = wl * 4) := by unfold Hid; rw [elsCells_length, hwl]
    rw [hwl] at hwf
    rw [hwl]
    clear hr7 hb7 hc7 hwl
    go_wp2_with (at_builtin; go_must (refine wpList_append_own_at _ rfl _ _ 84 rfl w.heap.size 102 i1 (.agg #[.int .i64 0, .int .i64 0, .int .i64 0, .bool false]) 4 32 Tryz.underlying84 ki kz0 kz1 kz2 rfl (by decide) _ _ _ rfl HOE7.out ⟨g7, o7, none⟩ wl c7 (elsCells (Tm.weigh lns S)) rfl HL7.out HC7.out (elsCells_one _) (by unfold maxLen; omega) (by omega) (by omega) ?_))
    intro v8 w8 hown8 hgr8 _ hat8
    have hz8 := hgr8.size
    simp only [List.length_nil, Nat.add_zero] at hgl
    have hb67 : ∀ g, g < w6.heap.size → (Value.slice ae ds.length ce).ownBlock ≠ some g → w8.heap[g]? = w6.heap[g]? := fun g hg hne => (hgr8.block g (by omega) (fun h => hne h.symm)).trans (HB7.out.block g hg)
    have HST8 : Hid (ElsSt lns w.heap.size l w w8 v8 (.slice (some ⟨gr, off', none⟩) rl (cap - n)) (ds ++ Tm.weigh lns S) R) := by
     refine ⟨by rw [HS.out.same, HSTEP.out, List.append_assoc], ?_, ⟨_, _, by rw [HRL.out], .inr ⟨gr, off', rfl, hgr, by omega, HI6.out.of_block (hb67 gr hltr6 hve), ?_, by rw [HRL.out]; omega, by have := HC2.out; omega⟩⟩, HCA.out, fun x hx => ?_, ?_, ?_⟩
     ·rw [elsCells_append, List.length_append, HWL.out]; exact hown8
     ·rcases hat8 with h | h
      ·rw [h]; exact hve
      ·rw [h]; simp; omega
     ·rcases (HMEM.out x).2 hx with h | h
      ·cases h
      ·exact HS.out.rr x (List.mem_of_mem_drop h)
     ·rw [List.length_append, HWL.out, HRL.out]; omega
     ·exact ((HBC.out.trans (HTW.out.below hgs hgr (by omega))).trans (HB7.out.mono (by omega))).grown hgr8 (by omega) (fun j hj => (HOE7.out.lt j hj).1)
    have HSL8 : Hid (slen (.slice (some ⟨gr, off', none⟩) rl (cap - n)) < m) := by show rl < m; omega
    clear hown8 hgr8 hat8 hb67
    go_wp2
    go_roundw
    case rel => exact ⟨_, R, HST8.out⟩
    case measure => exact HSL8.out
  ·have hl0 : l' = [] := List.eq_nil_of_length_eq_zero (by rw [HM.out]; omega)
   have HD : Hid (wr.ownsRow w.heap.size 102 4 (.slice ae ds.length ce) (Tm.elements lns l).length (elsCells (Tm.elements lns l))) := by
    unfold Hid
    rw [HS.out.same, hl0, Tm.elements_nil, List.append_nil]
    exact HS.out.own
   have HBD := hide HS.out.below
   go_wp2
   go_ret
   exact ⟨_, rfl, HD.out, HBD.out⟩
structure LevIs (w : World) (B bl : Nat) (vs : Nat → Value) (L : Nat → List Int) : Prop where
 lt : bl < w.heap.size
 le : B ≤ bl
 cell : ∀ k, k < 4 → w.cell? ⟨bl, k, none⟩ = some (vs k)
 free : ∀ k, w.frozen? ⟨bl, k, none⟩ = false
 own : ∀ k, k < 4 → w.ownsRow B 3 1 (vs k) (L k).length (ints (L k))
 notbl : ∀ k, k < 4 → (vs k).ownBlock ≠ some bl
 apart : ∀ j k, j < 4 → k < 4 → j ≠ k → ∀ g, (vs j).ownBlock = some g → (vs k).ownBlock ≠ some g
def put4 {α : Type} (f : Nat → α) (k : Nat) (x : α) : Nat → α := fun j => if j = k then x else f j
theorem put4_same {α : Type} (f : Nat → α) (k : Nat) (x : α) : put4 f k x k = x := by simp [put4]
theorem put4_other {α : Type} (f : Nat → α) {j k : Nat} (x : α) (h : j ≠ k) : put4 f k x j = f j := by simp [put4, h]
theorem LevIs.below {w w' : World} {B bl : Nat} {vs : Nat → Value} {L : Nat → List Int} (h : LevIs w B bl vs L) (hb : Below w.heap.size w w') : LevIs w' B bl vs L :=
 ⟨Nat.lt_of_lt_of_le h.lt hb.size, h.le, fun k hk => by rw [hb.cell (p := ⟨bl, k, none⟩) h.lt]; exact h.cell k hk, fun k => by rw [hb.frozen (p := ⟨bl, k, none⟩) h.lt]; exact h.free k,
  fun k hk => owns_below (h.own k hk) hb, h.notbl, h.apart⟩
structure LevTurn (bl : Nat) (vs vs' : Nat → Value) (w w' : World) : Prop where
 size : w.heap.size ≤ w'.heap.size
 os : w'.os = w.os
 tape : w'.tape = w.tape
 output : w'.output = w.output
 block : ∀ g, g < w.heap.size → g ≠ bl → (∀ k, k < 4 → (vs k).ownBlock ≠ some g) → w'.heap[g]? = w.heap[g]?
 at' : ∀ k, k < 4 → ∀ g, (vs' k).ownBlock = some g → (∃ j, j < 4 ∧ (vs j).ownBlock = some g) ∨ w.heap.size ≤ g
theorem LevTurn.of {bl : Nat} {vs : Nat → Value} {w w' : World} (h : Below w.heap.size w w') : LevTurn bl vs vs w w' :=
 ⟨h.size, h.os, h.tape, h.output, fun g hg _ _ => h.block g hg, fun k hk _ hg => .inl ⟨k, hk, hg⟩⟩
theorem LevTurn.trans {bl : Nat} {v0 v1 v2 : Nat → Value} {w0 w1 w2 : World} (h : LevTurn bl v0 v1 w0 w1) (k : LevTurn bl v1 v2 w1 w2) : LevTurn bl v0 v2 w0 w2 := by
 have hs := h.size
 refine ⟨Nat.le_trans h.size k.size, k.os.trans h.os, k.tape.trans h.tape, k.output.trans h.output, fun g h1 h2 h3 => ?_, fun i hi g hg => ?_⟩
 ·refine (k.block g (by omega) h2 (fun j hj hv => ?_)).trans (h.block g h1 h2 h3)
  rcases h.at' j hj g hv with ⟨q, hq, h4⟩ | h4
  ·exact h3 q hq h4
  ·omega
 ·rcases k.at' i hi g hg with ⟨j, hj, h4⟩ | h4
  ·exact h.at' j hj g h4
  ·exact .inr (by omega)
theorem LevTurn.below {bl B : Nat} {vs vs' : Nat → Value} {L : Nat → List Int} {w w' : World} (t : LevTurn bl vs vs' w w') (h : LevIs w B bl vs L) : Below B w w' := by
 have h1 := h.le
 have h2 := h.lt
 exact ⟨t.os, t.tape, t.output, t.size, fun g hg => t.block g (by omega) (by omega) (fun k hk hv => by have := ((h.own k hk).lt g hv).1; omega)⟩
theorem LevIs.push {w w4 : World} {o : Obj} {B bl k : Nat} {vs : Nat → Value} {L : Nat → List Int} {x : Int} {v' : Value} (h : LevIs w B bl vs L) (hk : k < 4) (hown : w4.ownsRow B 3 1 v' ((L k).length + 1) (ints (L k) ++ [.int .i64 x])) (hg : (w.drew.alloc o).grownBy w4 (vs k).ownBlock) (hat : v'.ownBlock = (vs k).ownBlock ∨ v'.ownBlock = some (w.drew.alloc o).heap.size) :
  LevIs (w4.setCell ⟨bl, k, none⟩ v') B bl (put4 vs k v') (put4 L k (L k ++ [x])) ∧ LevTurn bl vs (put4 vs k v') w (w4.setCell ⟨bl, k, none⟩ v') := by
 have hlt := h.lt
 have hz : w.heap.size + 1 ≤ w4.heap.size := by have := hg.size; simpa using this
 have hbl : ∀ g, g < w.heap.size → (vs k).ownBlock ≠ some g → w4.heap[g]? = w.heap[g]? := fun g h1 h2 => (hg.block g (by simp; omega) (fun e => h2 e.symm)).trans (heap_alloc_old w.drew o (by exact h1))
 have hnb : v'.ownBlock ≠ some bl := by
  rcases hat with e | e
  ·rw [e]; exact h.notbl k hk
  ·rw [e]; simp; omega
 have hb4 := hbl bl hlt (h.notbl k hk)
 have hle := h.le
 refine ⟨⟨by simp [World.setCell]; omega, h.le, fun j hj => ?_, fun j => ?_, fun j hj => ?_, fun j hj => ?_, fun i j hi hj hij g hg' => ?_⟩, ?_⟩
 ·by_cases e : j = k
  ·subst e; rw [put4_same]
   exact World.cell?_setCell_same _ _ _ ((World.cell?_of_block (w := w) hb4).trans (h.cell j hj))
  ·rw [put4_other _ _ e, World.cell?_setCell_other _ _ _ _ (by simp <;> omega)]
   exact (World.cell?_of_block (w := w) hb4).trans (h.cell j hj)
 ·rw [World.frozen?_setCell]
  exact (World.frozen?_of_block (w := w) hb4).trans (h.free j)
 ·by_cases e : j = k
  ·subst e; rw [put4_same, put4_same]
   refine owns_setCell ?_ hnb _
   rw [List.length_append, ints_snoc]
   exact hown
  ·rw [put4_other _ _ e, put4_other _ _ e]
   refine owns_setCell (ownsRow_same (h.own j hj) (fun g hg' => hbl g ((h.own j hj).lt g hg').2 (h.apart j k hj hk e g hg'))) (h.notbl j hj) _
 ·by_cases e : j = k
  ·subst e; rw [put4_same]; exact hnb
  ·rw [put4_other _ _ e]; exact h.notbl j hj
 ·by_cases e1 : i = k
  ·have e2 : j ≠ k := by omega
   subst e1
   rw [put4_same] at hg'
   rw [put4_other _ _ e2]
   intro hj'
   rcases hat with e | e
   ·rw [e] at hg'; exact h.apart i j hi hj hij g hg' hj'
   ·rw [e] at hg'
    have := ((h.own j hj).lt g hj').2
    simp at hg'; omega
  ·rw [put4_other _ _ e1] at hg'
   by_cases e2 : j = k
   ·subst e2
    rw [put4_same]
    intro hj'
    rcases hat with e | e
    ·rw [e] at hj'; exact h.apart i j hi hj hij g hg' hj'
    ·rw [e] at hj'
     have := ((h.own i hi).lt g hg').2
     simp at hj'; omega
   ·rw [put4_other _ _ e2]; exact h.apart i j hi hj hij g hg'
 ·refine ⟨by simp [World.setCell]; omega, hg.os, hg.tape, hg.output, fun g h1 h2 h3 => ?_, fun j hj g hg' => ?_⟩
  ·rw [Below.heap_setCell _ _ _ _ (by simpa using h2)]
   exact hbl g h1 (h3 k hk)
  ·by_cases e : j = k
   ·subst e
    rw [put4_same] at hg'
    rcases hat with e | e
    ·rw [e] at hg'; exact .inl ⟨j, hj, hg'⟩
    ·rw [e] at hg'; simp at hg'; exact .inr (by omega)
   ·rw [put4_other _ _ e] at hg'; exact .inl ⟨j, hj, hg'⟩
set_option maxRecDepth 100000 in
set_option maxHeartbeats 2000000 in
theorem add_any (bl B k : Nat) (lv x : Int) (vs : Nat → Value) (L : Nat → List Int) (w : World) (h : LevIs w B bl vs L) (hk : k < 4) (hlv : lv = k + 1) (hlen : (L k).length ≤ 1000000) :
  Calls Tryz.prog 168 #[.pointer (some ⟨bl, 0, none⟩), .int .i64 lv, .int .i64 x] w fun e w' => e = .returned (.tuple #[]) ∧ ∃ vs', LevIs w' B bl vs' (put4 L k (L k ++ [x])) ∧ LevTurn bl vs vs' w w' := by
 obtain ⟨i0, hi, hz0, hz1, hz2⟩ := info_parts Tryz.infoInt
 have H := hide h
 have e1 : IntKind.i64.wrap (lv - 1) = (k : Int) := by rw [IntKind.wrap_i64]; omega
 have j1 : (0 : Int) ≤ (k : Int) := by omega
 have j2 : (k : Int) < 4 := by omega
 have ck := h.cell k hk
 have fk := h.free k
 have hlt := h.lt
 have hle := h.le
 obtain ⟨av, cv, hav⟩ := (Reads.of_owns (h.own k hk)).shape
 have HAV := hide hav
 rw [hav] at ck
 have HOWN : Hid ((w.drew.alloc (.cells #[.int .i64 x] 3)).ownsRow B 3 1 (.slice av (L k).length cv) (L k).length (ints (L k))) := by
  unfold Hid; rw [← hav]; exact (ownsRow_same (w' := w.drew) (H.out.own k hk) (fun _ _ => rfl)).alloc _
 have HNEWS : Hid (∀ j u, [Value.int .i64 x][j]? = some u → (w.drew.alloc (.cells #[.int .i64 x] 3)).cell? ((⟨w.heap.size, 0, none⟩ : Addr).add j) = some u) := fun j u hj => by
  match j, hj with
  | 0, hj => simp at hj; subst hj; rw [show ((⟨w.heap.size, 0, none⟩ : Addr).add 0) = ⟨w.heap.size, 0, none⟩ from rfl, cell_new (by rfl)]; rfl
 have HNB : Hid ((Value.slice av (L k).length cv).ownBlock ≠ some bl) := by unfold Hid; rw [← hav]; exact H.out.notbl k hk
 have HPUSH : Hid (∀ (v' : Value) (w4 : World), w4.ownsRow B 3 1 v' ((L k).length + 1) (ints (L k) ++ [.int .i64 x]) → (w.drew.alloc (.cells #[.int .i64 x] 3)).grownBy w4 (Value.slice av (L k).length cv).ownBlock → (v'.ownBlock = (Value.slice av (L k).length cv).ownBlock ∨ v'.ownBlock = some (w.drew.alloc (.cells #[.int .i64 x] 3)).heap.size) → LevIs (w4.setCell ⟨bl, k, none⟩ v') B bl (put4 vs k v') (put4 L k (L k ++ [x])) ∧ LevTurn bl vs (put4 vs k v') w (w4.setCell ⟨bl, k, none⟩ v')) := fun v' w4 h1 h2 h3 =>
  H.out.push hk h1 (by rw [HAV.out]; exact h2) (by rw [HAV.out]; exact h3)
 have HC2 : Hid ((w.drew.alloc (.cells #[.int .i64 x] 3)).cell? ⟨bl, k, none⟩ = some (.slice av (L k).length cv)) := by unfold Hid; rw [cell_old (by exact hlt)]; exact ck
 have HF2 : Hid ((w.drew.alloc (.cells #[.int .i64 x] 3)).frozen? ⟨bl, k, none⟩ = false) := by unfold Hid; rw [frozen_old (by exact hlt)]; exact fk
 have HL2 : Hid (bl < (w.drew.alloc (.cells #[.int .i64 x] 3)).heap.size) := by unfold Hid; simp; omega
 have HBA : Hid (B ≤ (w.drew.alloc (.cells #[.int .i64 x] 3)).heap.size) := by unfold Hid; simp; omega
 clear h hav hlv
 go_enter Tryz.func168, Tryz.ntmps168
 go_wp2_with fail
 go_region_law (refine step_append_own rfl _ _ 83 rfl B 3 i0 (.int .i64 0) 1 8 Tryz.underlying83 hi hz0 hz1 hz2 rfl (by decide) _ _ _ (by simp [Act.eval]) HOWN.out ⟨w.heap.size, 0, none⟩ 1 1 [.int .i64 x] (by simp [Act.eval]) rfl HNEWS.out (by intro u hu; simp at hu; subst hu; rfl) (by unfold maxLen; omega) (by omega) HBA.out ?_; intro v' w4 hown4 hg4 hat4; have HP := hide (HPUSH.out v' w4 hown4 hg4 hat4); have z2 := hg4.cell HC2.out (fun e => HNB.out e.symm); have zf : w4.frozen? ⟨bl, k, none⟩ = false := (World.frozen?_of_block (hg4.block bl HL2.out (fun e => HNB.out e.symm))).trans HF2.out; obtain ⟨a4, c4, rfl⟩ := (Reads.of_owns hown4).shape; clear hown4 hg4 hat4)
 all_goals go_wp2
 all_goals go_end0
 all_goals exact ⟨rfl, _, HP.out⟩
def addW (e : Tm.El) (n : Nat) (L : Nat → List Int) : Nat → List Int := fun j => if j < n then L j ++ Tm.plainW e j else L j
theorem addW_zero (e : Tm.El) (L : Nat → List Int) : addW e 0 L = L := by funext j; simp [addW]
theorem addW_none {e : Tm.El} {n : Nat} {L : Nat → List Int} (h : Tm.plainW e n = []) : addW e (n + 1) L = addW e n L := by
 funext j
 unfold addW
 by_cases h1 : j = n
 ·subst h1; simp [h]
 ·by_cases h2 : j < n
  ·rw [if_pos (by omega), if_pos h2]
  ·rw [if_neg (by omega), if_neg h2]
theorem addW_some {e : Tm.El} {n : Nat} {L : Nat → List Int} {x : Int} (h : Tm.plainW e n = [x]) : addW e (n + 1) L = put4 (addW e n L) n (addW e n L n ++ [x]) := by
 funext j
 unfold addW put4
 by_cases h1 : j = n
 ·subst h1; simp [h]
 ·by_cases h2 : j < n
  ·rw [if_pos (by omega), if_neg h1]; exact (if_pos h2).symm
  ·rw [if_neg (by omega), if_neg h1]; exact (if_neg h2).symm
theorem addW_len (e : Tm.El) (n : Nat) (L : Nat → List Int) (k : Nat) : (addW e n L k).length ≤ (L k).length + 1 := by
 unfold addW
 split
 ·have := Tm.plainW_length e k; simp; omega
 ·omega
set_option maxRecDepth 100000 in
set_option maxHeartbeats 2000000 in
theorem addWeights_any (bl B : Nat) (el : Tm.El) (vs : Nat → Value) (L : Nat → List Int) (w : World) (h : LevIs w B bl vs L) (hlen : ∀ k, k < 4 → (L k).length ≤ 900000) :
  Calls Tryz.prog 167 #[.pointer (some ⟨bl, 0, none⟩), .agg #[.int .i64 el.p, .int .i64 el.s, .int .i64 el.t, .bool el.v]] w fun e w' => e = .returned (.tuple #[]) ∧ ∃ vs', LevIs w' B bl vs' (addW el 3 L) ∧ LevTurn bl vs vs' w w' := by
 have H := hide h
 have HLEN := hide hlen
 obtain ⟨p, s, t, v⟩ := el
 obtain ⟨W, hW⟩ : ∃ W, (w.alloc (.cells #[.int .i64 p, .int .i64 s, .int .i64 t, .bool v] 102)).alloc (.cells #[.int .i64 p, .int .i64 s, .int .i64 t] 3) = W := ⟨_, rfl⟩
 have hb0 : Below w.heap.size w W := by rw [← hW]; exact ((Below.refl _ _).alloc (Nat.le_refl _) _).alloc (by simp) _
 have hz0 : W.heap.size = w.heap.size + 2 := by rw [← hW]; simp
 have c0 : W.cell? ⟨w.heap.size + 1, 0, none⟩ = some (.int .i64 p) := by rw [← hW, cell_new (by simp)]; rfl
 have c1 : W.cell? ⟨w.heap.size + 1, 1, none⟩ = some (.int .i64 s) := by rw [← hW, cell_new (by simp)]; rfl
 have c2 : W.cell? ⟨w.heap.size + 1, 2, none⟩ = some (.int .i64 t) := by rw [← hW, cell_new (by simp)]; rfl
 have HB0 := hide hb0
 have HC : Hid (∀ k (x : Int), k < 3 → [p, s, t][k]? = some x → W.cell? ⟨w.heap.size + 1, k, none⟩ = some (.int .i64 x)) := by
  intro k x hk hx
  rcases (show k = 0 ∨ k = 1 ∨ k = 2 by omega) with rfl | rfl | rfl <;> (simp at hx; subst hx; assumption)
 have HPW : Hid (∀ k (x : Int), k < 3 → [p, s, t][k]? = some x → Tm.plainW ⟨p, s, t, v⟩ k = Tm.nz x) := by
  intro k x hk hx
  rcases (show k = 0 ∨ k = 1 ∨ k = 2 by omega) with rfl | rfl | rfl <;> (simp at hx; subst hx; rfl)
 have hlt := h.lt
 clear h hb0 hlen c0 c1 c2
 go_enter Tryz.func167, Tryz.ntmps167
 go_wp2_with fail
 go_loopw [14] (fun i wr => ∃ (k : Nat) (vs' : Nat → Value), k ≤ 3 ∧ i = .int .i64 k ∧ LevIs wr B bl vs' (addW ⟨p, s, t, v⟩ k L) ∧ LevTurn bl vs vs' W wr) (fun i _ => 3 - (intOf i).toNat)
 case atStart => exact ⟨0, vs, by omega, rfl, by rw [addW_zero]; exact H.out.below HB0.out, LevTurn.of (Below.refl _ _)⟩
 case round =>
  obtain ⟨k, vs', hk, rfl, hlev, htu⟩ := hrel
  have HL := hide hlev
  have HT := hide htu
  clear hlev htu
  by_cases h3 : k < 3
  ·obtain ⟨x, hx⟩ : ∃ x, [p, s, t][k]? = some x := ⟨[p, s, t][k]'(by simpa using h3), by simp [h3]⟩
   have ck : wr.cell? ⟨w.heap.size + 1, k, none⟩ = some (.int .i64 x) := by
    rw [World.cell?_of_block (w := W) (HT.out.block (w.heap.size + 1) (by omega) (by omega) (fun j hj hv => by have := ((H.out.own j hj).lt _ hv).2; omega))]
    exact HC.out k x h3 hx
   have hpw := HPW.out k x h3 hx
   have i1 : (0 : Int) ≤ (k : Int) := by omega
   have i2 : (k : Int) < 3 := by omega
   have HLN : Hid ((addW ⟨p, s, t, v⟩ k L k).length ≤ 1000000) := by have h1 := addW_len ⟨p, s, t, v⟩ k L k; have h2 := HLEN.out k (by omega); unfold Hid; omega
   cases hn : (x != 0)
   ·have HN : Hid (LevIs wr B bl vs' (addW ⟨p, s, t, v⟩ (k + 1) L)) := by
     unfold Hid
     rw [addW_none (by rw [hpw]; simp at hn; simp [Tm.nz, hn])]
     exact HL.out
    clear hpw hx
    go_wp2
    go_roundw
    case rel => exact ⟨k + 1, vs', by omega, by go_num, HN.out, HT.out⟩
    case measure => simp [intOf]; omega
   ·have HSM := hide (addW_some (L := L) (show Tm.plainW ⟨p, s, t, v⟩ k = [x] by rw [hpw]; simp at hn; simp [Tm.nz, hn]))
    clear hpw hx
    go_wp2_with fail
    refine (add_any bl B k ((k : Int) + 1) x vs' _ _ HL.out (by omega) rfl HLN.out).mono ?_
    rintro e w2 ⟨rfl, vs2, hl2, ht2⟩
    have HL2 : Hid (LevIs w2 B bl vs2 (addW ⟨p, s, t, v⟩ (k + 1) L)) := by unfold Hid; rw [HSM.out]; exact hl2
    have HT2 := hide (HT.out.trans ht2)
    clear hl2 ht2
    go_wp2
    go_roundw
    case rel => exact ⟨k + 1, vs2, by omega, by go_num, HL2.out, HT2.out⟩
    case measure => simp [intOf]; omega
  ·have hk3 : k = 3 := by omega
   subst hk3
   have HTF : Hid (LevTurn bl vs vs' w wr) := (LevTurn.of HB0.out).trans HT.out
   go_wp2
   go_end0
   exact ⟨rfl, vs', HL.out, HTF.out⟩
theorem LevIs.congr {w : World} {B bl : Nat} {vs : Nat → Value} {L L' : Nat → List Int} (h : LevIs w B bl vs L) (he : ∀ k, k < 4 → L k = L' k) : LevIs w B bl vs L' :=
 ⟨h.lt, h.le, h.cell, h.free, fun k hk => by rw [← he k hk]; exact h.own k hk, h.notbl, h.apart⟩
def Lev4 (w : World) (B : Nat) (vs : Nat → Value) (L : Nat → List Int) : Prop := ∀ k, k < 4 → w.ownsRow B 3 1 (vs k) (L k).length (ints (L k))
theorem Lev4.below {w w' : World} {B : Nat} {vs : Nat → Value} {L : Nat → List Int} (h : Lev4 w B vs L) (hb : Below w.heap.size w w') : Lev4 w' B vs L := fun k hk => owns_below (h k hk) hb
theorem LevIs.new {w' : World} {B bl : Nat} (hlt : bl < w'.heap.size) (hle : B ≤ bl) (hc : ∀ k, k < 4 → w'.cell? ⟨bl, k, none⟩ = some (.slice none 0 0)) (hf : ∀ k, w'.frozen? ⟨bl, k, none⟩ = false) : LevIs w' B bl (fun _ => .slice none 0 0) (fun _ => []) :=
 ⟨hlt, hle, hc, hf, fun _ _ => World.ownsRow_nil _ _ _ _, fun _ _ h => (by cases h), fun _ _ _ _ _ _ h => (by cases h)⟩
namespace Tm
theorem level_plain {els : List El} {k : Nat} (hk : k < els.length) (j : Nat) : level false (els.take (k + 1)) j = addW els[k] 3 (fun j => level false (els.take k) j) j := by
 rw [List.take_succ_eq_append_getElem hk, level_snoc]
 unfold addW
 by_cases h : j < 3
 ·rw [if_pos h]; simp
 ·rw [if_neg h]
  have : plainW els[k] j = [] := by
   unfold plainW
   split
   ·omega
   ·omega
   ·omega
   ·rfl
  simp [this]
end Tm
theorem four_cases {P : Nat → Prop} (h0 : P 0) (h1 : P 1) (h2 : P 2) (h3 : P 3) : ∀ k, k < 4 → P k := by
 intro k hk
 rcases (show k = 0 ∨ k = 1 ∨ k = 2 ∨ k = 3 by omega) with rfl | rfl | rfl | rfl <;> assumption
def put4c (w : World) (b : Nat) (v0 v1 v2 v3 : Value) : World := (((w.setCell ⟨b, 0, none⟩ v0).setCell ⟨b, 1, none⟩ v1).setCell ⟨b, 2, none⟩ v2).setCell ⟨b, 3, none⟩ v3
theorem put4c_size (w : World) (b : Nat) (v0 v1 v2 v3 : Value) : (put4c w b v0 v1 v2 v3).heap.size = w.heap.size := by simp [put4c, World.setCell]
theorem put4c_other {w : World} {b g : Nat} {v0 v1 v2 v3 : Value} (h : g ≠ b) : (put4c w b v0 v1 v2 v3).heap[g]? = w.heap[g]? := by
 unfold put4c
 rw [Below.heap_setCell _ _ _ _ (by simpa using h), Below.heap_setCell _ _ _ _ (by simpa using h), Below.heap_setCell _ _ _ _ (by simpa using h), Below.heap_setCell _ _ _ _ (by simpa using h)]
theorem put4c_cell {w : World} {b : Nat} {v0 v1 v2 v3 x0 x1 x2 x3 : Value} (h0 : w.cell? ⟨b, 0, none⟩ = some x0) (h1 : w.cell? ⟨b, 1, none⟩ = some x1) (h2 : w.cell? ⟨b, 2, none⟩ = some x2) (h3 : w.cell? ⟨b, 3, none⟩ = some x3) :
  (put4c w b v0 v1 v2 v3).cell? ⟨b, 0, none⟩ = some v0 ∧ (put4c w b v0 v1 v2 v3).cell? ⟨b, 1, none⟩ = some v1 ∧ (put4c w b v0 v1 v2 v3).cell? ⟨b, 2, none⟩ = some v2 ∧ (put4c w b v0 v1 v2 v3).cell? ⟨b, 3, none⟩ = some v3 := by
 unfold put4c
 refine ⟨?_, ?_, ?_, ?_⟩
 ·rw [World.cell?_setCell_other _ _ _ _ (by simp), World.cell?_setCell_other _ _ _ _ (by simp), World.cell?_setCell_other _ _ _ _ (by simp)]
  exact World.cell?_setCell_same _ _ _ h0
 ·rw [World.cell?_setCell_other _ _ _ _ (by simp), World.cell?_setCell_other _ _ _ _ (by simp)]
  exact World.cell?_setCell_same _ _ _ ((World.cell?_setCell_other _ _ _ _ (by simp)).trans h1)
 ·rw [World.cell?_setCell_other _ _ _ _ (by simp)]
  exact World.cell?_setCell_same _ _ _ (((World.cell?_setCell_other _ _ _ _ (by simp)).trans (World.cell?_setCell_other _ _ _ _ (by simp))).trans h2)
 ·exact World.cell?_setCell_same _ _ _ ((((World.cell?_setCell_other _ _ _ _ (by simp)).trans (World.cell?_setCell_other _ _ _ _ (by simp))).trans (World.cell?_setCell_other _ _ _ _ (by simp))).trans h3)
theorem put4c_below {w0 w : World} {B b : Nat} {v0 v1 v2 v3 : Value} (h : Below B w0 w) (hb : B ≤ b) : Below B w0 (put4c w b v0 v1 v2 v3) := (((h.setCell (p := ⟨b, 0, none⟩) hb _).setCell (p := ⟨b, 1, none⟩) hb _).setCell (p := ⟨b, 2, none⟩) hb _).setCell (p := ⟨b, 3, none⟩) hb _
set_option maxRecDepth 100000 in
set_option maxHeartbeats 4000000 in
theorem levelsOf_any (v : Value) (els : List Tm.El) (w : World) (hr : Reads w v 4 els.length (elsCells els)) (hl : els.length ≤ 800000) :
  Calls Tryz.prog 132 #[v] w fun e w' => ∃ vs : Nat → Value, e = .returned (.agg #[vs 0, vs 1, vs 2, vs 3]) ∧ Lev4 w' w.heap.size vs (fun k => Tm.level false els k) ∧ Below w.heap.size w w' := by
 obtain ⟨a, cap, rfl⟩ := hr.shape
 have HR := hide hr
 obtain ⟨W, hW⟩ : ∃ W, (w.alloc (.cells #[.slice none 0 0, .slice none 0 0, .slice none 0 0, .slice none 0 0] 213)).alloc (.cells #[.slice none 0 0, .slice none 0 0, .slice none 0 0, .slice none 0 0] 213) = W := ⟨_, rfl⟩
 have hb0 : Below w.heap.size w W := by rw [← hW]; exact ((Below.refl _ _).alloc (Nat.le_refl _) _).alloc (by simp) _
 have hz0 : W.heap.size = w.heap.size + 2 := by rw [← hW]; simp
 have r0 : W.cell? ⟨w.heap.size, 0, none⟩ = some (.slice none 0 0) := by rw [← hW, cell_old (by simp), cell_new rfl]; rfl
 have r1 : W.cell? ⟨w.heap.size, 1, none⟩ = some (.slice none 0 0) := by rw [← hW, cell_old (by simp), cell_new rfl]; rfl
 have r2 : W.cell? ⟨w.heap.size, 2, none⟩ = some (.slice none 0 0) := by rw [← hW, cell_old (by simp), cell_new rfl]; rfl
 have r3 : W.cell? ⟨w.heap.size, 3, none⟩ = some (.slice none 0 0) := by rw [← hW, cell_old (by simp), cell_new rfl]; rfl
 have rf : ∀ o, W.frozen? ⟨w.heap.size, o, none⟩ = false := fun o => by rw [← hW, frozen_old (by simp), frozen_new rfl]
 have HL0 : Hid (LevIs W w.heap.size (w.heap.size + 1) (fun _ => .slice none 0 0) (fun k => Tm.level false (els.take 0) k)) := by
  refine LevIs.new (by omega) (by omega) (four_cases ?_ ?_ ?_ ?_) (fun k => ?_)
  ·rw [← hW, cell_new (by simp)]; rfl
  ·rw [← hW, cell_new (by simp)]; rfl
  ·rw [← hW, cell_new (by simp)]; rfl
  ·rw [← hW, cell_new (by simp)]; rfl
  ·rw [← hW, frozen_new (by simp)]
 have HB0 := hide hb0
 have HRR := hide (And.intro r0 (And.intro r1 (And.intro r2 (And.intro r3 rf))))
 obtain ⟨n, hn⟩ : ∃ n, els.length = n := ⟨_, rfl⟩
 have HN := hide hn
 rw [hn] at hl HR
 rw [hn]
 clear hr hb0 r0 r1 r2 r3 rf hn
 go_enter Tryz.func132, Tryz.ntmps132
 go_wp2_with fail
 go_loopw [8] (fun i wr => ∃ (k : Nat) (vs : Nat → Value), k ≤ n ∧ i = .int .i64 k ∧ LevIs wr w.heap.size (w.heap.size + 1) vs (fun j => Tm.level false (els.take k) j) ∧ LevTurn (w.heap.size + 1) (fun _ => .slice none 0 0) vs W wr) (fun i _ => n - (intOf i).toNat)
 case atStart => exact ⟨0, _, Nat.zero_le _, rfl, HL0.out, LevTurn.of (Below.refl _ _)⟩
 case round =>
  obtain ⟨k, vs, hk, rfl, hlev, htu⟩ := hrel
  have HL := hide hlev
  have HT := hide htu
  have hzr := htu.size
  have hltr := hlev.lt
  have HBr : Hid (Below w.heap.size w wr) := HB0.out.trans (htu.below (L := fun k => Tm.level false (els.take 0) k) HL0.out)
  clear hlev htu
  by_cases hlt : k < n
  ·have hlt' : k < els.length := by rw [HN.out]; exact hlt
   obtain ⟨g, off, rfl, hg, c0, c1, c2, c3⟩ := els_at (by rw [HN.out]; exact HR.out.below HBr.out HR.out.2.1) hlt'
   have HLV : Hid (∀ j, Tm.level false (els.take (k + 1)) j = addW els[k] 3 (fun j => Tm.level false (els.take k) j) j) := Tm.level_plain hlt'
   have HLEN : Hid (∀ j, j < 4 → (Tm.level false (els.take k) j).length ≤ 900000) := fun j _ => by
    have h1 := Tm.lev_length false j (els.take k) false
    have h2 : (els.take k).length ≤ n := by rw [List.length_take, HN.out]; omega
    have : (Tm.level false (els.take k) j).length ≤ (els.take k).length := h1
    omega
   have i1 : (0 : Int) ≤ (k : Int) := by omega
   have i2 : (k : Int) < (n : Int) := by omega
   generalize els[k] = x at *
   have hbx : Below wr.heap.size wr (wr.alloc (.cells #[.int .i64 x.p, .int .i64 x.s, .int .i64 x.t, .bool x.v] 102)) := (Below.refl _ _).alloc (Nat.le_refl _) _
   have HBX := hide hbx
   clear hbx
   go_wp2_with fail
   refine (addWeights_any (w.heap.size + 1) w.heap.size x vs _ _ (HL.out.below HBX.out) HLEN.out).mono ?_
   rintro e w2 ⟨rfl, vs2, hl2, ht2⟩
   have HL2 : Hid (LevIs w2 w.heap.size (w.heap.size + 1) vs2 (fun j => Tm.level false (els.take (k + 1)) j)) := hl2.congr (fun j _ => (HLV.out j).symm)
   have HT2 := hide ((HT.out.trans (LevTurn.of HBX.out)).trans ht2)
   clear hl2 ht2
   go_wp2
   go_roundw
   case rel => exact ⟨k + 1, vs2, by omega, by go_num, HL2.out, HT2.out⟩
   case measure => simp [intOf]; omega
  ·have hfull : els.take k = els := List.take_of_length_le (by rw [HN.out]; omega)
   have HLF : Hid (LevIs wr w.heap.size (w.heap.size + 1) vs (fun j => Tm.level false els j)) := by have h := HL.out; rw [hfull] at h; exact h
   have q0 := HLF.out.cell 0 (by omega)
   have q1 := HLF.out.cell 1 (by omega)
   have q2 := HLF.out.cell 2 (by omega)
   have q3 := HLF.out.cell 3 (by omega)
   have hkeep := HT.out.block w.heap.size (by omega) (by omega) (fun _ _ h => by cases h)
   have p0 : wr.cell? ⟨w.heap.size, 0, none⟩ = some (.slice none 0 0) := (World.cell?_of_block hkeep).trans HRR.out.1
   have p1 : wr.cell? ⟨w.heap.size, 1, none⟩ = some (.slice none 0 0) := (World.cell?_of_block hkeep).trans HRR.out.2.1
   have p2 : wr.cell? ⟨w.heap.size, 2, none⟩ = some (.slice none 0 0) := (World.cell?_of_block hkeep).trans HRR.out.2.2.1
   have p3 : wr.cell? ⟨w.heap.size, 3, none⟩ = some (.slice none 0 0) := (World.cell?_of_block hkeep).trans HRR.out.2.2.2.1
   have pf : ∀ o, wr.frozen? ⟨w.heap.size, o, none⟩ = false := fun o => (World.frozen?_of_block (a := ⟨w.heap.size, o, none⟩) hkeep).trans (HRR.out.2.2.2.2 o)
   have pf0 := pf 0
   have pf1 := pf 1
   have pf2 := pf 2
   have pf3 := pf 3
   have hsz : w.heap.size < wr.heap.size := by omega
   have hshape : ∀ j, j < 4 → ∃ aj cj, vs j = .slice aj (Tm.level false els j).length cj := fun j hj => (Reads.of_owns (HLF.out.own j hj)).shape
   obtain ⟨a0, k0, h0⟩ := hshape 0 (by omega)
   obtain ⟨a1, k1, h1⟩ := hshape 1 (by omega)
   obtain ⟨a2, k2, h2⟩ := hshape 2 (by omega)
   obtain ⟨a3, k3, h3⟩ := hshape 3 (by omega)
   rw [h0] at q0
   rw [h1] at q1
   rw [h2] at q2
   rw [h3] at q3
   have HV := hide (And.intro h0 (And.intro h1 (And.intro h2 h3)))
   have HOWN : Hid (Lev4 wr w.heap.size vs (fun k => Tm.level false els k)) := fun j hj => HLF.out.own j hj
   have HNBK : Hid (∀ j, j < 4 → (vs j).ownBlock ≠ some w.heap.size) := fun j hj h => by
    rcases HT.out.at' j hj _ h with ⟨_, _, h4⟩ | h4
    ·cases h4
    ·omega
   clear hfull hkeep pf h0 h1 h2 h3 hshape
   go_wp2
   have z := put4c_cell (v0 := .slice a0 (Tm.level false els 0).length k0) (v1 := .slice a1 (Tm.level false els 1).length k1) (v2 := .slice a2 (Tm.level false els 2).length k2) (v3 := .slice a3 (Tm.level false els 3).length k3) p0 p1 p2 p3
   have HBF := hide (put4c_below (v0 := .slice a0 (Tm.level false els 0).length k0) (v1 := .slice a1 (Tm.level false els 1).length k1) (v2 := .slice a2 (Tm.level false els 2).length k2) (v3 := .slice a3 (Tm.level false els 3).length k3) HBr.out (Nat.le_refl _))
   have HLF4 : Hid (Lev4 (put4c wr w.heap.size (.slice a0 (Tm.level false els 0).length k0) (.slice a1 (Tm.level false els 1).length k1) (.slice a2 (Tm.level false els 2).length k2) (.slice a3 (Tm.level false els 3).length k3)) w.heap.size vs (fun k => Tm.level false els k)) := fun j hj => ownsRow_same (HOWN.out j hj) (fun g hg => put4c_other (fun e => HNBK.out j hj (by rw [← e]; exact hg)))
   unfold put4c at z HBF HLF4
   generalize (((wr.setCell ⟨w.heap.size, 0, none⟩ (.slice a0 (Tm.level false els 0).length k0)).setCell ⟨w.heap.size, 1, none⟩ (.slice a1 (Tm.level false els 1).length k1)).setCell ⟨w.heap.size, 2, none⟩ (.slice a2 (Tm.level false els 2).length k2)).setCell ⟨w.heap.size, 3, none⟩ (.slice a3 (Tm.level false els 3).length k3) = W4 at *
   obtain ⟨z0, z1, z2, z3⟩ := z
   refine bodyPost_ret (v := .agg #[.slice a0 (Tm.level false els 0).length k0, .slice a1 (Tm.level false els 1).length k1, .slice a2 (Tm.level false els 2).length k2, .slice a3 (Tm.level false els 3).length k3]) (by simp [results, Tryz.results132, go_sem, z0, z1, z2, z3]) rfl ⟨vs, ?_, HLF4.out, HBF.out⟩
   rw [HV.out.1, HV.out.2.1, HV.out.2.2.1, HV.out.2.2.2]
theorem lev_add {L : Nat → List Int} {x : Tm.El} (h : Tm.empty x = false) : ∀ j, j < 4 → L j ++ Tm.shiftW false x j = put4 (addW x 3 L) 3 (addW x 3 L 3 ++ [65535]) j :=
 four_cases (by simp [put4, addW, Tm.shiftW, Tm.plainW]) (by simp [put4, addW, Tm.shiftW, Tm.plainW]) (by simp [put4, addW, Tm.shiftW, Tm.plainW]) (by simp [put4, addW, Tm.shiftW, h])
theorem lev_var {L : Nat → List Int} {x : Tm.El} (h : x.p ≠ 0) : ∀ j, j < 4 → L j ++ Tm.shiftW true x j = put4 L 3 (L 3 ++ [x.p]) j :=
 four_cases (by simp [put4, Tm.shiftW]) (by simp [put4, Tm.shiftW]) (by simp [put4, Tm.shiftW]) (by simp [put4, Tm.shiftW, Tm.nz, h])
theorem lev_none {L : Nat → List Int} {s t : Int} : ∀ j, j < 4 → L j ++ Tm.shiftW true ⟨0, s, t, false⟩ j = L j :=
 four_cases (by simp [Tm.shiftW]) (by simp [Tm.shiftW]) (by simp [Tm.shiftW]) (by simp [Tm.shiftW, Tm.nz])
theorem lev_zero {L : Nat → List Int} : ∀ j, j < 4 → L j ++ Tm.shiftW false ⟨0, 0, 0, false⟩ j = L j :=
 four_cases (by simp [Tm.shiftW, Tm.nz]) (by simp [Tm.shiftW, Tm.nz]) (by simp [Tm.shiftW, Tm.nz]) (by simp [Tm.shiftW, Tm.empty])
set_option maxRecDepth 100000 in
set_option maxHeartbeats 4000000 in
theorem shiftedLevelsOf_any (v : Value) (els : List Tm.El) (w : World) (hr : Reads w v 4 els.length (elsCells els)) (hl : els.length ≤ 800000) (hvar : ∀ x ∈ els, x.v = true → x.p ≠ 0) :
  Calls Tryz.prog 133 #[v] w fun e w' => ∃ vs : Nat → Value, e = .returned (.agg #[vs 0, vs 1, vs 2, vs 3]) ∧ Lev4 w' w.heap.size vs (fun k => Tm.level true els k) ∧ Below w.heap.size w w' := by
 obtain ⟨a, cap, rfl⟩ := hr.shape
 have HR := hide hr
 obtain ⟨W, hW⟩ : ∃ W, (w.alloc (.cells #[.slice none 0 0, .slice none 0 0, .slice none 0 0, .slice none 0 0] 213)).alloc (.cells #[.slice none 0 0, .slice none 0 0, .slice none 0 0, .slice none 0 0] 213) = W := ⟨_, rfl⟩
 have hb0 : Below w.heap.size w W := by rw [← hW]; exact ((Below.refl _ _).alloc (Nat.le_refl _) _).alloc (by simp) _
 have hz0 : W.heap.size = w.heap.size + 2 := by rw [← hW]; simp
 have r0 : W.cell? ⟨w.heap.size, 0, none⟩ = some (.slice none 0 0) := by rw [← hW, cell_old (by simp), cell_new rfl]; rfl
 have r1 : W.cell? ⟨w.heap.size, 1, none⟩ = some (.slice none 0 0) := by rw [← hW, cell_old (by simp), cell_new rfl]; rfl
 have r2 : W.cell? ⟨w.heap.size, 2, none⟩ = some (.slice none 0 0) := by rw [← hW, cell_old (by simp), cell_new rfl]; rfl
 have r3 : W.cell? ⟨w.heap.size, 3, none⟩ = some (.slice none 0 0) := by rw [← hW, cell_old (by simp), cell_new rfl]; rfl
 have rf : ∀ o, W.frozen? ⟨w.heap.size, o, none⟩ = false := fun o => by rw [← hW, frozen_old (by simp), frozen_new rfl]
 have HL0 : Hid (LevIs W w.heap.size (w.heap.size + 1) (fun _ => .slice none 0 0) (fun k => Tm.level true (els.take 0) k)) := by
  refine LevIs.new (by omega) (by omega) (four_cases ?_ ?_ ?_ ?_) (fun k => ?_)
  ·rw [← hW, cell_new (by simp)]; rfl
  ·rw [← hW, cell_new (by simp)]; rfl
  ·rw [← hW, cell_new (by simp)]; rfl
  ·rw [← hW, cell_new (by simp)]; rfl
  ·rw [← hW, frozen_new (by simp)]
 have HB0 := hide hb0
 have HRR := hide (And.intro r0 (And.intro r1 (And.intro r2 (And.intro r3 rf))))
 obtain ⟨n, hn⟩ : ∃ n, els.length = n := ⟨_, rfl⟩
 have HN := hide hn
 rw [hn] at hl HR
 rw [hn]
 have HVAR := hide hvar
 clear hr hb0 r0 r1 r2 r3 rf hn hvar
 go_enter Tryz.func133, Tryz.ntmps133
 go_wp2_with fail
 go_loopw [4, 9] (fun b i wr => ∃ (k : Nat) (vs : Nat → Value), k ≤ n ∧ b = .bool (Tm.lastB false (els.take k)) ∧ i = .int .i64 k ∧ LevIs wr w.heap.size (w.heap.size + 1) vs (fun j => Tm.level true (els.take k) j) ∧ LevTurn (w.heap.size + 1) (fun _ => .slice none 0 0) vs W wr) (fun _ i _ => n - (intOf i).toNat)
 case atStart => exact ⟨0, _, Nat.zero_le _, rfl, rfl, HL0.out, LevTurn.of (Below.refl _ _)⟩
 case round =>
  obtain ⟨k, vs, hk, rfl, rfl, hlev, htu⟩ := hrel
  have HL := hide hlev
  have HT := hide htu
  have hzr := htu.size
  have hltr := hlev.lt
  have HBr : Hid (Below w.heap.size w wr) := HB0.out.trans (htu.below (L := fun k => Tm.level true (els.take 0) k) HL0.out)
  clear hlev htu
  by_cases hlt : k < n
  ·have hlt' : k < els.length := by rw [HN.out]; exact hlt
   obtain ⟨g, off, rfl, hg, c0, c1, c2, c3⟩ := els_at (by rw [HN.out]; exact HR.out.below HBr.out HR.out.2.1) hlt'
   have HLV := hide (fun j => Tm.level_snoc true j els[k] (els.take k))
   have HLB := hide (Tm.lastB_snoc els[k] (els.take k) false)
   rw [← List.take_succ_eq_append_getElem hlt'] at HLV HLB
   have hvar := HVAR.out els[k] (List.getElem_mem hlt')
   have HLEN : Hid (∀ j, j < 4 → (Tm.level true (els.take k) j).length ≤ 900000) := fun j _ => by
    have h1 := Tm.lev_length true j (els.take k) false
    have h2 : (els.take k).length ≤ n := by rw [List.length_take, HN.out]; omega
    have : (Tm.level true (els.take k) j).length ≤ (els.take k).length := h1
    omega
   have i1 : (0 : Int) ≤ (k : Int) := by omega
   have i2 : (k : Int) < (n : Int) := by omega
   generalize els[k] = x at *
   obtain ⟨p, s, t, v⟩ := x
   simp only at c0 c1 c2 c3 hvar
   generalize Tm.lastB false (els.take k) = bv at *
   have hbx : Below wr.heap.size wr (wr.alloc (.cells #[.int .i64 p, .int .i64 s, .int .i64 t, .bool v] 102)) := (Below.refl _ _).alloc (Nat.le_refl _) _
   have HBX := hide hbx
   clear hbx
   cases hp : (p != 0)
   ·have hp0 : p = 0 := by simpa using hp
    subst hp0
    cases v
    ·cases bv
     ·by_cases hs : s = 0
      ·subst hs
       by_cases ht : t = 0
       ·subst ht
        have HL3 : Hid (LevIs (wr.alloc (.cells #[.int .i64 0, .int .i64 0, .int .i64 0, .bool false] 102)) w.heap.size (w.heap.size + 1) vs (fun j => Tm.level true (els.take (k + 1)) j)) := (HL.out.below HBX.out).congr (fun j hj => by rw [HLV.out j]; exact (lev_zero (L := fun j => Tm.level true (els.take k) j) j hj).symm)
        have HT3 := hide (HT.out.trans (LevTurn.of HBX.out))
        go_wp2
        go_roundw
        case rel => exact ⟨k + 1, vs, by omega, by rw [HLB.out]; rfl, by go_num, HL3.out, HT3.out⟩
        case measure => simp [intOf]; omega
       ·have HADD := hide (lev_add (L := fun j => Tm.level true (els.take k) j) (x := ⟨0, 0, t, false⟩) (by simp [Tm.empty, ht]))
        go_wp2_with fail
        refine (addWeights_any (w.heap.size + 1) w.heap.size ⟨0, 0, t, false⟩ vs _ _ (HL.out.below HBX.out) HLEN.out).mono ?_
        rintro e w2 ⟨rfl, vs2, hl2, ht2⟩
        have HL2 := hide hl2
        have HT2 := hide ((HT.out.trans (LevTurn.of HBX.out)).trans ht2)
        have HLN : Hid ((addW ⟨0, 0, t, false⟩ 3 (fun j => Tm.level true (els.take k) j) 3).length ≤ 1000000) := by have h1 := addW_len ⟨0, 0, t, false⟩ 3 (fun j => Tm.level true (els.take k) j) 3; have h2 := HLEN.out 3 (by omega); unfold Hid; omega
        clear hl2 ht2
        go_wp2_with fail
        refine (add_any (w.heap.size + 1) w.heap.size 3 4 65535 vs2 _ _ HL2.out (by omega) rfl HLN.out).mono ?_
        rintro e w3 ⟨rfl, vs3, hl3, ht3⟩
        have HL3 : Hid (LevIs w3 w.heap.size (w.heap.size + 1) vs3 (fun j => Tm.level true (els.take (k + 1)) j)) := hl3.congr (fun j hj => by rw [HLV.out j]; exact (HADD.out j hj).symm)
        have HT3 := hide (HT2.out.trans ht3)
        clear hl3 ht3
        go_wp2
        go_roundw
        case rel => exact ⟨k + 1, vs3, by omega, by rw [HLB.out]; rfl, by go_num, HL3.out, HT3.out⟩
        case measure => simp [intOf]; omega
      ·have HADD := hide (lev_add (L := fun j => Tm.level true (els.take k) j) (x := ⟨0, s, t, false⟩) (by simp [Tm.empty, hs]))
       go_wp2_with fail
       refine (addWeights_any (w.heap.size + 1) w.heap.size ⟨0, s, t, false⟩ vs _ _ (HL.out.below HBX.out) HLEN.out).mono ?_
       rintro e w2 ⟨rfl, vs2, hl2, ht2⟩
       have HL2 := hide hl2
       have HT2 := hide ((HT.out.trans (LevTurn.of HBX.out)).trans ht2)
       have HLN : Hid ((addW ⟨0, s, t, false⟩ 3 (fun j => Tm.level true (els.take k) j) 3).length ≤ 1000000) := by have h1 := addW_len ⟨0, s, t, false⟩ 3 (fun j => Tm.level true (els.take k) j) 3; have h2 := HLEN.out 3 (by omega); unfold Hid; omega
       clear hl2 ht2
       go_wp2_with fail
       refine (add_any (w.heap.size + 1) w.heap.size 3 4 65535 vs2 _ _ HL2.out (by omega) rfl HLN.out).mono ?_
       rintro e w3 ⟨rfl, vs3, hl3, ht3⟩
       have HL3 : Hid (LevIs w3 w.heap.size (w.heap.size + 1) vs3 (fun j => Tm.level true (els.take (k + 1)) j)) := hl3.congr (fun j hj => by rw [HLV.out j]; exact (HADD.out j hj).symm)
       have HT3 := hide (HT2.out.trans ht3)
       clear hl3 ht3
       go_wp2
       go_roundw
       case rel => exact ⟨k + 1, vs3, by omega, by rw [HLB.out]; rfl, by go_num, HL3.out, HT3.out⟩
       case measure => simp [intOf]; omega
     ·have HL3 : Hid (LevIs (wr.alloc (.cells #[.int .i64 0, .int .i64 s, .int .i64 t, .bool false] 102)) w.heap.size (w.heap.size + 1) vs (fun j => Tm.level true (els.take (k + 1)) j)) := (HL.out.below HBX.out).congr (fun j hj => by rw [HLV.out j]; exact (lev_none (L := fun j => Tm.level true (els.take k) j) j hj).symm)
      have HT3 := hide (HT.out.trans (LevTurn.of HBX.out))
      go_wp2
      go_roundw
      case rel => exact ⟨k + 1, vs, by omega, by rw [HLB.out]; rfl, by go_num, HL3.out, HT3.out⟩
      case measure => simp [intOf]; omega
    ·exact absurd rfl (hvar rfl)
   ·have hp1 : p ≠ 0 := by simpa using hp
    have hbe : ∀ v, Tm.behind bv ⟨p, s, t, v⟩ = v := fun v => by simp [Tm.behind, hp1]
    rw [hbe] at HLV HLB
    cases v
    ·have HADD := hide (lev_add (L := fun j => Tm.level true (els.take k) j) (x := ⟨p, s, t, false⟩) (by simp [Tm.empty, hp1]))
     clear hbe hvar
     go_wp2_with fail
     refine (addWeights_any (w.heap.size + 1) w.heap.size ⟨p, s, t, false⟩ vs _ _ (HL.out.below HBX.out) HLEN.out).mono ?_
     rintro e w2 ⟨rfl, vs2, hl2, ht2⟩
     have HL2 := hide hl2
     have HT2 := hide ((HT.out.trans (LevTurn.of HBX.out)).trans ht2)
     have HLN : Hid ((addW ⟨p, s, t, false⟩ 3 (fun j => Tm.level true (els.take k) j) 3).length ≤ 1000000) := by have h1 := addW_len ⟨p, s, t, false⟩ 3 (fun j => Tm.level true (els.take k) j) 3; have h2 := HLEN.out 3 (by omega); unfold Hid; omega
     clear hl2 ht2
     go_wp2_with fail
     refine (add_any (w.heap.size + 1) w.heap.size 3 4 65535 vs2 _ _ HL2.out (by omega) rfl HLN.out).mono ?_
     rintro e w3 ⟨rfl, vs3, hl3, ht3⟩
     have HL3 : Hid (LevIs w3 w.heap.size (w.heap.size + 1) vs3 (fun j => Tm.level true (els.take (k + 1)) j)) := hl3.congr (fun j hj => by rw [HLV.out j]; exact (HADD.out j hj).symm)
     have HT3 := hide (HT2.out.trans ht3)
     clear hl3 ht3
     go_wp2
     go_roundw
     case rel => exact ⟨k + 1, vs3, by omega, by rw [HLB.out], by go_num, HL3.out, HT3.out⟩
     case measure => simp [intOf]; omega
    ·have HADD := hide (lev_var (L := fun j => Tm.level true (els.take k) j) (x := ⟨p, s, t, true⟩) hp1)
     have HLN : Hid ((Tm.level true (els.take k) 3).length ≤ 1000000) := by have h2 := HLEN.out 3 (by omega); unfold Hid; omega
     clear hbe hvar
     go_wp2_with fail
     refine (add_any (w.heap.size + 1) w.heap.size 3 4 p vs _ _ (HL.out.below HBX.out) (by omega) rfl HLN.out).mono ?_
     rintro e w3 ⟨rfl, vs3, hl3, ht3⟩
     have HL3 : Hid (LevIs w3 w.heap.size (w.heap.size + 1) vs3 (fun j => Tm.level true (els.take (k + 1)) j)) := hl3.congr (fun j hj => by rw [HLV.out j]; exact (HADD.out j hj).symm)
     have HT3 := hide ((HT.out.trans (LevTurn.of HBX.out)).trans ht3)
     clear hl3 ht3
     go_wp2
     go_roundw
     case rel => exact ⟨k + 1, vs3, by omega, by rw [HLB.out], by go_num, HL3.out, HT3.out⟩
     case measure => simp [intOf]; omega
  ·have hfull : els.take k = els := List.take_of_length_le (by rw [HN.out]; omega)
   have HLF : Hid (LevIs wr w.heap.size (w.heap.size + 1) vs (fun j => Tm.level true els j)) := by have h := HL.out; rw [hfull] at h; exact h
   have q0 := HLF.out.cell 0 (by omega)
   have q1 := HLF.out.cell 1 (by omega)
   have q2 := HLF.out.cell 2 (by omega)
   have q3 := HLF.out.cell 3 (by omega)
   have hkeep := HT.out.block w.heap.size (by omega) (by omega) (fun _ _ h => by cases h)
   have p0 : wr.cell? ⟨w.heap.size, 0, none⟩ = some (.slice none 0 0) := (World.cell?_of_block hkeep).trans HRR.out.1
   have p1 : wr.cell? ⟨w.heap.size, 1, none⟩ = some (.slice none 0 0) := (World.cell?_of_block hkeep).trans HRR.out.2.1
   have p2 : wr.cell? ⟨w.heap.size, 2, none⟩ = some (.slice none 0 0) := (World.cell?_of_block hkeep).trans HRR.out.2.2.1
   have p3 : wr.cell? ⟨w.heap.size, 3, none⟩ = some (.slice none 0 0) := (World.cell?_of_block hkeep).trans HRR.out.2.2.2.1
   have pf : ∀ o, wr.frozen? ⟨w.heap.size, o, none⟩ = false := fun o => (World.frozen?_of_block (a := ⟨w.heap.size, o, none⟩) hkeep).trans (HRR.out.2.2.2.2 o)
   have pf0 := pf 0
   have pf1 := pf 1
   have pf2 := pf 2
   have pf3 := pf 3
   have hsz : w.heap.size < wr.heap.size := by omega
   have hshape : ∀ j, j < 4 → ∃ aj cj, vs j = .slice aj (Tm.level true els j).length cj := fun j hj => (Reads.of_owns (HLF.out.own j hj)).shape
   obtain ⟨a0, k0, h0⟩ := hshape 0 (by omega)
   obtain ⟨a1, k1, h1⟩ := hshape 1 (by omega)
   obtain ⟨a2, k2, h2⟩ := hshape 2 (by omega)
   obtain ⟨a3, k3, h3⟩ := hshape 3 (by omega)
   rw [h0] at q0
   rw [h1] at q1
   rw [h2] at q2
   rw [h3] at q3
   have HV := hide (And.intro h0 (And.intro h1 (And.intro h2 h3)))
   have HOWN : Hid (Lev4 wr w.heap.size vs (fun k => Tm.level true els k)) := fun j hj => HLF.out.own j hj
   have HNBK : Hid (∀ j, j < 4 → (vs j).ownBlock ≠ some w.heap.size) := fun j hj h => by
    rcases HT.out.at' j hj _ h with ⟨_, _, h4⟩ | h4
    ·cases h4
    ·omega
   clear hfull hkeep pf h0 h1 h2 h3 hshape
   go_wp2
   have z := put4c_cell (v0 := .slice a0 (Tm.level true els 0).length k0) (v1 := .slice a1 (Tm.level true els 1).length k1) (v2 := .slice a2 (Tm.level true els 2).length k2) (v3 := .slice a3 (Tm.level true els 3).length k3) p0 p1 p2 p3
   have HBF := hide (put4c_below (v0 := .slice a0 (Tm.level true els 0).length k0) (v1 := .slice a1 (Tm.level true els 1).length k1) (v2 := .slice a2 (Tm.level true els 2).length k2) (v3 := .slice a3 (Tm.level true els 3).length k3) HBr.out (Nat.le_refl _))
   have HLF4 : Hid (Lev4 (put4c wr w.heap.size (.slice a0 (Tm.level true els 0).length k0) (.slice a1 (Tm.level true els 1).length k1) (.slice a2 (Tm.level true els 2).length k2) (.slice a3 (Tm.level true els 3).length k3)) w.heap.size vs (fun k => Tm.level true els k)) := fun j hj => ownsRow_same (HOWN.out j hj) (fun g hg => put4c_other (fun e => HNBK.out j hj (by rw [← e]; exact hg)))
   unfold put4c at z HBF HLF4
   generalize (((wr.setCell ⟨w.heap.size, 0, none⟩ (.slice a0 (Tm.level true els 0).length k0)).setCell ⟨w.heap.size, 1, none⟩ (.slice a1 (Tm.level true els 1).length k1)).setCell ⟨w.heap.size, 2, none⟩ (.slice a2 (Tm.level true els 2).length k2)).setCell ⟨w.heap.size, 3, none⟩ (.slice a3 (Tm.level true els 3).length k3) = W4 at *
   obtain ⟨z0, z1, z2, z3⟩ := z
   refine bodyPost_ret (v := .agg #[.slice a0 (Tm.level true els 0).length k0, .slice a1 (Tm.level true els 1).length k1, .slice a2 (Tm.level true els 2).length k2, .slice a3 (Tm.level true els 3).length k3]) (by simp [results, Tryz.results133, go_sem, z0, z1, z2, z3]) rfl ⟨vs, ?_, HLF4.out, HBF.out⟩
   rw [HV.out.1, HV.out.2.1, HV.out.2.2.1, HV.out.2.2.2]
end Go.Proofs.YtmnjjjhmnhfapaaGreatDoor
