import Derived.BigQuiet
import Derived.Maps.AppendAt
import Derived.Test.YtmnjjjhmnhfapaaGreatDoorMCodeGrow
import Derived.Test.YtmnjjjhmnhfapaaGreatDoorMAppKeep
import Derived.Test.YtmnjjjhmnhfapaaGreatDoorMCodeWeighE
import Derived.Test.YtmnjjjhmnhfapaaGreatDoorMRefParse
import Derived.Test.YtmnjjjhmnhfapaaGreatDoorMRefNormalW
import Derived.Test.YtmnjjjhmnhfapaaGreatDoorMCodeRank
import Derived.Test.YtmnjjjhmnhfapaaGreatDoorMIxFoot
namespace Go.Proofs.YtmnjjjhmnhfapaaGreatDoor
open Go.RowKit

theorem weigh_few {lns : List Tm.Ln} (hf : ∀ o ∈ lns, Tm.Fit o) (q : List Int) : 0 < (Tm.weigh lns q).length ∧ (Tm.weigh lns q).length ≤ 4 := by
  unfold Tm.weigh
  cases h : Tm.seqOf lns q with
  | none => simp [Tm.implicit]
  | some e => exact seqOf_els hf h
theorem elsCells_append (a b : List Tm.El) : elsCells (a ++ b) = elsCells a ++ elsCells b := by simp [elsCells]
theorem elsCells_one (l : List Tm.El) : ∀ u ∈ elsCells l, u.oneCell' = true := by
  intro u hu
  simp only [elsCells, List.mem_flatMap] at hu
  obtain ⟨x, _, hx⟩ := hu
  simp [elCells] at hx
  rcases hx with rfl | rfl | rfl | rfl <;> rfl

/-- What is left of the runes: a slice of a block of its own. -/
def RestIs (w : World) (B : Nat) (ve : Value) (v : Value) (l : List Int) : Prop :=
  ∃ a cap, v = .slice a l.length cap ∧ (l = [] ∨ ∃ gr off, a = some ⟨gr, off, none⟩ ∧ B ≤ gr ∧ gr < w.heap.size ∧ Ints w gr off l ∧ ve.ownBlock ≠ some gr ∧ l.length ≤ cap ∧ cap ≤ maxLen)
structure ElsSt (lns : List Tm.Ln) (B : Nat) (l : List Int) (w0 w : World) (ve v : Value) (ds : List Tm.El) (l' : List Int) : Prop where
  same : Tm.elements lns l = ds ++ Tm.elements lns l'
  own : w.ownsRow B 102 4 ve ds.length (elsCells ds)
  rest : RestIs w B ve v l'
  calm : Tm.Calm (Tm.classOf lns) l'
  rr : ∀ x ∈ l', 0 ≤ x ∧ x ≤ 1114111
  few : ds.length + 4 * l'.length ≤ 4 * l.length
  below : Below B w0 w

set_option maxRecDepth 100000 in
set_option maxHeartbeats 4000000 in
theorem elements_any (lns : List Tm.Ln) (bm : Nat) (v : Value) (l : List Int) (w : World) (hrd : NodesRd w bm lns) (hr : Reads w v 1 l.length (ints l)) (hcalm : Tm.Calm (Tm.classOf lns) l) (hrg : ∀ r ∈ l, 0 ≤ r ∧ r ≤ 1114111) (hl : l.length ≤ 100000) (hn : lns.length ≤ 8192) (hf : ∀ o ∈ lns, Tm.Fit o) :
    Calls Tryz.prog 85 #[.map (some bm), v] w fun e w' => ∃ v', e = .returned v' ∧ w'.ownsRow w.heap.size 102 4 v' (Tm.elements lns l).length (elsCells (Tm.elements lns l)) ∧ Below w.heap.size w w' := by
  obtain ⟨i0, hi, hz0, hz1, hz2⟩ := info_parts Tryz.infoInt
  obtain ⟨i1, ki, kz0, kz1, kz2⟩ := info_parts Tryz.infoEl
  have hmk : ∀ w : World, (Instr.makeSlice 83 (.int .i64 0) (.int .i64 3)).run Tryz.prog w = .ok (.slice (some ⟨w.heap.size, 0, none⟩) 0 3) (w.alloc (.cells #[.int .i64 0, .int .i64 0, .int .i64 0] 3)) := fun _ => by kernel_rfl
  obtain ⟨av, cv, rfl⟩ := hr.shape
  have HN : Hid (NB lns bm w.heap.size w) := ⟨w, hrd, Below.refl _ _, Nat.le_refl _⟩
  have HR := hide hr
  have HCALM := hide hcalm
  have HRG := hide hrg
  have HF := hide hf
  clear hrd hr hcalm hrg hf
  go_enter Tryz.func85, Tryz.ntmps85
  go_wp2_with fail
  refine (Clone_ints _ l _ HR.out (by omega)).mono ?_
  rintro e w1 ⟨v1, rfl, hown1, hb1⟩
  have HST : Hid (ElsSt lns w.heap.size l w w1 (.slice none 0 0) v1 [] l) := by
    refine ⟨rfl, World.ownsRow_nil _ _ _ _, ?_, HCALM.out, HRG.out, by simp, hb1⟩
    obtain ⟨a1, c1, rfl⟩ := (Reads.of_owns hown1).shape
    refine ⟨a1, c1, rfl, ?_⟩
    rcases hown1.2 with ⟨h1, h2⟩ | ⟨g, c, cur, h1, hg, _⟩
    · left; exact List.eq_nil_of_length_eq_zero h2
    · right
      cases h1
      exact ⟨g, 0, rfl, hg, (hown1.lt g rfl).2, owns_ints hown1, by simp [Value.ownBlock], (Reads.of_owns hown1).fits.2⟩
  clear hown1 hb1
  go_wp2_with fail
  go_loopw [5, 6] (fun ve vr wr => ∃ ds l', ElsSt lns w.heap.size l w wr ve vr ds l') (fun _ vr _ => slen vr)
  case atStart => exact ⟨[], l, HST.out⟩
  case round =>
    obtain ⟨ds, l', hst⟩ := hrel
    have HS := hide hst
    obtain ⟨a, cap, rfl, hrest⟩ := hst.rest
    obtain ⟨ae, ce, rfl⟩ := (Reads.of_owns hst.own).shape
    have hfew := hst.few
    have hzr := hst.below.size
    clear hst
    obtain ⟨m, hm⟩ : ∃ m, l'.length = m := ⟨_, rfl⟩
    have HM := hide hm
    rw [hm] at hfew
    rw [hm]
    clear hm
    by_cases h0 : 0 < m
    · have hne : l' ≠ [] := fun h => by have := HM.out; rw [h] at this; simp at this; omega
      obtain ⟨gr, off, rfl, hgr, hgrl, hI, hve, hc1, hc2⟩ := hrest.resolve_left hne
      rw [HM.out] at hc1
      have HI := hide hI
      have HC2 := hide hc2
      have HNE := hide hne
      have HRD : Hid (Reads wr (.slice (some ⟨gr, off, none⟩) m cap) 1 l'.length (ints l')) := by unfold Hid; rw [HM.out]; exact hI.reads hgrl HM.out hc1 hc2
      have HNr := hide (HN.out.below HS.out.below)
      clear hrest hI hc2 hne
      go_wp2_with fail
      refine (longest_any lns bm _ l' _ HNr.out.rd HRD.out (by rw [HM.out]; exact h0) HS.out.rr (by rw [HM.out]; omega) hn HF.out).mono ?_
      rintro e w2 ⟨rfl, hb2⟩
      have HB2 := hide hb2
      have hz2' := hb2.size
      obtain ⟨n, hn'⟩ : ∃ n, Tm.lead lns l' = n := ⟨_, rfl⟩
      have hnp := Tm.lead_pos lns l'
      have hn3 := Tm.lead_three lns l'
      have hnm := Tm.lead_le (lns := lns) HNE.out
      rw [HM.out] at hnm
      rw [hn'] at hnp hn3 hnm
      have HL := hide hn'
      rw [hn']
      clear hb2 hn'
      have j1 : (0 : Int) ≤ (n : Int) := by omega
      have j2 : (n : Int) ≤ (cap : Int) := by omega
      have j3 : (n : Int) ≤ (m : Int) := by omega
      have hlt : (l'.take n).length = n := by rw [List.length_take, HM.out]; omega
      have HSRC : Hid (∀ j u, (ints (l'.take n))[j]? = some u → (w2.alloc (.cells #[.int .i64 0, .int .i64 0, .int .i64 0] 3)).cell? ((⟨gr, off, none⟩ : Addr).add j) = some u) := fun j u hu => by
        rw [addr_add, cell_old (by omega), HB2.out.cell (p := ⟨gr, off + j, none⟩) hgrl]
        simp only [ints, List.getElem?_map, Option.map_eq_some_iff] at hu
        obtain ⟨x, hx, rfl⟩ := hu
        refine (HI.out j x ?_).1
        rw [List.getElem?_take] at hx
        split at hx
        · exact hx
        · cases hx
      have HSP : Hid (∀ j, j < (ints (l'.take n)).length → ((w2.alloc (.cells #[.int .i64 0, .int .i64 0, .int .i64 0] 3)).cell? ⟨w2.heap.size, 0 + 0 * 1 + j, none⟩).isSome = true ∧ (w2.alloc (.cells #[.int .i64 0, .int .i64 0, .int .i64 0] 3)).frozen? ⟨w2.heap.size, 0 + 0 * 1 + j, none⟩ = false) := fun j hj => by
        rw [ints_length, hlt] at hj
        rw [cell_new rfl, frozen_new rfl]
        refine ⟨?_, rfl⟩
        rcases (show j = 0 ∨ j = 1 ∨ j = 2 by omega) with rfl | rfl | rfl <;> rfl
      have HLT := hide hlt
      have HL1 : Hid ((ints (l'.take n)).length = n * 1) := by unfold Hid; rw [ints_length, HLT.out, Nat.mul_one]
      clear hlt
      have HFIRST : Hid (Value.slice (some ⟨w2.heap.size, 0, none⟩) n 3 = .slice (some ⟨w2.heap.size, 0, none⟩) n 3 ∧ Room ((w2.alloc (.cells #[.int .i64 0, .int .i64 0, .int .i64 0] 3)).drew.setCells w2.heap.size 0 (ints (l'.take n))) w2.heap.size (l'.take n) ∧ Below w2.heap.size w2 ((w2.alloc (.cells #[.int .i64 0, .int .i64 0, .int .i64 0] 3)).drew.setCells w2.heap.size 0 (ints (l'.take n))) ∧ w2.heap.size < ((w2.alloc (.cells #[.int .i64 0, .int .i64 0, .int .i64 0] 3)).drew.setCells w2.heap.size 0 (ints (l'.take n))).heap.size) := by
        refine ⟨rfl, ?_, ?_, ?_⟩
        · have h0 : Ints (w2.alloc (.cells #[.int .i64 0, .int .i64 0, .int .i64 0] 3)).drew w2.heap.size 0 [0, 0, 0] := by
            intro j x hx
            have hj := (List.getElem?_eq_some_iff.1 hx).1
            simp at hj
            show (w2.alloc _).cell? _ = _ ∧ (w2.alloc _).frozen? _ = _
            rw [cell_new rfl, frozen_new rfl]
            refine ⟨?_, rfl⟩
            rcases (show j = 0 ∨ j = 1 ∨ j = 2 by omega) with rfl | rfl | rfl <;> (simp at hx; subst hx; rfl)
          have h1 := Ints.put (k := 0) (news := l'.take n) h0 (by rw [HLT.out]; simp; omega)
          refine ⟨[0, 0, 0].drop n, by simp [HLT.out]; omega, ?_⟩
          simpa [HLT.out] using h1
        · exact (Sole.setCells (Sole.of ((Below.refl w2.heap.size w2).alloc (Nat.le_refl _) _)).drew _ _ (by simp [World.drew])).below (Nat.le_refl _) (Nat.le_refl _)
        · rw [(setCells_keep _ _ _ _).1]; simp [World.drew]
      go_upto_region 5 with fail
      go_cut [8] from 11 to 21 (fun t wx => t = .slice (some ⟨w2.heap.size, 0, none⟩) n 3 ∧ Room wx w2.heap.size (l'.take n) ∧ Below w2.heap.size w2 wx ∧ w2.heap.size < wx.heap.size)
      case first =>
        go_region_law (refine step_append_room rfl (.tmp 17) (.tmp 20) 83 rfl 3 i0 1 Tryz.underlying83 hi hz1 w2.heap.size 0 0 3 (by simp [Act.eval]) ⟨gr, off, none⟩ n cap (ints (l'.take n)) (by simp [Act.eval]) HL1.out HSRC.out (fun u hu => ints_one u hu) (by omega) HSP.out ?_)
        all_goals (go_wp2_with fail; go_meet; exact ⟨rfl, HFIRST.out.2⟩)
      case rest =>
        obtain ⟨rfl, hroom, hbc, hzc⟩ := hcut
        have hgs : w.heap.size ≤ w2.heap.size := by omega
        have hkr : wc.heap[gr]? = wr.heap[gr]? := (hbc.block gr (by omega)).trans (HB2.out.block gr hgrl)
        have hzc' := hbc.size
        obtain ⟨off', hA, hI'⟩ : ∃ off', (if cap = n then some (⟨gr, off, none⟩ : Addr) else some ⟨gr, off + n, none⟩) = some ⟨gr, off', none⟩ ∧ Ints wc gr off' (l'.drop n) := by
          by_cases h : cap = n
          · refine ⟨off, by rw [if_pos h], fun j x hx => ?_⟩
            have := (List.getElem?_eq_some_iff.1 hx).1
            rw [List.length_drop, HM.out] at this
            omega
          · refine ⟨off + n, by rw [if_neg h], fun j x hx => ?_⟩
            have := (HI.out.of_block hkr) (n + j) x (by rw [List.getElem?_drop] at hx; exact hx)
            rw [Nat.add_assoc]
            exact this
        have hdl : (l'.drop n).length = m - n := by rw [List.length_drop, HM.out]
        have HNc : Hid (NB lns bm w.heap.size wc) := HNr.out.below ((HB2.out.mono hzr).trans (hbc.mono hgs))
        have HG := hide (grow_any lns bm w.heap.size w2.heap.size gr off' (cap - n) (l'.take n) (l'.drop n) wc HNc.out hgs hgr (by omega)
          ⟨rfl, hroom, hI', Tm.calm_drop HS.out.calm n, (fun y hy => by cases hy), by rw [HLT.out]; omega, by rw [HLT.out]; omega, fun x hx => HS.out.rr x (List.mem_of_mem_take hx), fun x hx => HS.out.rr x (List.mem_of_mem_drop hx), by simp, Two.refl _ _ _, hzc, by omega⟩ (by rw [hdl]; have := HC2.out; omega) (by rw [hdl]; omega) hn HF.out (by omega))
        rw [HLT.out, hdl] at HG
        have HSTEP := hide (Tm.elements_step (lns := lns) HNE.out)
        rw [HL.out] at HSTEP
        have hgl := Tm.grow_length lns (l'.drop n) (l'.take n) []
        have hgle := Tm.grow_left lns (l'.drop n) (l'.take n) []
        have HMEM := hide (Tm.grow_mem lns (l'.drop n) (l'.take n) [])
        have HCA := hide (Tm.grow_calm (lns := lns) (l'.drop n) (l'.take n) [] (Tm.calm_drop HS.out.calm n))
        rw [HLT.out, hdl] at hgl
        rw [HLT.out] at hgle
        have hoe : wc.ownsRow w.heap.size 102 4 (.slice ae ds.length ce) ds.length (elsCells ds) := ownsRow_same HS.out.own (fun g hg => by
          have := (HS.out.own.lt g hg).2
          exact (hbc.block g (by omega)).trans (HB2.out.block g this))
        have HOE := hide hoe
        have HBC : Hid (Below w.heap.size w wc) := HS.out.below.trans ((HB2.out.mono hzr).trans (hbc.mono hgs))
        clear hroom hbc hI' hdl hkr hoe
        go_wp2_with fail
        refine HG.out.mono ?_
        rintro e w6 ⟨rfl, hroom6, hI6, hfew6, htwo6, hlts6, hltr6⟩
        obtain ⟨S, hS⟩ : ∃ S, (Tm.grow lns (l'.take n) [] (l'.drop n)).1 = S := ⟨_, rfl⟩
        obtain ⟨R, hR⟩ : ∃ R, (Tm.grow lns (l'.take n) [] (l'.drop n)).2 = R := ⟨_, rfl⟩
        simp only [hS, hR] at hroom6 hI6 hfew6 hgl hgle HMEM HCA HSTEP ⊢
        have HRM6 := hide hroom6
        have HI6 := hide hI6
        have HTW := hide htwo6
        have hz6 := htwo6.size
        have HN6 := hide (HNc.out.below (htwo6.below hgs hgr (by omega)))
        have HRD6 : Hid (Reads w6 (.slice (some ⟨w2.heap.size, 0, none⟩) S.length 3) 1 S.length (ints S)) := by
          obtain ⟨pad, h1, h2⟩ := hroom6
          exact h2.front.reads hlts6 rfl hfew6 (by unfold maxLen; omega)
        have HOE6 : Hid (w6.ownsRow w.heap.size 102 4 (.slice ae ds.length ce) ds.length (elsCells ds)) := ownsRow_same HOE.out (fun g hg => by
          have h1 := (HS.out.own.lt g hg).2
          exact htwo6.block g (by omega) (by omega) (fun h => hve (by rw [← h]; exact hg)))
        clear hroom6 hI6 htwo6 hS hR
        obtain ⟨sl, hsl⟩ : ∃ sl, S.length = sl := ⟨_, rfl⟩
        obtain ⟨rl, hrl⟩ : ∃ rl, R.length = rl := ⟨_, rfl⟩
        have HSL := hide hsl
        have HRL := hide hrl
        rw [hsl] at HRD6 hfew6 hgle hgl
        rw [hrl] at hgl
        rw [hsl, hrl]
        clear hsl hrl
        go_wp2_with fail
        refine (weigh_any lns bm _ S _ HN6.out.rd (by rw [HSL.out]; exact HRD6.out) (by rw [HSL.out]; omega) (fun x hx => by
          rcases (HMEM.out x).1 hx with h | h
          · exact HS.out.rr x (List.mem_of_mem_take h)
          · exact HS.out.rr x (List.mem_of_mem_drop h)) (by rw [HSL.out]; exact hfew6) hn HF.out).mono ?_
        rintro e w7 ⟨v7, rfl, hr7, hb7⟩
        have hwf := weigh_few HF.out S
        obtain ⟨g7, o7, c7, rfl, hg7, hc7⟩ := hr7.form (by rw [elsCells_length]; omega)
        have hz7 := hb7.size
        have HOE7 := hide (owns_below HOE6.out hb7)
        have HC7 : Hid (∀ j u, (elsCells (Tm.weigh lns S))[j]? = some u → w7.cell? ((⟨g7, o7, none⟩ : Addr).add j) = some u) := fun j u hu => by rw [addr_add]; exact hc7 j u hu
        have HB7 := hide hb7
        obtain ⟨wl, hwl⟩ : ∃ wl, (Tm.weigh lns S).length = wl := ⟨_, rfl⟩
        have HWL := hide hwl
        have HL7 : Hid ((elsCells (Tm.weigh lns S)).length = wl * 4) := by unfold Hid; rw [elsCells_length, hwl]
        rw [hwl] at hwf
        rw [hwl]
        clear hr7 hb7 hc7 hwl
        go_wp2_with (at_builtin; go_must (refine wpList_append_own_at _ rfl _ _ 84 rfl w.heap.size 102 i1 (.agg #[.int .i64 0, .int .i64 0, .int .i64 0, .bool false]) 4 32 Tryz.underlying84 ki kz0 kz1 kz2 rfl (by decide) _ _ _ rfl HOE7.out ⟨g7, o7, none⟩ wl c7 (elsCells (Tm.weigh lns S)) rfl HL7.out HC7.out (elsCells_one _) (by unfold maxLen; omega) (by omega) (by omega) ?_))
        intro v8 w8 hown8 hgr8 _ hat8
        have hz8 := hgr8.size
        simp only [List.length_nil, Nat.add_zero] at hgl
        have hb67 : ∀ g, g < w6.heap.size → (Value.slice ae ds.length ce).ownBlock ≠ some g → w8.heap[g]? = w6.heap[g]? := fun g hg hne => (hgr8.block g (by omega) (fun h => hne h.symm)).trans (HB7.out.block g hg)
        have HST8 : Hid (ElsSt lns w.heap.size l w w8 v8 (.slice (some ⟨gr, off', none⟩) rl (cap - n)) (ds ++ Tm.weigh lns S) R) := by
          refine ⟨by rw [HS.out.same, HSTEP.out, List.append_assoc], ?_, ⟨_, _, by rw [HRL.out], .inr ⟨gr, off', rfl, hgr, by omega, HI6.out.of_block (hb67 gr hltr6 hve), ?_, by rw [HRL.out]; omega, by have := HC2.out; omega⟩⟩, HCA.out, fun x hx => ?_, ?_, ?_⟩
          · rw [elsCells_append, List.length_append, HWL.out]; exact hown8
          · rcases hat8 with h | h
            · rw [h]; exact hve
            · rw [h]; simp; omega
          · rcases (HMEM.out x).2 hx with h | h
            · cases h
            · exact HS.out.rr x (List.mem_of_mem_drop h)
          · rw [List.length_append, HWL.out, HRL.out]; omega
          · exact ((HBC.out.trans (HTW.out.below hgs hgr (by omega))).trans (HB7.out.mono (by omega))).grown hgr8 (by omega) (fun j hj => (HOE7.out.lt j hj).1)
        have HSL8 : Hid (slen (.slice (some ⟨gr, off', none⟩) rl (cap - n)) < m) := by show rl < m; omega
        clear hown8 hgr8 hat8 hb67
        go_wp2
        go_roundw
        case rel => exact ⟨_, R, HST8.out⟩
        case measure => exact HSL8.out
    · have hl0 : l' = [] := List.eq_nil_of_length_eq_zero (by rw [HM.out]; omega)
      have HD : Hid (wr.ownsRow w.heap.size 102 4 (.slice ae ds.length ce) (Tm.elements lns l).length (elsCells (Tm.elements lns l))) := by
        unfold Hid
        rw [HS.out.same, hl0, Tm.elements_nil, List.append_nil]
        exact HS.out.own
      have HBD := hide HS.out.below
      go_wp2
      go_ret
      exact ⟨_, rfl, HD.out, HBD.out⟩
end Go.Proofs.YtmnjjjhmnhfapaaGreatDoor
namespace Go.Proofs.YtmnjjjhmnhfapaaGreatDoor
open Go.RowKit

/-- What first answers: the longest sequence's length; 0: there is none. -/
def firstOf (lns : List Tm.Ln) (l : List Int) : Nat := if 3 ≤ l.length ∧ Tm.isS lns (l.take 3) = true then 3 else if 2 ≤ l.length ∧ Tm.isS lns (l.take 2) = true then 2 else if 1 ≤ l.length ∧ Tm.isS lns (l.take 1) = true then 1 else 0
theorem firstOf_lead {lns : List Tm.Ln} {l : List Int} : max 1 (firstOf lns l) = Tm.lead lns l := by
  unfold firstOf Tm.lead
  split
  · rfl
  · split
    · rfl
    · split <;> rfl
theorem firstOf_le {lns : List Tm.Ln} {l : List Int} : firstOf lns l ≤ 3 := by
  unfold firstOf
  repeat' split
  all_goals omega
theorem firstOf_hit {lns : List Tm.Ln} {l : List Int} {k : Nat} (h1 : 1 ≤ k) (h3 : k ≤ 3) (hl : k ≤ l.length) (hx : Tm.isS lns (l.take k) = true) (hno : ∀ m, k < m → m ≤ 3 → m ≤ l.length → Tm.isS lns (l.take m) = false) : firstOf lns l = k := by
  unfold firstOf
  rcases (show k = 1 ∨ k = 2 ∨ k = 3 by omega) with rfl | rfl | rfl
  · rw [if_neg (fun h => by have := hno 3 (by omega) (by omega) h.1; rw [h.2] at this; cases this), if_neg (fun h => by have := hno 2 (by omega) (by omega) h.1; rw [h.2] at this; cases this), if_pos ⟨hl, hx⟩]
  · rw [if_neg (fun h => by have := hno 3 (by omega) (by omega) h.1; rw [h.2] at this; cases this), if_pos ⟨hl, hx⟩]
  · rw [if_pos ⟨hl, hx⟩]
theorem firstOf_none {lns : List Tm.Ln} {l : List Int} (hno : ∀ m, 0 < m → m ≤ 3 → m ≤ l.length → Tm.isS lns (l.take m) = false) : firstOf lns l = 0 := by
  unfold firstOf
  rw [if_neg (fun h => by have := hno 3 (by omega) (by omega) h.1; rw [h.2] at this; cases this), if_neg (fun h => by have := hno 2 (by omega) (by omega) h.1; rw [h.2] at this; cases this), if_neg (fun h => by have := hno 1 (by omega) (by omega) h.1; rw [h.2] at this; cases this)]

/-- What Sequence tells beside the elements. -/
theorem seqAns_ok {lns : List Tm.Ln} {q : List Int} {w : World} {e : Ending} (h : seqAns (Tm.seqOf lns q) w e) : ∃ a n cap, e = .returned (.tuple #[.slice a n cap, .bool (Tm.isS lns q)]) ∧ ∀ es, Tm.seqOf lns q = some es → n = es.length ∧ Reads w (.slice a n cap) 4 es.length (elsCells es) := by
  obtain ⟨v, ok, rfl, h⟩ := h
  cases ok
  · obtain ⟨h1, rfl⟩ := h
    refine ⟨none, 0, 0, by unfold Tm.isS; rw [h1]; rfl, fun es he => by rw [h1] at he; cases he⟩
  · obtain ⟨es, h1, h2⟩ := h
    obtain ⟨a, cap, rfl⟩ := h2.shape
    refine ⟨a, es.length, cap, by unfold Tm.isS; rw [h1]; rfl, fun es' he => ?_⟩
    rw [h1] at he
    injection he with he
    subst he
    exact ⟨rfl, h2⟩

set_option maxRecDepth 100000 in
set_option maxHeartbeats 2000000 in
theorem first_any (vl : Value) (st : Int) (sh : Bool) (vs : Value) (l : List Int) (lns : List Tm.Ln) (w : World) (ht : TableRd w vl lns) (hs : Reads w vs 1 l.length (ints l)) (hp : 0 < l.length) (hl : lns.length ≤ 1000000) (hl2 : l.length ≤ 1000000) (hf : ∀ o ∈ lns, Tm.Fit o) :
    Calls Tryz.prog 87 #[.agg #[vl, .int .i64 st, .bool sh], vs] w fun e w' => e = .returned (.int .i64 (firstOf lns l)) ∧ Below w.heap.size w w' := by
  obtain ⟨a, cap, rfl⟩ := ht.shape
  obtain ⟨g, off, capl, rfl, hg, _⟩ := hs.form (by rw [ints_length]; exact hp)
  have HT := hide ht
  have HS := hide hs
  have hcap := hs.fits
  have HF3 : Hid (∀ o ∈ lns, o.runes.length ≤ 1000000) := fun o ho => by have := (hf o ho).few; omega
  obtain ⟨n, hn⟩ : ∃ n, l.length = n := ⟨_, rfl⟩
  rw [hn] at hp hl2 hcap
  have HN := hide hn
  rw [hn]
  obtain ⟨W, hW⟩ : ∃ W, w.alloc (.cells #[.slice a lns.length cap, .int .i64 st, .bool sh] 29) = W := ⟨_, rfl⟩
  have hb0 : Below w.heap.size w W := by rw [← hW]; exact (Below.refl _ _).alloc (Nat.le_refl _) _
  have hz0 : W.heap.size = w.heap.size + 1 := by rw [← hW]; simp
  have k0 : W.cell? ⟨w.heap.size, 0, none⟩ = some (.slice a lns.length cap) := by rw [← hW, cell_new rfl]; rfl
  have k1 : W.cell? ⟨w.heap.size, 1, none⟩ = some (.int .i64 st) := by rw [← hW, cell_new rfl]; rfl
  have k2 : W.cell? ⟨w.heap.size, 2, none⟩ = some (.bool sh) := by rw [← hW, cell_new rfl]; rfl
  have HB0 := hide hb0
  have HK := hide (And.intro k0 (And.intro k1 k2))
  clear ht hs hb0 hn k0 k1 k2
  go_enter Tryz.func87, Tryz.ntmps87
  go_upto_region 1 with fail
  go_cut [5] from 6 to 10 (fun t wx => t = .int .i64 ((min n 3 : Nat) : Int) ∧ W = wx)
  case first =>
    go_wp2
    all_goals go_meet
    all_goals refine ⟨?_, rfl⟩
    all_goals first | rw [show min n 3 = n by omega] | (rw [show min n 3 = 3 by omega]; rfl)
  case rest =>
    obtain ⟨rfl, rfl⟩ := hcut
    go_wp2_with fail
    go_loopw [5] (fun i wr => ∃ k : Nat, k ≤ 3 ∧ k ≤ n ∧ i = .int .i64 k ∧ (∀ m, k < m → m ≤ 3 → m ≤ l.length → Tm.isS lns (l.take m) = false) ∧ Below W.heap.size W wr) (fun i _ => (intOf i).toNat)
    case atStart => exact ⟨min n 3, by omega, by omega, rfl, fun m h1 h2 h3 => by rw [HN.out] at h3; omega, Below.refl _ _⟩
    case round =>
      obtain ⟨k, hk3, hkn, rfl, hno, hb⟩ := hrel
      have hz := hb.size
      have HB := hide hb
      have HNO := hide hno
      have k0 : wr.cell? ⟨w.heap.size, 0, none⟩ = some (.slice a lns.length cap) := by rw [hb.cell (p := ⟨w.heap.size, 0, none⟩) (by simp only; omega)]; exact HK.out.1
      have k1 : wr.cell? ⟨w.heap.size, 1, none⟩ = some (.int .i64 st) := by rw [hb.cell (p := ⟨w.heap.size, 1, none⟩) (by simp only; omega)]; exact HK.out.2.1
      have k2 : wr.cell? ⟨w.heap.size, 2, none⟩ = some (.bool sh) := by rw [hb.cell (p := ⟨w.heap.size, 2, none⟩) (by simp only; omega)]; exact HK.out.2.2
      have HBW : Hid (Below w.heap.size w wr) := HB0.out.trans (hb.mono (by omega))
      clear hb hno
      by_cases hlt : 0 < k
      · have HTK := hide (Reads.two (HS.out.below HBW.out HS.out.2.1) (k := k) (by rw [HN.out]; exact hkn))
        have hlen : (l.take k).length = k := by rw [List.length_take, HN.out]; omega
        rw [hlen] at HTK
        have j1 : (0 : Int) ≤ (k : Int) := by omega
        have j2 : (k : Int) ≤ (capl : Int) := by omega
        have j3 : (k : Int) ≤ (n : Int) := by omega
        have HTW := hide (HT.out.below HBW.out)
        go_upto_region 4 with fail
        go_cut [6, 7] from 11 to 22 (fun y t wx => t = .bool (Tm.isS lns (l.take k)) ∧ Below wr.heap.size wr wx)
        case first =>
          go_region_with (go_at_call 82; refine (Sequence_any _ st sh _ (l.take k) lns _ (by exact HTW.out.below (Below.refl _ _).drew) (by rw [hlen]; exact HTK.out.below (Below.refl _ _).drew HTK.out.2.1) hl (by omega) HF3.out).mono ?_; rintro e w2 ⟨hans, hb2⟩; obtain ⟨sa, sn, sc, rfl, _⟩ := seqAns_ok hans)
          all_goals (go_wp2_with fail; go_meet; exact ⟨rfl, (Below.refl _ _).drew.trans hb2⟩)
        case rest =>
          obtain ⟨rfl, hbc⟩ := hcut
          have HBC : Hid (Below W.heap.size W wc) := HB.out.trans (hbc.mono (by omega))
          have HBF : Hid (Below w.heap.size w wc) := HBW.out.trans (hbc.mono (by omega))
          clear hbc k0 k1 k2
          cases hx : Tm.isS lns (l.take k)
          · go_wp2
            go_roundw
            case rel => exact ⟨k - 1, by omega, by omega, by go_num, fun m h1 h2 h3 => by
              by_cases e : m = k
              · rw [e]; exact hx
              · exact HNO.out m (by omega) h2 h3, HBC.out⟩
            case measure => simp [intOf]; omega
          · go_wp2
            go_ret
            exact ⟨ret_int (by rw [firstOf_hit (by omega) hk3 (by rw [HN.out]; exact hkn) hx HNO.out]), HBF.out⟩
      · clear k0 k1 k2
        go_wp2
        go_ret
        exact ⟨ret_int (by rw [firstOf_none (fun m h1 h2 h3 => HNO.out m (by omega) h2 h3)]; rfl), HBW.out⟩

/-- Is a rune free behind these? -/
def freeOf (lns : List Tm.Ln) (p : List Int) (c : Int) : Bool := p.all fun y => decide (Tm.classOf lns y < Tm.classOf lns c)
theorem freeOf_iff {lns : List Tm.Ln} {p : List Int} {c : Int} : freeOf lns p c = true ↔ ∀ y ∈ p, Tm.classOf lns y < Tm.classOf lns c := by simp [freeOf]

set_option maxRecDepth 100000 in
set_option maxHeartbeats 2000000 in
theorem free_any (vl : Value) (st : Int) (sh : Bool) (vs : Value) (l : List Int) (i : Nat) (lns : List Tm.Ln) (w : World) (ht : TableRd w vl lns) (hs : Reads w vs 1 l.length (ints l)) (hi : i < l.length) (hl : lns.length ≤ 1000000) (hl2 : l.length ≤ 1000000) (hf : ∀ o ∈ lns, Tm.Fit o) :
    Calls Tryz.prog 89 #[.agg #[vl, .int .i64 st, .bool sh], vs, .int .i64 i] w fun e w' => e = .returned (.bool (freeOf lns (l.take i) l[i])) ∧ Below w.heap.size w w' := by
  obtain ⟨a, cap, rfl⟩ := ht.shape
  obtain ⟨g, off, capl, rfl, hg, hc⟩ := hs.form (by rw [ints_length]; omega)
  have HT := hide ht
  have HF := hide hf
  have HC : Hid (∀ k (h : k < l.length), w.cell? ⟨g, off + k, none⟩ = some (.int .i64 l[k])) := fun k h => hc k _ (ints_get h)
  have ci := HC.out i hi
  obtain ⟨n, hn⟩ : ∃ n, l.length = n := ⟨_, rfl⟩
  rw [hn] at hl2
  have HN := hide hn
  rw [hn]
  obtain ⟨W, hW⟩ : ∃ W, w.alloc (.cells #[.slice a lns.length cap, .int .i64 st, .bool sh] 29) = W := ⟨_, rfl⟩
  have hb0 : Below w.heap.size w W := by rw [← hW]; exact (Below.refl _ _).alloc (Nat.le_refl _) _
  have hz0 : W.heap.size = w.heap.size + 1 := by rw [← hW]; simp
  have k0 : W.cell? ⟨w.heap.size, 0, none⟩ = some (.slice a lns.length cap) := by rw [← hW, cell_new rfl]; rfl
  have k1 : W.cell? ⟨w.heap.size, 1, none⟩ = some (.int .i64 st) := by rw [← hW, cell_new rfl]; rfl
  have k2 : W.cell? ⟨w.heap.size, 2, none⟩ = some (.bool sh) := by rw [← hW, cell_new rfl]; rfl
  have HB0 := hide hb0
  have HK := hide (And.intro k0 (And.intro k1 k2))
  have ciW : W.cell? ⟨g, off + i, none⟩ = some (.int .i64 l[i]) := by rw [hb0.cell (p := ⟨g, off + i, none⟩) hg]; exact ci
  have hin : i < n := by omega
  have j1 : (0 : Int) ≤ (i : Int) := by omega
  have j2 : (i : Int) < (n : Int) := by omega
  have HTW := hide (HT.out.below hb0)
  obtain ⟨c, hcdef⟩ : ∃ c, l[i] = c := ⟨_, rfl⟩
  rw [hcdef] at ciW
  have HCD := hide hcdef
  simp only [hcdef]
  clear ht hs hb0 hn hc ci hf hcdef
  go_enter Tryz.func89, Tryz.ntmps89
  go_upto_region 1 with fail
  go_cut [7] from 9 to 14 (fun t wx => t = .int .i64 (Tm.classOf lns c) ∧ Below W.heap.size W wx)
  case first =>
    go_region_with (go_at_call 88; refine (Class_any _ st sh c lns _ (by exact HTW.out.below (Below.refl _ _).drew) HF.out hl).mono ?_; rintro e w2 ⟨rfl, hbp⟩)
    all_goals (go_wp2_with fail; go_meet; exact ⟨rfl, ((Below.refl _ _).drew).trans hbp⟩)
  case rest =>
    obtain ⟨rfl, hbc⟩ := hcut
    have HBC := hide hbc
    clear hbc k0 k1 k2 ciW
    go_wp2_with fail
    go_loopw [8] (fun q wr => ∃ k : Nat, k ≤ i ∧ q = .int .i64 k ∧ freeOf lns (l.take k) c = true ∧ Below W.heap.size W wr) (fun q _ => i - (intOf q).toNat)
    case atStart => exact ⟨0, Nat.zero_le _, rfl, rfl, HBC.out⟩
    case round =>
      obtain ⟨k, hk, rfl, hfr, hb⟩ := hrel
      have HB := hide hb
      have hz := hb.size
      have k0 : wr.cell? ⟨w.heap.size, 0, none⟩ = some (.slice a lns.length cap) := by rw [hb.cell (p := ⟨w.heap.size, 0, none⟩) (by simp only; omega)]; exact HK.out.1
      have k1 : wr.cell? ⟨w.heap.size, 1, none⟩ = some (.int .i64 st) := by rw [hb.cell (p := ⟨w.heap.size, 1, none⟩) (by simp only; omega)]; exact HK.out.2.1
      have k2 : wr.cell? ⟨w.heap.size, 2, none⟩ = some (.bool sh) := by rw [hb.cell (p := ⟨w.heap.size, 2, none⟩) (by simp only; omega)]; exact HK.out.2.2
      have HBW : Hid (Below w.heap.size w wr) := HB0.out.trans (hb.mono (by omega))
      have HFR := hide hfr
      clear hb hfr
      by_cases hlt : k < i
      · have hkl : k < l.length := by rw [HN.out]; omega
        have ck : wr.cell? ⟨g, off + k, none⟩ = some (.int .i64 l[k]) := by rw [HBW.out.cell (p := ⟨g, off + k, none⟩) hg]; exact HC.out k hkl
        have HST : Hid (freeOf lns (l.take (k + 1)) c = (freeOf lns (l.take k) c && decide (Tm.classOf lns l[k] < Tm.classOf lns c))) := by unfold Hid freeOf; rw [List.take_succ_eq_append_getElem hkl, List.all_append]; simp
        have HIN : Hid (¬ Tm.classOf lns l[k] < Tm.classOf lns c → freeOf lns (l.take i) c = false) := by
          intro h
          rw [Bool.eq_false_iff]
          intro h2
          have := freeOf_iff.1 h2 l[k] (by rw [List.mem_take_iff_getElem]; exact ⟨k, by omega, rfl⟩)
          exact h this
        have i1 : (0 : Int) ≤ (k : Int) := by omega
        have i2 : (k : Int) < (n : Int) := by omega
        have HTR := hide (HT.out.below HBW.out)
        generalize l[k] = y at *
        obtain ⟨kc, hkc⟩ : ∃ kc, Tm.classOf lns c = kc := ⟨_, rfl⟩
        rw [hkc] at HST HIN
        rw [hkc]
        have HKC := hide hkc
        clear hkc
        go_upto_region 5 with fail
        go_cut [27] from 15 to 27 (fun t wx => t = .bool (decide (kc ≤ Tm.classOf lns y)) ∧ Below wr.heap.size wr wx)
        case first =>
          go_region_with (go_at_call 88; refine (Class_any _ st sh y lns _ (by exact HTR.out.below (Below.refl _ _).drew) HF.out hl).mono ?_; rintro e w2 ⟨rfl, hbp⟩)
          all_goals (go_wp2_with fail; go_meet; exact ⟨rfl, ((Below.refl _ _).drew).trans hbp⟩)
        case rest =>
          obtain ⟨rfl, hbc⟩ := hcut
          have HBR : Hid (Below W.heap.size W wc) := HB.out.trans (hbc.mono (by omega))
          have HBF : Hid (Below w.heap.size w wc) := HBW.out.trans (hbc.mono (by omega))
          clear hbc k0 k1 k2 ck
          by_cases hle : kc ≤ Tm.classOf lns y
          · rw [decide_eq_true hle]
            have HF2 := hide (HIN.out (by omega))
            clear hle
            go_wp2
            go_ret
            exact ⟨ret_bool HF2.out.symm, HBF.out⟩
          · rw [decide_eq_false hle]
            have HN2 : Hid (freeOf lns (l.take (k + 1)) c = true) := by unfold Hid; rw [HST.out, HFR.out, decide_eq_true (by omega)]; rfl
            clear hle
            go_wp2
            go_roundw
            case rel => exact ⟨k + 1, by omega, by go_num, HN2.out, HBR.out⟩
            case measure => simp [intOf]; omega
      · have hki : k = i := by omega
        have HFI : Hid (freeOf lns (l.take i) c = true) := by rw [← hki]; exact HFR.out
        clear k0 k1 k2
        go_wp2
        go_ret
        exact ⟨ret_bool HFI.out.symm, HBW.out⟩
end Go.Proofs.YtmnjjjhmnhfapaaGreatDoor
namespace Go.Proofs.YtmnjjjhmnhfapaaGreatDoor
open Go.RowKit

set_option maxRecDepth 100000 in
set_option maxHeartbeats 1000000 in
theorem lawSameEls_any (va vb : Value) (l : List Tm.El) (w : World) (ha : Reads w va 4 l.length (elsCells l)) (hb : Reads w vb 4 l.length (elsCells l)) (hl : l.length ≤ 1000000) :
    Calls Tryz.prog 43 #[va, vb] w fun e w' => e = .returned (.bool true) ∧ ∃ n, w' = w.drewN n := by
  obtain ⟨a, cap, rfl⟩ := ha.shape
  obtain ⟨a', cap', rfl⟩ := hb.shape
  have HA := hide ha
  have HB := hide hb
  obtain ⟨n, hn⟩ : ∃ n, l.length = n := ⟨_, rfl⟩
  have HN := hide hn
  rw [hn] at hl HA HB
  rw [hn]
  clear ha hb hn
  go_enter Tryz.func43, Tryz.ntmps43
  go_wp2
  go_loopw [5] (fun i wr => ∃ k : Nat, k ≤ n ∧ i = .int .i64 k ∧ ∃ q, wr = w.drewN q) (fun i _ => n - (intOf i).toNat)
  case atStart => exact ⟨0, Nat.zero_le _, rfl, 0, rfl⟩
  case round =>
    obtain ⟨k, hk, rfl, q, rfl⟩ := hrel
    by_cases hlt : k < n
    · have hlt' : k < l.length := by rw [HN.out]; exact hlt
      obtain ⟨g, off, rfl, hg, c0, c1, c2, c3⟩ := els_at (by rw [HN.out]; exact HA.out) hlt'
      obtain ⟨g', off', rfl, hg', d0, d1, d2, d3⟩ := els_at (by rw [HN.out]; exact HB.out) hlt'
      have i1 : (0 : Int) ≤ (k : Int) := by omega
      have i2 : (k : Int) < (n : Int) := by omega
      generalize l[k] = x at *
      obtain ⟨p, s, t, v⟩ := x
      simp only at c0 c1 c2 c3 d0 d1 d2 d3
      clear hlt'
      go_wp2
      go_quiet (fail)
      go_wp2
      go_roundw
      case rel => exact ⟨k + 1, by omega, by go_num, _, rfl⟩
      case measure => simp [intOf]; omega
    · go_wp2
      go_ret
      exact ⟨rfl, q, rfl⟩

/-- The caller's mark for the list of a number. -/
def mkEl (i : Int) : Tm.El := ⟨-1000 - i, 0, 0, true⟩
set_option maxRecDepth 100000 in
theorem markIntE_any (n : Int) (w : World) (h : 0 ≤ n ∧ n ≤ 1000000000) :
    Calls Tryz.prog 49 #[.int .i64 n] w fun e w' => e = .returned (.int .i64 (-1000 - n)) ∧ w' = w := by
  obtain ⟨h1, h2⟩ := h
  go_enter Tryz.func49, Tryz.ntmps49
  go_wp2
  go_ret
  exact ⟨rfl, rfl⟩
set_option maxRecDepth 100000 in
theorem markElement_any (n : Int) (w : World) (h : 0 ≤ n ∧ n ≤ 1000000000) :
    Calls Tryz.prog 50 #[.int .i64 n] w fun e w' => e = .returned (.agg #[.int .i64 (-1000 - n), .int .i64 0, .int .i64 0, .bool true]) ∧ Below w.heap.size w w' := by
  go_enter Tryz.func50, Tryz.ntmps50
  go_wp2_with fail
  refine (markIntE_any n _ h).mono ?_
  rintro e w1 ⟨rfl, rfl⟩
  go_wp2
  refine bodyPost_ret (v := .agg #[.int .i64 (-1000 - n), .int .i64 0, .int .i64 0, .bool true]) (by simp [results, Tryz.results50, go_sem]) rfl ⟨rfl, ?_⟩
  (repeat (first | exact Below.refl _ _ | refine Below.drew ?_ | refine Below.setCell ?_ (by simp) _ | refine Below.alloc ?_ (by simp) _))
end Go.Proofs.YtmnjjjhmnhfapaaGreatDoor
namespace Go.Proofs.YtmnjjjhmnhfapaaGreatDoor
open Go.RowKit

theorem run_append_keep4 {P : Program} (w : World) (base : Nat) (t ty e : TypeId) (i : TypeInfo) (z : Value) (bytes : Nat) (ht : P.underlying t = some (.slice e)) (hi : P.info? e = some i) (hz : i.zero = some z)
    (hsize : i.size = 4) (hby : i.bytes = bytes) (hzs : z.cells.size = 4)
    (v : Value) (n : Nat) (xs : List Value) (hown : w.ownsRow base e 4 v n xs)
    (a : Addr) (m c : Nat) (news : List Value) (hl : news.length = m * 4) (hnews : ∀ j u, news[j]? = some u → w.cell? (a.add j) = some u) (h1 : ∀ u ∈ news, u.oneCell' = true)
    (h63 : n + m ≤ maxLen) (hbytes : (n + m) * bytes ≤ 140737488355328) (hbase : base ≤ w.heap.size) :
    ∃ v' w', (Builtin.append_ #[t, t] ty #[v, .slice (some a) m c]).run P w = .ok v' w' ∧ w'.ownsRow base e 4 v' (n + m) (xs ++ news) ∧ w.grownBy w' v.ownBlock ∧
      (v'.ownBlock = v.ownBlock ∨ v'.ownBlock = some w.heap.size) ∧ Reads w' v 4 n xs := by
  obtain ⟨v', w', hr, h2, h3, h4, h5⟩ := run_append_own_at (P := P) w base t ty e i z 4 bytes ht hi hz hsize hby hzs (by omega) v n xs hown a m c news hl hnews h1 h63 hbytes hbase
  refine ⟨v', w', hr, h2, h3, h5, ?_⟩
  have hrd := Reads.of_owns hown
  rcases hown.2 with ⟨rfl, rfl⟩ | ⟨g, cap, cur, rfl, hbg, hg, hnc, hcm, hcs, htake⟩
  · exact hrd.of_blocks h3.size (fun g hg => by simp [Value.ownBlock] at hg)
  · by_cases hroom : n + m ≤ cap
    · have hfit : n * i.size + news.length ≤ cur.size := by rw [hl, hcs, hsize]; omega
      have hr' := run_append_room (P := P) w t ty e i ht hi g n cap cur hg a m c news (by rw [hsize]; exact hl) hnews h1 hroom hfit
      rw [hr] at hr'
      have hv : v' = .slice (some ⟨g, 0, none⟩) (n + m) cap := by injection hr'
      subst hv
      have hc := h2.cells (g := g) rfl
      refine ⟨hown.1, fun g' hg' => by simp [Value.ownBlock] at hg'; subst hg'; exact (h2.lt g rfl).2, _, cap, rfl, ⟨hnc, hcm⟩, fun j u hu => ⟨g, 0, rfl, ?_⟩⟩
      have hj : (xs ++ news)[j]? = some u := by
        rw [List.getElem?_append_left (List.getElem?_eq_some_iff.1 hu).1]; exact hu
      have := hc j u hj
      have hadd : (⟨g, 0, none⟩ : Addr).add j = ⟨g, 0 + j, none⟩ := by unfold Addr.add; split <;> simp_all
      rw [hadd] at this
      exact this
    · have holds : ∀ j u, xs[j]? = some u → w.cell? ((⟨g, 0, none⟩ : Addr).add j) = some u := hown.cells (g := g) rfl
      have hr' := run_append_grow (P := P) w t ty e i z ht hi hz ⟨g, 0, none⟩ n cap xs (by rw [hsize]; exact hown.1) holds a m c news (by rw [hsize]; exact hl) hnews (by omega) (by unfold maxLen at h63; omega) (growslice_fits (by omega) (by rw [hby]; exact hbytes))
      rw [hr] at hr'
      have hw : w' = w.drew.alloc (.cells (xs.toArray ++ news.toArray ++ Builtin.zeroCells z.cells (grownCap w (n + m) cap e - (n + m))) e) := by injection hr'
      refine hrd.of_blocks h3.size (fun g' hg' => ?_)
      have hlt := hrd.2.1 g' hg'
      rw [hw]
      exact heap_alloc_old w.drew _ hlt

/-- At the operation, for the walk. -/
theorem wpList_append_keep4 {P : Program} {w : World} {ops : Array Oper} {rest : List Oper} {o : Oper} {a : Act} {Q : Exit → Act → World → Prop} (hgd : o.guard = none) (s x : Operand) (t : TypeId)
    (ho : o.op = .call { callee := .builtin .append, args := #[s, x], argTypes := #[t, t] })
    (base : Nat) (e : TypeId) (i : TypeInfo) (z : Value) (bytes : Nat) (ht : P.underlying t = some (.slice e)) (hi : P.info? e = some i) (hz : i.zero = some z)
    (hsize : i.size = 4) (hby : i.bytes = bytes) (hzs : z.cells.size = 4)
    (v : Value) (n : Nat) (xs : List Value) (hs : a.eval s = v) (hown : w.ownsRow base e 4 v n xs)
    (ad : Addr) (m c : Nat) (news : List Value) (hx : a.eval x = .slice (some ad) m c) (hl : news.length = m * 4) (hnews : ∀ j u, news[j]? = some u → w.cell? (ad.add j) = some u) (h1 : ∀ u ∈ news, u.oneCell' = true)
    (h63 : n + m ≤ maxLen) (hbytes : (n + m) * bytes ≤ 140737488355328) (hbase : base ≤ w.heap.size)
    (h : ∀ v' w', w'.ownsRow base e 4 v' (n + m) (xs ++ news) → w.grownBy w' v.ownBlock → (v'.ownBlock = v.ownBlock ∨ v'.ownBlock = some w.heap.size) → Reads w' v 4 n xs → wpList P ops Q rest (a.put o.dst v') w') :
    wpList P ops Q (o :: rest) a w := by
  refine wpList_plain hgd fun K hK => ?_
  obtain ⟨v', w', hr, h2, h3, h4, h5⟩ := run_append_keep4 (P := P) w base t o.type e i z bytes ht hi hz hsize hby hzs v n xs hown ad m c news hl hnews h1 h63 hbytes hbase
  unfold Oper.wp execOp
  simp only [ho, resolve, invoke, builtin, Sem.run_bind, Sem.run_pure, Result.andThen_ok, List.map_toArray, List.map_cons, List.map_nil, hs, hx, hr]
  exact hK _ _ (h v' w' h2 h3 h4 h5)

theorem set4 (A R : List Value) (a b c d x y z v : Value) {p : Nat} (hp : A.length = p) : ((((A ++ a :: b :: c :: d :: R).set p x).set (p + 1) y).set (p + 2) z).set (p + 3) v = A ++ x :: y :: z :: v :: R := by
  subst hp
  simp
/-- The first k elements written over. -/
def filledE (m : Tm.El) (xs : List Tm.El) (k : Nat) : List Tm.El := List.replicate k m ++ xs.drop k
theorem filledE_zero (m : Tm.El) (xs : List Tm.El) : filledE m xs 0 = xs := by simp [filledE]
theorem filledE_all (m : Tm.El) (xs : List Tm.El) : filledE m xs xs.length = List.replicate xs.length m := by simp [filledE]
theorem filledE_length {m : Tm.El} {xs : List Tm.El} {k : Nat} (h : k ≤ xs.length) : (filledE m xs k).length = xs.length := by simp [filledE]; omega
theorem filledE_set {m : Tm.El} {xs : List Tm.El} {k : Nat} (hk : k < xs.length) : ((((elsCells (filledE m xs k)).set (k * 4) (.int .i64 m.p)).set (k * 4 + 1) (.int .i64 m.s)).set (k * 4 + 2) (.int .i64 m.t)).set (k * 4 + 3) (.bool m.v) = elsCells (filledE m xs (k + 1)) := by
  have e1 : elsCells (filledE m xs k) = elsCells (List.replicate k m) ++ .int .i64 xs[k].p :: .int .i64 xs[k].s :: .int .i64 xs[k].t :: .bool xs[k].v :: elsCells (xs.drop (k + 1)) := by
    rw [filledE, elsCells_append, List.drop_eq_getElem_cons hk]; rfl
  have e2 : elsCells (filledE m xs (k + 1)) = elsCells (List.replicate k m) ++ .int .i64 m.p :: .int .i64 m.s :: .int .i64 m.t :: .bool m.v :: elsCells (xs.drop (k + 1)) := by
    rw [filledE, elsCells_append, List.replicate_succ', elsCells_append]; simp [elsCells, elCells]
  rw [e1, e2, set4 _ _ _ _ _ _ _ _ _ _ (by rw [elsCells_length]; simp)]
/-- Four cells written, at an element's place. -/
def put4at (w : World) (g k : Nat) (m : Tm.El) : World := (((w.setCell ⟨g, k * 4, none⟩ (.int .i64 m.p)).setCell ⟨g, k * 4 + 1, none⟩ (.int .i64 m.s)).setCell ⟨g, k * 4 + 2, none⟩ (.int .i64 m.t)).setCell ⟨g, k * 4 + 3, none⟩ (.bool m.v)
theorem owns_put4 {w : World} {base g n cap : Nat} {m : Tm.El} {xs : List Tm.El} {k : Nat} (h : w.ownsRow base 102 4 (.slice (some ⟨g, 0, none⟩) n cap) n (elsCells (filledE m xs k))) (hk : k < xs.length) : (put4at w g k m).ownsRow base 102 4 (.slice (some ⟨g, 0, none⟩) n cap) n (elsCells (filledE m xs (k + 1))) := by
  rw [← filledE_set hk]
  exact owns_setAt (owns_setAt (owns_setAt (owns_setAt h _ _) _ _) _ _) _ _
theorem put4at_size (w : World) (g k : Nat) (m : Tm.El) : (put4at w g k m).heap.size = w.heap.size := by simp [put4at, World.setCell]
theorem put4at_grown {w0 w : World} {g k : Nat} {m : Tm.El} (h : w0.grownBy w (some g)) : w0.grownBy (put4at w g k m) (some g) :=
  ⟨h.os, h.tape, h.output, by rw [put4at_size]; exact h.size, fun q hq hne => by
    have hn : q ≠ g := by simpa using hne
    unfold put4at
    rw [Below.heap_setCell _ _ _ _ hn, Below.heap_setCell _ _ _ _ hn, Below.heap_setCell _ _ _ _ hn, Below.heap_setCell _ _ _ _ hn]
    exact h.block q hq hne⟩
theorem elsCells_more (n : Nat) (m : Tm.El) : elsCells (List.replicate n m) ++ elCells m = elsCells (List.replicate (n + 1) m) := by
  rw [List.replicate_succ', elsCells_append]; simp [elsCells]
theorem Reads.headN {w w0 : World} {size g n cap m cap1 : Nat} {xs ys : List Value} (h0 : Reads w0 (.slice (some ⟨g, 0, none⟩) n cap) size n xs) (h : Reads w (.slice (some ⟨g, 0, none⟩) m cap1) size m (xs ++ ys)) : Reads w (.slice (some ⟨g, 0, none⟩) n cap) size n xs := by
  obtain ⟨l0, _, a, c, e0, hc0, _⟩ := h0
  obtain ⟨_, lt, a', c', e, _, hc⟩ := h
  cases e0
  cases e
  refine ⟨l0, fun g' hg' => lt g' (by simpa [Value.ownBlock] using hg'), _, _, rfl, hc0, fun j u hu => ?_⟩
  exact hc j u (by rw [List.getElem?_append_left (List.getElem?_eq_some_iff.1 hu).1]; exact hu)
theorem Reads.stayN {w0 w1 w2 : World} {size base base' : Nat} {e : TypeId} {v v1 : Value} {n m : Nat} {xs ys : List Value} (h0 : w0.ownsRow base e size v n xs) (h1 : Reads w1 v size n xs) (hv1 : w1.ownsRow base' e size v1 m (xs ++ ys)) (hg : w1.grownBy w2 v1.ownBlock) (h2 : Reads w2 v1 size m (xs ++ ys)) : Reads w2 v size n xs := by
  rcases h0.2 with ⟨rfl, rfl⟩ | ⟨g, cap, cur, rfl, _⟩
  · exact h1.of_blocks hg.size (fun g hg => by simp [Value.ownBlock] at hg)
  · by_cases he : v1.ownBlock = some g
    · rcases hv1.2 with ⟨rfl, rfl⟩ | ⟨g', cap', cur', rfl, _⟩
      · simp [Value.ownBlock] at he
      · simp [Value.ownBlock] at he
        subst he
        exact Reads.headN h1 h2
    · refine h1.of_blocks hg.size (fun g' hg' => hg.block g' (h1.2.1 g' hg') ?_)
      simp [Value.ownBlock] at hg'
      subst hg'
      exact fun h => he h.symm
end Go.Proofs.YtmnjjjhmnhfapaaGreatDoor
