import Derived.Test.YthaecjhnlpbfnaaDoorMCodeGrow
import Derived.Test.YthaecjhnlpbfnaaDoorMCodeArr
import Derived.Test.YthaecjhnlpbfnaaDoorMRefParse
namespace Go.Proofs.YthaecjhnlpbfnaaDoor
open Go.RowKit

theorem weigh_few {lns : List Tm.Ln} (hf : ∀ o ∈ lns, Tm.Fit o) (q : List Int) : 0 < (Tm.weigh lns q).length ∧ (Tm.weigh lns q).length ≤ 4 := by
  unfold Tm.weigh
  cases h : Tm.seqOf lns q with
  | none => simp [Tm.implicit]
  | some e => exact seqOf_els hf h
theorem elsCells_append (a b : List Tm.El) : elsCells (a ++ b) = elsCells a ++ elsCells b := by simp [elsCells]
theorem elsCells_one (l : List Tm.El) : ∀ u ∈ elsCells l, u.oneCell' = true := by
  intro u hu
  simp only [elsCells, List.mem_flatMap] at hu
  obtain ⟨x, _, hx⟩ := hu
  simp [elCells] at hx
  rcases hx with rfl | rfl | rfl | rfl <;> rfl

/-- What is left of the runes: a slice of a block of its own. -/
def RestIs (w : World) (B : Nat) (ve : Value) (v : Value) (l : List Int) : Prop :=
  ∃ a cap, v = .slice a l.length cap ∧ (l = [] ∨ ∃ gr off, a = some ⟨gr, off, none⟩ ∧ B ≤ gr ∧ gr < w.heap.size ∧ Ints w gr off l ∧ ve.ownBlock ≠ some gr ∧ l.length ≤ cap ∧ cap ≤ maxLen)
structure ElsSt (lns : List Tm.Ln) (B : Nat) (l : List Int) (w0 w : World) (ve v : Value) (ds : List Tm.El) (l' : List Int) : Prop where
  same : Tm.elements lns l = ds ++ Tm.elements lns l'
  own : w.ownsRow B 64 4 ve ds.length (elsCells ds)
  rest : RestIs w B ve v l'
  calm : Tm.Calm (Tm.classOf lns) l'
  rr : ∀ x ∈ l', 0 ≤ x ∧ x ≤ 1114111
  few : ds.length + 4 * l'.length ≤ 4 * l.length
  below : Below B w0 w

set_option maxRecDepth 100000 in
set_option maxHeartbeats 4000000 in
theorem elements_any (lns : List Tm.Ln) (bm : Nat) (v : Value) (l : List Int) (w : World) (hrd : NodesRd w bm lns) (hr : Reads w v 1 l.length (ints l)) (hcalm : Tm.Calm (Tm.classOf lns) l) (hrg : ∀ r ∈ l, 0 ≤ r ∧ r ≤ 1114111) (hl : l.length ≤ 100000) (hn : lns.length ≤ 8192) (hf : ∀ o ∈ lns, Tm.Fit o) :
    Calls Tryd.prog 45 #[.map (some bm), v] w fun e w' => ∃ v', e = .returned v' ∧ w'.ownsRow w.heap.size 64 4 v' (Tm.elements lns l).length (elsCells (Tm.elements lns l)) ∧ Below w.heap.size w w' := by
  obtain ⟨i0, hi, hz0, hz1, hz2⟩ := info_parts Tryd.infoInt
  obtain ⟨i1, ki, kz0, kz1, kz2⟩ := info_parts Tryd.infoEl
  have hmk : ∀ w : World, (Instr.makeSlice 53 (.int .i64 0) (.int .i64 3)).run Tryd.prog w = .ok (.slice (some ⟨w.heap.size, 0, none⟩) 0 3) (w.alloc (.cells #[.int .i64 0, .int .i64 0, .int .i64 0] 3)) := fun _ => by kernel_rfl
  obtain ⟨av, cv, rfl⟩ := hr.shape
  have HN : Hid (NB lns bm w.heap.size w) := ⟨w, hrd, Below.refl _ _, Nat.le_refl _⟩
  have HR := hide hr
  have HCALM := hide hcalm
  have HRG := hide hrg
  have HF := hide hf
  clear hrd hr hcalm hrg hf
  go_enter Tryd.func45, Tryd.ntmps45
  go_wp2_with fail
  refine (Clone_ints _ l _ HR.out (by omega)).mono ?_
  rintro e w1 ⟨v1, rfl, hown1, hb1⟩
  have HST : Hid (ElsSt lns w.heap.size l w w1 (.slice none 0 0) v1 [] l) := by
    refine ⟨rfl, World.ownsRow_nil _ _ _ _, ?_, HCALM.out, HRG.out, by simp, hb1⟩
    obtain ⟨a1, c1, rfl⟩ := (Reads.of_owns hown1).shape
    refine ⟨a1, c1, rfl, ?_⟩
    rcases hown1.2 with ⟨h1, h2⟩ | ⟨g, c, cur, h1, hg, _⟩
    · left; exact List.eq_nil_of_length_eq_zero h2
    · right
      cases h1
      exact ⟨g, 0, rfl, hg, (hown1.lt g rfl).2, owns_ints hown1, by simp [Value.ownBlock], (Reads.of_owns hown1).fits.2⟩
  clear hown1 hb1
  go_wp2_with fail
  go_loopw [5, 6] (fun ve vr wr => ∃ ds l', ElsSt lns w.heap.size l w wr ve vr ds l') (fun _ vr _ => slen vr)
  case atStart => exact ⟨[], l, HST.out⟩
  case round =>
    obtain ⟨ds, l', hst⟩ := hrel
    have HS := hide hst
    obtain ⟨a, cap, rfl, hrest⟩ := hst.rest
    obtain ⟨ae, ce, rfl⟩ := (Reads.of_owns hst.own).shape
    have hfew := hst.few
    have hzr := hst.below.size
    clear hst
    obtain ⟨m, hm⟩ : ∃ m, l'.length = m := ⟨_, rfl⟩
    have HM := hide hm
    rw [hm] at hfew
    rw [hm]
    clear hm
    by_cases h0 : 0 < m
    · have hne : l' ≠ [] := fun h => by have := HM.out; rw [h] at this; simp at this; omega
      obtain ⟨gr, off, rfl, hgr, hgrl, hI, hve, hc1, hc2⟩ := hrest.resolve_left hne
      rw [HM.out] at hc1
      have HI := hide hI
      have HC2 := hide hc2
      have HNE := hide hne
      have HRD : Hid (Reads wr (.slice (some ⟨gr, off, none⟩) m cap) 1 l'.length (ints l')) := by unfold Hid; rw [HM.out]; exact hI.reads hgrl HM.out hc1 hc2
      have HNr := hide (HN.out.below HS.out.below)
      clear hrest hI hc2 hne
      go_wp2_with fail
      refine (longest_any lns bm _ l' _ HNr.out.rd HRD.out (by rw [HM.out]; exact h0) HS.out.rr (by rw [HM.out]; omega) hn HF.out).mono ?_
      rintro e w2 ⟨rfl, hb2⟩
      have HB2 := hide hb2
      have hz2' := hb2.size
      obtain ⟨n, hn'⟩ : ∃ n, Tm.lead lns l' = n := ⟨_, rfl⟩
      have hnp := Tm.lead_pos lns l'
      have hn3 := Tm.lead_three lns l'
      have hnm := Tm.lead_le (lns := lns) HNE.out
      rw [HM.out] at hnm
      rw [hn'] at hnp hn3 hnm
      have HL := hide hn'
      rw [hn']
      clear hb2 hn'
      have j1 : (0 : Int) ≤ (n : Int) := by omega
      have j2 : (n : Int) ≤ (cap : Int) := by omega
      have j3 : (n : Int) ≤ (m : Int) := by omega
      have hlt : (l'.take n).length = n := by rw [List.length_take, HM.out]; omega
      have HSRC : Hid (∀ j u, (ints (l'.take n))[j]? = some u → (w2.alloc (.cells #[.int .i64 0, .int .i64 0, .int .i64 0] 3)).cell? ((⟨gr, off, none⟩ : Addr).add j) = some u) := fun j u hu => by
        rw [addr_add, cell_old (by omega), HB2.out.cell (p := ⟨gr, off + j, none⟩) hgrl]
        simp only [ints, List.getElem?_map, Option.map_eq_some_iff] at hu
        obtain ⟨x, hx, rfl⟩ := hu
        refine (HI.out j x ?_).1
        rw [List.getElem?_take] at hx
        split at hx
        · exact hx
        · cases hx
      have HSP : Hid (∀ j, j < (ints (l'.take n)).length → ((w2.alloc (.cells #[.int .i64 0, .int .i64 0, .int .i64 0] 3)).cell? ⟨w2.heap.size, 0 + 0 * 1 + j, none⟩).isSome = true ∧ (w2.alloc (.cells #[.int .i64 0, .int .i64 0, .int .i64 0] 3)).frozen? ⟨w2.heap.size, 0 + 0 * 1 + j, none⟩ = false) := fun j hj => by
        rw [ints_length, hlt] at hj
        rw [cell_new rfl, frozen_new rfl]
        refine ⟨?_, rfl⟩
        rcases (show j = 0 ∨ j = 1 ∨ j = 2 by omega) with rfl | rfl | rfl <;> rfl
      have HLT := hide hlt
      have HL1 : Hid ((ints (l'.take n)).length = n * 1) := by unfold Hid; rw [ints_length, HLT.out, Nat.mul_one]
      clear hlt
      have HFIRST : Hid (Value.slice (some ⟨w2.heap.size, 0, none⟩) n 3 = .slice (some ⟨w2.heap.size, 0, none⟩) n 3 ∧ Room ((w2.alloc (.cells #[.int .i64 0, .int .i64 0, .int .i64 0] 3)).drew.setCells w2.heap.size 0 (ints (l'.take n))) w2.heap.size (l'.take n) ∧ Below w2.heap.size w2 ((w2.alloc (.cells #[.int .i64 0, .int .i64 0, .int .i64 0] 3)).drew.setCells w2.heap.size 0 (ints (l'.take n))) ∧ w2.heap.size < ((w2.alloc (.cells #[.int .i64 0, .int .i64 0, .int .i64 0] 3)).drew.setCells w2.heap.size 0 (ints (l'.take n))).heap.size) := by
        refine ⟨rfl, ?_, ?_, ?_⟩
        · have h0 : Ints (w2.alloc (.cells #[.int .i64 0, .int .i64 0, .int .i64 0] 3)).drew w2.heap.size 0 [0, 0, 0] := by
            intro j x hx
            have hj := (List.getElem?_eq_some_iff.1 hx).1
            simp at hj
            show (w2.alloc _).cell? _ = _ ∧ (w2.alloc _).frozen? _ = _
            rw [cell_new rfl, frozen_new rfl]
            refine ⟨?_, rfl⟩
            rcases (show j = 0 ∨ j = 1 ∨ j = 2 by omega) with rfl | rfl | rfl <;> (simp at hx; subst hx; rfl)
          have h1 := Ints.put (k := 0) (news := l'.take n) h0 (by rw [HLT.out]; simp; omega)
          refine ⟨[0, 0, 0].drop n, by simp [HLT.out]; omega, ?_⟩
          simpa [HLT.out] using h1
        · exact (Sole.setCells (Sole.of ((Below.refl w2.heap.size w2).alloc (Nat.le_refl _) _)).drew _ _ (by simp [World.drew])).below (Nat.le_refl _) (Nat.le_refl _)
        · rw [(setCells_keep _ _ _ _).1]; simp [World.drew]
      go_upto_region 5 with fail
      go_cut [8] from 11 to 21 (fun t wx => t = .slice (some ⟨w2.heap.size, 0, none⟩) n 3 ∧ Room wx w2.heap.size (l'.take n) ∧ Below w2.heap.size w2 wx ∧ w2.heap.size < wx.heap.size)
      case first =>
        go_region_law (refine step_append_room rfl (.tmp 17) (.tmp 20) 53 rfl 3 i0 1 Tryd.underlying53 hi hz1 w2.heap.size 0 0 3 (by simp [Act.eval]) ⟨gr, off, none⟩ n cap (ints (l'.take n)) (by simp [Act.eval]) HL1.out HSRC.out (fun u hu => ints_one u hu) (by omega) HSP.out ?_)
        all_goals (go_wp2_with fail; go_meet; exact ⟨rfl, HFIRST.out.2⟩)
      case rest =>
        obtain ⟨rfl, hroom, hbc, hzc⟩ := hcut
        have hgs : w.heap.size ≤ w2.heap.size := by omega
        have hkr : wc.heap[gr]? = wr.heap[gr]? := (hbc.block gr (by omega)).trans (HB2.out.block gr hgrl)
        have hzc' := hbc.size
        obtain ⟨off', hA, hI'⟩ : ∃ off', (if cap = n then some (⟨gr, off, none⟩ : Addr) else some ⟨gr, off + n, none⟩) = some ⟨gr, off', none⟩ ∧ Ints wc gr off' (l'.drop n) := by
          by_cases h : cap = n
          · refine ⟨off, by rw [if_pos h], fun j x hx => ?_⟩
            have := (List.getElem?_eq_some_iff.1 hx).1
            rw [List.length_drop, HM.out] at this
            omega
          · refine ⟨off + n, by rw [if_neg h], fun j x hx => ?_⟩
            have := (HI.out.of_block hkr) (n + j) x (by rw [List.getElem?_drop] at hx; exact hx)
            rw [Nat.add_assoc]
            exact this
        have hdl : (l'.drop n).length = m - n := by rw [List.length_drop, HM.out]
        have HNc : Hid (NB lns bm w.heap.size wc) := HNr.out.below ((HB2.out.mono hzr).trans (hbc.mono hgs))
        have HG := hide (grow_any lns bm w.heap.size w2.heap.size gr off' (cap - n) (l'.take n) (l'.drop n) wc HNc.out hgs hgr (by omega)
          ⟨rfl, hroom, hI', Tm.calm_drop HS.out.calm n, (fun y hy => by cases hy), by rw [HLT.out]; omega, by rw [HLT.out]; omega, fun x hx => HS.out.rr x (List.mem_of_mem_take hx), fun x hx => HS.out.rr x (List.mem_of_mem_drop hx), by simp, Two.refl _ _ _, hzc, by omega⟩ (by rw [hdl]; have := HC2.out; omega) (by rw [hdl]; omega) hn HF.out (by omega))
        rw [HLT.out, hdl] at HG
        have HSTEP := hide (Tm.elements_step (lns := lns) HNE.out)
        rw [HL.out] at HSTEP
        have hgl := Tm.grow_length lns (l'.drop n) (l'.take n) []
        have hgle := Tm.grow_left lns (l'.drop n) (l'.take n) []
        have HMEM := hide (Tm.grow_mem lns (l'.drop n) (l'.take n) [])
        have HCA := hide (Tm.grow_calm (lns := lns) (l'.drop n) (l'.take n) [] (Tm.calm_drop HS.out.calm n))
        rw [HLT.out, hdl] at hgl
        rw [HLT.out] at hgle
        have hoe : wc.ownsRow w.heap.size 64 4 (.slice ae ds.length ce) ds.length (elsCells ds) := ownsRow_same HS.out.own (fun g hg => by
          have := (HS.out.own.lt g hg).2
          exact (hbc.block g (by omega)).trans (HB2.out.block g this))
        have HOE := hide hoe
        have HBC : Hid (Below w.heap.size w wc) := HS.out.below.trans ((HB2.out.mono hzr).trans (hbc.mono hgs))
        clear hroom hbc hI' hdl hkr hoe
        go_wp2_with fail
        refine HG.out.mono ?_
        rintro e w6 ⟨rfl, hroom6, hI6, hfew6, htwo6, hlts6, hltr6⟩
        obtain ⟨S, hS⟩ : ∃ S, (Tm.grow lns (l'.take n) [] (l'.drop n)).1 = S := ⟨_, rfl⟩
        obtain ⟨R, hR⟩ : ∃ R, (Tm.grow lns (l'.take n) [] (l'.drop n)).2 = R := ⟨_, rfl⟩
        simp only [hS, hR] at hroom6 hI6 hfew6 hgl hgle HMEM HCA HSTEP ⊢
        have HRM6 := hide hroom6
        have HI6 := hide hI6
        have HTW := hide htwo6
        have hz6 := htwo6.size
        have HN6 := hide (HNc.out.below (htwo6.below hgs hgr (by omega)))
        have HRD6 : Hid (Reads w6 (.slice (some ⟨w2.heap.size, 0, none⟩) S.length 3) 1 S.length (ints S)) := by
          obtain ⟨pad, h1, h2⟩ := hroom6
          exact h2.front.reads hlts6 rfl hfew6 (by unfold maxLen; omega)
        have HOE6 : Hid (w6.ownsRow w.heap.size 64 4 (.slice ae ds.length ce) ds.length (elsCells ds)) := ownsRow_same HOE.out (fun g hg => by
          have h1 := (HS.out.own.lt g hg).2
          exact htwo6.block g (by omega) (by omega) (fun h => hve (by rw [← h]; exact hg)))
        clear hroom6 hI6 htwo6 hS hR
        obtain ⟨sl, hsl⟩ : ∃ sl, S.length = sl := ⟨_, rfl⟩
        obtain ⟨rl, hrl⟩ : ∃ rl, R.length = rl := ⟨_, rfl⟩
        have HSL := hide hsl
        have HRL := hide hrl
        rw [hsl] at HRD6 hfew6 hgle hgl
        rw [hrl] at hgl
        rw [hsl, hrl]
        clear hsl hrl
        go_wp2_with fail
        refine (weigh_any lns bm _ S _ HN6.out.rd (by rw [HSL.out]; exact HRD6.out) (by rw [HSL.out]; omega) (fun x hx => by
          rcases (HMEM.out x).1 hx with h | h
          · exact HS.out.rr x (List.mem_of_mem_take h)
          · exact HS.out.rr x (List.mem_of_mem_drop h)) (by rw [HSL.out]; exact hfew6) hn HF.out).mono ?_
        rintro e w7 ⟨v7, rfl, hr7, hb7⟩
        have hwf := weigh_few HF.out S
        obtain ⟨g7, o7, c7, rfl, hg7, hc7⟩ := hr7.form (by rw [elsCells_length]; omega)
        have hz7 := hb7.size
        have HOE7 := hide (owns_below HOE6.out hb7)
        have HC7 : Hid (∀ j u, (elsCells (Tm.weigh lns S))[j]? = some u → w7.cell? ((⟨g7, o7, none⟩ : Addr).add j) = some u) := fun j u hu => by rw [addr_add]; exact hc7 j u hu
        have HB7 := hide hb7
        obtain ⟨wl, hwl⟩ : ∃ wl, (Tm.weigh lns S).length = wl := ⟨_, rfl⟩
        have HWL := hide hwl
        have HL7 : Hid ((elsCells (Tm.weigh lns S)).length = wl * 4) := by unfold Hid; rw [elsCells_length, hwl]
        rw [hwl] at hwf
        rw [hwl]
        clear hr7 hb7 hc7 hwl
        go_wp2_with (at_builtin; go_must (refine wpList_append_own_at _ rfl _ _ 60 rfl w.heap.size 64 i1 (.agg #[.int .i64 0, .int .i64 0, .int .i64 0, .bool false]) 4 32 Tryd.underlying60 ki kz0 kz1 kz2 rfl (by decide) _ _ _ rfl HOE7.out ⟨g7, o7, none⟩ wl c7 (elsCells (Tm.weigh lns S)) rfl HL7.out HC7.out (elsCells_one _) (by unfold maxLen; omega) (by omega) (by omega) ?_))
        intro v8 w8 hown8 hgr8 _ hat8
        have hz8 := hgr8.size
        simp only [List.length_nil, Nat.add_zero] at hgl
        have hb67 : ∀ g, g < w6.heap.size → (Value.slice ae ds.length ce).ownBlock ≠ some g → w8.heap[g]? = w6.heap[g]? := fun g hg hne => (hgr8.block g (by omega) (fun h => hne h.symm)).trans (HB7.out.block g hg)
        have HST8 : Hid (ElsSt lns w.heap.size l w w8 v8 (.slice (some ⟨gr, off', none⟩) rl (cap - n)) (ds ++ Tm.weigh lns S) R) := by
          refine ⟨by rw [HS.out.same, HSTEP.out, List.append_assoc], ?_, ⟨_, _, by rw [HRL.out], .inr ⟨gr, off', rfl, hgr, by omega, HI6.out.of_block (hb67 gr hltr6 hve), ?_, by rw [HRL.out]; omega, by have := HC2.out; omega⟩⟩, HCA.out, fun x hx => ?_, ?_, ?_⟩
          · rw [elsCells_append, List.length_append, HWL.out]; exact hown8
          · rcases hat8 with h | h
            · rw [h]; exact hve
            · rw [h]; simp; omega
          · rcases (HMEM.out x).2 hx with h | h
            · cases h
            · exact HS.out.rr x (List.mem_of_mem_drop h)
          · rw [List.length_append, HWL.out, HRL.out]; omega
          · exact ((HBC.out.trans (HTW.out.below hgs hgr (by omega))).trans (HB7.out.mono (by omega))).grown hgr8 (by omega) (fun j hj => (HOE7.out.lt j hj).1)
        have HSL8 : Hid (slen (.slice (some ⟨gr, off', none⟩) rl (cap - n)) < m) := by show rl < m; omega
        clear hown8 hgr8 hat8 hb67
        go_wp2
        go_roundw
        case rel => exact ⟨_, R, HST8.out⟩
        case measure => exact HSL8.out
    · have hl0 : l' = [] := List.eq_nil_of_length_eq_zero (by rw [HM.out]; omega)
      have HD : Hid (wr.ownsRow w.heap.size 64 4 (.slice ae ds.length ce) (Tm.elements lns l).length (elsCells (Tm.elements lns l))) := by
        unfold Hid
        rw [HS.out.same, hl0, Tm.elements_nil, List.append_nil]
        exact HS.out.own
      have HBD := hide HS.out.below
      go_wp2
      go_ret
      exact ⟨_, rfl, HD.out, HBD.out⟩
end Go.Proofs.YthaecjhnlpbfnaaDoor
