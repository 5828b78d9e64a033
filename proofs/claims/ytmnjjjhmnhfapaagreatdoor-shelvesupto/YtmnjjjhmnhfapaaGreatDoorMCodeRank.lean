import Derived.RegionDies
import Derived.Test.YtmnjjjhmnhfapaaGreatDoorMCodeEnds
namespace Go.Proofs.YtmnjjjhmnhfapaaGreatDoor
open Go.RowKit
def lineAns (r : Option Tm.Ln) (lns : List Tm.Ln) (base bd bm : Nat) (line : Int) (w : World) (e : Ending) (w' : World) : Prop := match r with
 | none => tells e 1 ∧ Below w.heap.size w w'
 | some l => if Tm.twice lns l = true then tells e 2 ∧ Below w.heap.size w w' else if l.els.any Tm.lightEl = true then tells e 4 ∧ Below w.heap.size w w' else
  e = .returned (.tuple #[]) ∧ Sole base bm w w' ∧ ∃ col vp vw, Rep w' col base bd bm line vp vw (lns ++ [l])
theorem lineAns_none {r : Option Tm.Ln} {lns : List Tm.Ln} {base bd bm : Nat} {line : Int} {w : World} {e : Ending} {w' : World} (h : r = none) (he : tells e 1) (hb : Below w.heap.size w w') : lineAns r lns base bd bm line w e w' := by subst h; exact ⟨he, hb⟩
theorem lineAns_twice {r : Option Tm.Ln} {l : Tm.Ln} {lns : List Tm.Ln} {base bd bm : Nat} {line : Int} {w : World} {e : Ending} {w' : World} (h : r = some l) (ht : Tm.twice lns l = true) (he : tells e 2) (hb : Below w.heap.size w w') : lineAns r lns base bd bm line w e w' := by
 subst h; unfold lineAns; simp only; rw [if_pos ht]; exact ⟨he, hb⟩
theorem lineAns_light {r : Option Tm.Ln} {l : Tm.Ln} {lns : List Tm.Ln} {base bd bm : Nat} {line : Int} {w : World} {e : Ending} {w' : World} (h : r = some l) (ht : Tm.twice lns l = false) (hg : l.els.any Tm.lightEl = true) (he : tells e 4) (hb : Below w.heap.size w w') : lineAns r lns base bd bm line w e w' := by
 subst h; unfold lineAns; simp only; rw [if_neg (by rw [ht]; simp), if_pos hg]; exact ⟨he, hb⟩
theorem lineAns_ok {r : Option Tm.Ln} {l : Tm.Ln} {lns : List Tm.Ln} {base bd bm : Nat} {line : Int} {w : World} {e : Ending} {w' : World} (h : r = some l) (ht : Tm.twice lns l = false) (hg : l.els.any Tm.lightEl = false) (he : e = .returned (.tuple #[])) (hb : Sole base bm w w')
  (hr : ∃ col vp vw, Rep w' col base bd bm line vp vw (lns ++ [l])) : lineAns r lns base bd bm line w e w' := by
 subst h; unfold lineAns; simp only; rw [if_neg (by rw [ht]; simp), if_neg (by rw [hg]; simp)]; exact ⟨he, hb, hr⟩
theorem parse_rank_count {n : Int} {ws : List (List UInt8)} (h : ws.length ≠ 2) : Tm.parseWords n ([99] :: ws) = none := by
 rw [Tm.parse_nosign (by simp)]
 have : Tm.fits [99] (ws.map Tm.num) 0 false = false := by
  simp [Tm.fits]
  intro hx; exact absurd hx h
 rw [this]; simp
theorem parse_rank {n : Int} {a b : List UInt8} : Tm.parseWords n ([99] :: [a, b]) = if numOk 1114111 a = true ∧ classOk b = true then some ⟨[99], [Tm.num a, Tm.num b], [], n⟩ else none := by
 rw [Tm.parse_nosign (by simp)]
 have e : (([a, b].all Tm.runeOk && Tm.fits [99] ([a, b].map Tm.num) 0 false) = true) ↔ (numOk 1114111 a = true ∧ classOk b = true) := by
  simp [Tm.fits, Tm.runeOk, numOk, classOk]
  omega
 by_cases h : numOk 1114111 a = true ∧ classOk b = true
 ·rw [if_pos h, if_pos (e.2 h)]; rfl
 ·rw [if_neg h, if_neg (fun x => h (e.1 x))]
theorem two_of {α : Type} {l : List α} (h : l.length = 2) : ∃ a b, l = [a, b] := by
 match l, h with
 | [a, b], _ => exact ⟨a, b, rfl⟩
set_option maxRecDepth 100000 in
set_option maxHeartbeats 2000000 in
theorem readRank_any (vs : Value) (bs : List ByteArray) (col : Nat → Int) (base bd bm : Nat) (line : Int) (vp vw : Value) (lns : List Tm.Ln) (w : World) (hr : Reads w vs 1 bs.length (bs.map Value.string)) (hz : ∀ b ∈ bs, b.size ≤ 8192)
  (hrep : Rep w col base bd bm line vp vw lns) (hn : lns.length ≤ 8192) :
  Calls Tryz.prog 178 #[.pointer (some ⟨bd, 0, none⟩), vs] w fun e w' => lineAns (Tm.parseWords line ([99] :: bs.map fun b => b.data.toList)) lns base bd bm line w e w' := by
 obtain ⟨a, cap, rfl⟩ := hr.shape
 by_cases h2 : bs.length = 2
 case neg =>
  have hd : ((bs.length : Int) != 2) = true := by simp; omega
  have HN := hide (parse_rank_count (n := line) (ws := bs.map fun b => b.data.toList) (by simpa using h2))
  clear h2 hrep hr hz
  go_enter Tryz.func178, Tryz.ntmps178
  go_wp2_with fail
  refine (refuse_yes 1 _).mono ?_
  rintro e w' ⟨rfl, rfl⟩
  go_wp2
  exact ⟨rfl, lineAns_none HN.out rfl (Below.refl _ _)⟩
 obtain ⟨b0, b1, rfl⟩ := two_of h2
 have hs0 := hz b0 (by simp)
 have hs1 := hz b1 (by simp)
 have HP := hide (parse_rank (n := line) (a := b0.data.toList) (b := b1.data.toList))
 obtain ⟨g, off, cap', he, hg, hc⟩ := hr.form (by simp)
 cases he
 have c0 := hc 0 _ rfl
 have c1 := hc 1 _ rfl
 rw [Nat.add_zero] at c0
 clear hc hr hz h2
 have hd : ((2 : Int) != 2) = false := rfl
 cases h0 : numOk 1114111 b0.data.toList
 ·cases h1 : classOk b1.data.toList
  ·have HN : Hid (Tm.parseWords line ([99] :: [b0, b1].map fun b => b.data.toList) = none) := by unfold Hid; rw [List.map_cons, List.map_cons, List.map_nil, HP.out, if_neg (by rw [h0]; simp)]
   clear hrep
   go_enter Tryz.func178, Tryz.ntmps178
   go_wp2_with fail
   refine (refuse_no 1 _).mono ?_
   rintro e w' ⟨rfl, rfl⟩
   go_wp2_with fail
   go_region_dies
   all_goals first | (go_at_call 189; refine (readRune_no b0 _ (by unfold maxLen; omega) h0).mono ?_; rintro e w' ⟨rfl, rfl⟩; exact ⟨rfl, lineAns_none HN.out rfl (Below.refl _ _).drew⟩) | (go_at_call 190; refine (readClass_no b1 _ (by unfold maxLen; omega) h1).mono ?_; rintro e w' ⟨rfl, rfl⟩; exact ⟨rfl, lineAns_none HN.out rfl (Below.refl _ _).drew⟩)
  ·have HN : Hid (Tm.parseWords line ([99] :: [b0, b1].map fun b => b.data.toList) = none) := by unfold Hid; rw [List.map_cons, List.map_cons, List.map_nil, HP.out, if_neg (by rw [h0]; simp)]
   clear hrep
   go_enter Tryz.func178, Tryz.ntmps178
   go_wp2_with fail
   refine (refuse_no 1 _).mono ?_
   rintro e w' ⟨rfl, rfl⟩
   go_wp2_with fail
   go_region_dies
   all_goals first | (go_at_call 189; refine (readRune_no b0 _ (by unfold maxLen; omega) h0).mono ?_; rintro e w' ⟨rfl, rfl⟩; exact ⟨rfl, lineAns_none HN.out rfl (Below.refl _ _).drew⟩) | (go_wp2_with (go_at_call 190; refine (readClass_yes b1 _ (by unfold maxLen; omega) h1).mono ?_; rintro e w' ⟨rfl, rfl⟩))
 ·cases h1 : classOk b1.data.toList
  ·have HN : Hid (Tm.parseWords line ([99] :: [b0, b1].map fun b => b.data.toList) = none) := by unfold Hid; rw [List.map_cons, List.map_cons, List.map_nil, HP.out, if_neg (by rw [h1]; simp)]
   clear hrep
   go_enter Tryz.func178, Tryz.ntmps178
   go_wp2_with fail
   refine (refuse_no 1 _).mono ?_
   rintro e w' ⟨rfl, rfl⟩
   go_wp2_with fail
   go_region_dies
   all_goals first | (go_at_call 190; refine (readClass_no b1 _ (by unfold maxLen; omega) h1).mono ?_; rintro e w' ⟨rfl, rfl⟩; exact ⟨rfl, lineAns_none HN.out rfl (Below.refl _ _).drew⟩) | (go_wp2_with (go_at_call 189; refine (readRune_yes b0 _ (by unfold maxLen; omega) h0).mono ?_; rintro e w' ⟨rfl, rfl⟩))
   all_goals (try (refine wpAny_ready (rs := [6]) (by decide +kernel) (by simp) ?_; refine AllReady.cons rfl (fun K hK => ?_) ?_; go_simp; refine hK _ _ ?_; clear hK K; rotate_left; exact AllReady.nil))
   all_goals (refine wpAny_ready (rs := [7]) (by decide +kernel) (by simp) ?_; refine AllReady.cons rfl (fun K hK => ?_) ?_; go_simp; rotate_left; exact AllReady.nil)
   all_goals (go_at_call 190; refine (readClass_no b1 _ (by unfold maxLen; omega) h1).mono ?_; rintro e w' ⟨rfl, rfl⟩; exact ⟨rfl, lineAns_none HN.out rfl (Below.refl _ _).drew⟩)
  ·have hq0 : 0 ≤ Tm.num b0.data.toList ∧ Tm.num b0.data.toList ≤ 1114111 := by simpa [numOk] using h0
   have hq1 : 1 ≤ Tm.num b1.data.toList ∧ Tm.num b1.data.toList ≤ 254 := by simpa [classOk] using h1
   have HN : Hid (Tm.parseWords line ([99] :: [b0, b1].map fun b => b.data.toList) = some ⟨[99], [Tm.num b0.data.toList, Tm.num b1.data.toList], [], line⟩) := by unfold Hid; rw [List.map_cons, List.map_cons, List.map_nil, HP.out, if_pos ⟨h0, h1⟩]
   have HF : Hid (Tm.Fit ⟨[99], [Tm.num b0.data.toList, Tm.num b1.data.toList], [], line⟩) := Tm.fit_class h0 (by simp [Tm.runeOk]; omega) hq1.1
   have HT : Hid (Tm.twice lns ⟨[99], [Tm.num b0.data.toList, Tm.num b1.data.toList], [], line⟩ = (Tm.classOf lns (Tm.num b0.data.toList) != 0)) := Tm.twice_class hrep.fit rfl
   obtain ⟨f, pv, sv, hmap, hfv, hpd, hsr, hall⟩ := hrep.nd.look hq0.1
   have d0 := hrep.dr.c0
   have dl := hrep.dr.lt
   have HREP := hide hrep
   have HPD := hide hpd
   have HSR := hide hsr
   have HALL := hide hall
   have HMAP := hide hmap
   clear hrep hpd hsr hall hmap
   obtain ⟨pa, pc, rfl⟩ := HPD.out.1.shape
   obtain ⟨sa, sc, rfl⟩ := HSR.out.rd.shape
   go_enter Tryz.func178, Tryz.ntmps178
   go_wp2_with fail
   refine (refuse_no 1 _).mono ?_
   rintro e w' ⟨rfl, rfl⟩
   go_wp2_with fail
   go_quiet (first | (go_at_call 189; refine Calls.quiet_of_same (readRune_yes b0 _ (by unfold maxLen; omega) h0)) | (go_at_call 190; refine Calls.quiet_of_same (readClass_yes b1 _ (by unfold maxLen; omega) h1)))
   generalize Tm.num b0.data.toList = r at *
   generalize Tm.num b1.data.toList = cls at *
   clear h0 h1 HP
   have HMD : Hid (MapIs (w'.drewN nq) bm lns.length f) := HMAP.out.same rfl
   have HBQ : Hid (Below w'.heap.size w' (w'.drewN nq)) := ⟨rfl, rfl, rfl, Nat.le_refl _, fun _ _ => rfl⟩
   have hqs : bd < (w'.drewN nq).heap.size := dl
   have dq : (w'.drewN nq).cell? ⟨bd, 0, none⟩ = some (.map (some bm)) := d0
   have HQS : Hid ((w'.drewN nq).heap.size = w'.heap.size) := rfl
   generalize w'.drewN nq = wq at *
   go_wp2_with (at_lookup; go_must (refine wpList_look rfl _ _ rfl bm lns.length f rfl HMD.out r rfl (wf_rune hq0) _ hfv ?_))
   refine (isMark_any _ _).mono ?_
   rintro e w1 ⟨rfl, hb1⟩
   have hs1 := hb1.size
   have hsz : wq.heap.size < (wq.alloc (.cells #[.int .i64 (Tm.classOf lns r), .slice pa (Tm.parts lns r).length pc, .slice sa (Tm.seqsAt lns r).length sc] 251)).heap.size := by simp
   have n0 : w1.cell? ⟨wq.heap.size, 0, none⟩ = some (.int .i64 (Tm.classOf lns r)) := by rw [hb1.cell (p := ⟨wq.heap.size, 0, none⟩) hsz, cell_new rfl]; rfl
   have n1 : w1.cell? ⟨wq.heap.size, 1, none⟩ = some (.slice pa (Tm.parts lns r).length pc) := by rw [hb1.cell (p := ⟨wq.heap.size, 1, none⟩) hsz, cell_new rfl]; rfl
   have n2 : w1.cell? ⟨wq.heap.size, 2, none⟩ = some (.slice sa (Tm.seqsAt lns r).length sc) := by rw [hb1.cell (p := ⟨wq.heap.size, 2, none⟩) hsz, cell_new rfl]; rfl
   have nf : ∀ o, w1.frozen? ⟨wq.heap.size, o, none⟩ = false := fun o => by rw [hb1.frozen (p := ⟨wq.heap.size, o, none⟩) hsz, frozen_new rfl]
   have HB1 : Hid (Below wq.heap.size wq w1) := ((Below.refl _ _).alloc (Nat.le_refl _) _).trans (hb1.mono (by simp))
   simp only [World.size_alloc] at hs1
   have e0 : w1.cell? ⟨bd, 0, none⟩ = some (.map (some bm)) := by rw [HB1.out.cell (p := ⟨bd, 0, none⟩) hqs]; exact dq
   have hne : ¬ bd = wq.heap.size := by omega
   have hne' : ¬ wq.heap.size = bd := by omega
   clear hb1 hsz
   cases hcls : (Tm.classOf lns r != 0)
   ·have h00 : Tm.classOf lns r = 0 := by simpa using hcls
    have HT2 : Hid (Tm.twice lns ⟨[99], [r, cls], [], line⟩ = false) := by unfold Hid; rw [HT.out, hcls]
    go_wp2_with fail
    refine (refuse_no 2 _).mono ?_
    rintro e w1' ⟨rfl, rfl⟩
    go_wp2_with fail
    have HM1 : Hid (MapIs ((w1'.setCell ⟨wq.heap.size, 0, none⟩ (.int .i64 cls)).drew) bm lns.length f) := HMD.out.same (by
     rw [show ((w1'.setCell ⟨wq.heap.size, 0, none⟩ (.int .i64 cls)).drew).heap[bm]? = (w1'.setCell ⟨wq.heap.size, 0, none⟩ (.int .i64 cls)).heap[bm]? from rfl, Below.heap_setCell _ _ _ _ (by have := HMD.out.lt; simp; omega)]
     exact HB1.out.block bm HMD.out.lt)
    obtain ⟨w3, hrun, hm3, hg3⟩ := HM1.out.put (by unfold maxLen; omega) (wf_rune hq0) (.agg #[.int .i64 cls, .slice pa (Tm.parts lns r).length pc, .slice sa (Tm.seqsAt lns r).length sc])
    have HM3 := hide hm3
    have HG3 := hide hg3
    clear hm3 hg3
    have HBF : Hid (Sole base bm w' w3) := by
     have h1 : Below wq.heap.size wq (w1'.setCell ⟨wq.heap.size, 0, none⟩ (.int .i64 cls)).drew := (HB1.out.setCell (p := ⟨wq.heap.size, 0, none⟩) (Nat.le_refl _) _).drew
     have h2 : Below w'.heap.size w' (w1'.setCell ⟨wq.heap.size, 0, none⟩ (.int .i64 cls)).drew := HBQ.out.trans (by rw [← HQS.out]; exact h1)
     have hbl := HREP.out.dr.lt
     have hbd := HREP.out.dr.from_
     exact (Sole.of (h2.mono (by omega))).grown HG3.out (by have := h2.size; omega) (fun j hj => by cases hj; exact .inr rfl)
    have HRF : Hid (Rep w3 col base bd bm line vp vw (lns ++ [⟨[99], [r, cls], [], line⟩])) := by
     have h1 : Below wq.heap.size wq (w1'.setCell ⟨wq.heap.size, 0, none⟩ (.int .i64 cls)).drew := (HB1.out.setCell (p := ⟨wq.heap.size, 0, none⟩) (Nat.le_refl _) _).drew
     have h2 : Below w'.heap.size w' (w1'.setCell ⟨wq.heap.size, 0, none⟩ (.int .i64 cls)).drew := HBQ.out.trans (by rw [← HQS.out]; exact h1)
     have hk : Keeps w' w3 col col (· ≠ -2) := (Keeps.below h2).trans (Keeps.grown HG3.out HREP.out.nd.hue)
     exact HREP.out.class HALL.out HPD.out HSR.out hq0.1 HM3.out hk h00 HF.out
    go_region
    all_goals go_wp2
    all_goals go_end0
    all_goals exact lineAns_ok HN.out HT2.out rfl rfl HBF.out ⟨_, _, _, HRF.out⟩
   ·have HT2 : Hid (Tm.twice lns ⟨[99], [r, cls], [], line⟩ = true) := by unfold Hid; rw [HT.out, hcls]
    go_wp2_with fail
    refine (refuse_yes 2 _).mono ?_
    rintro e w1' ⟨rfl, rfl⟩
    go_wp2
    exact ⟨rfl, lineAns_twice HN.out HT2.out rfl (HBQ.out.trans (by rw [← HQS.out]; exact HB1.out))⟩
end Go.Proofs.YtmnjjjhmnhfapaaGreatDoor
