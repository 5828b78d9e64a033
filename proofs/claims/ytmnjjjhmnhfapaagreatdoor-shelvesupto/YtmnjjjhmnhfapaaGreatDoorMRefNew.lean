import Derived.Deep.RegionWith
import Derived.Maps.AppendAt
import Derived.Test.YtmnjjjhmnhfapaaGreatDoorMRefTwice
import Derived.Test.YtmnjjjhmnhfapaaGreatDoorMRefParse
namespace Go.Proofs.YtmnjjjhmnhfapaaGreatDoor
open Go.RowKit
theorem stepAll_snoc {lns : List Tm.Ln} {l : List Int} {k : Nat} (hk : k < l.length) : Tm.stepAll lns (l.take (k + 1)) = Tm.stepAll lns (l.take k) ++ Tm.step1 lns l[k] := by
 unfold Tm.stepAll
 rw [List.take_succ_eq_append_getElem hk, List.flatMap_append]
 simp
theorem hasParts_snoc {lns : List Tm.Ln} {l : List Int} {k : Nat} (hk : k < l.length) : Tm.hasParts lns (l.take (k + 1)) = (Tm.hasParts lns (l.take k) || !decide ((Tm.parts lns l[k]).length = 0)) := by
 unfold Tm.hasParts
 rw [List.take_succ_eq_append_getElem hk, List.any_append]
 simp
theorem parts_short {lns : List Tm.Ln} (h : ∀ o ∈ lns, o.runes.length ≤ 3) (r : Int) : (Tm.parts lns r).length ≤ 2 := by
 unfold Tm.parts
 cases hf : lns.find? (Tm.isParts r) with
 | none => simp
 | some o => have := h o (List.mem_of_find?_eq_some hf); simp; omega
theorem stepAll_short {lns : List Tm.Ln} (h : ∀ o ∈ lns, o.runes.length ≤ 3) (l : List Int) : (Tm.stepAll lns l).length ≤ 2 * l.length := by
 unfold Tm.stepAll
 induction l with
 | nil => simp
 | cons a r ih =>
  have h1 : (Tm.step1 lns a).length ≤ 2 := by
   unfold Tm.step1
   split
   ·simp
   ·exact parts_short h a
  simp only [List.flatMap_cons, List.length_append, List.length_cons]
  omega
theorem news_at {w : World} {g off : Nat} {xs : List Value} (h : ∀ j u, xs[j]? = some u → w.cell? ⟨g, off + j, none⟩ = some u) : ∀ j u, xs[j]? = some u → w.cell? ((⟨g, off, none⟩ : Addr).add j) = some u := by
 intro j u hu
 have hadd : (⟨g, off, none⟩ : Addr).add j = ⟨g, off + j, none⟩ := by unfold Addr.add; split <;> simp_all
 rw [hadd]
 exact h j u hu
theorem ints_one {l : List Int} : ∀ u ∈ ints l, u.oneCell' = true := by
 intro u hu
 obtain ⟨x, _, rfl⟩ := List.mem_map.1 hu
 rfl
theorem owns_mono {w : World} {base base' : Nat} {e : TypeId} {size : Nat} {v : Value} {n : Nat} {xs : List Value} (h : w.ownsRow base e size v n xs) (hb : base' ≤ base) : w.ownsRow base' e size v n xs := by
 refine ⟨h.1, ?_⟩
 rcases h.2 with h2 | ⟨g, cap, cur, hv, hg, r⟩
 ·exact .inl h2
 ·exact .inr ⟨g, cap, cur, hv, by omega, r⟩
set_option maxRecDepth 100000 in
set_option maxHeartbeats 2000000 in
theorem steps_any (vl : Value) (st : Int) (sh : Bool) (vs : Value) (l : List Int) (lns : List Tm.Ln) (w : World) (ht : TableRd w vl lns) (hs : Reads w vs 1 l.length (ints l)) (hl : lns.length ≤ 1000000) (hl2 : l.length ≤ 1000000) (hl3 : ∀ o ∈ lns, o.runes.length ≤ 3) (hne : ∀ o ∈ lns, o.runes ≠ []) :
  Calls Tryz.prog 81 #[.agg #[vl, .int .i64 st, .bool sh], vs] w fun e w' => ∃ v, e = .returned (.tuple #[v, .bool (Tm.hasParts lns l)]) ∧ w'.ownsRow w.heap.size 3 1 v (Tm.stepAll lns l).length (ints (Tm.stepAll lns l)) ∧ Below w.heap.size w w' := by
 obtain ⟨a, cap, rfl⟩ := ht.shape
 obtain ⟨i0, hi, hz0, hz1, hz2⟩ := info_parts Tryz.infoInt
 have HT := hide ht
 have HS := hide hs
 have HL3 := hide hl3
 have HNE := hide hne
 obtain ⟨as0, caps, rfl⟩ := hs.shape
 clear ht hs hl3 hne
 go_enter Tryz.func81, Tryz.ntmps81
 go_wp2
 go_loopw [6, 7, 8] (fun o y i wr => ∃ k : Nat, k ≤ l.length ∧ i = .int .i64 k ∧ y = .bool (Tm.hasParts lns (l.take k)) ∧ wr.ownsRow (w.heap.size + 1) 3 1 o (Tm.stepAll lns (l.take k)).length (ints (Tm.stepAll lns (l.take k))) ∧ Below (w.heap.size + 1) (w.alloc (.cells #[.slice a lns.length cap, .int .i64 st, .bool sh] 29)) wr) (fun _ _ i _ => l.length - (intOf i).toNat)
 case atStart => exact ⟨0, Nat.zero_le _, rfl, rfl, World.ownsRow_nil _ _ _ _, Below.refl _ _⟩
 case round =>
  obtain ⟨k, hk, rfl, rfl, hown, hb⟩ := hrel
  have hb0 : Below w.heap.size w wr := ((Below.refl _ _).alloc (Nat.le_refl _) _).trans (hb.mono (by omega))
  have HB := hide hb0
  have HBB := hide hb
  have b0 : wr.cell? ⟨w.heap.size, 0, none⟩ = some (.slice a lns.length cap) := by rw [hb.cell (by simp)]; simp
  have b1 : wr.cell? ⟨w.heap.size, 1, none⟩ = some (.int .i64 st) := by rw [hb.cell (by simp)]; simp
  have b2 : wr.cell? ⟨w.heap.size, 2, none⟩ = some (.bool sh) := by rw [hb.cell (by simp)]; simp
  have hzr : w.heap.size + 1 ≤ wr.heap.size := by have := hb.size; simpa using this
  by_cases hlt : k < l.length
  ·obtain ⟨gs, offs, rfl, hgs, cs⟩ := (HS.out.below hb0 HS.out.2.1).at hlt
   have HS1 := hide (stepAll_snoc (lns := lns) hlt)
   have HP1 := hide (hasParts_snoc (lns := lns) hlt)
   have hsh := stepAll_short HL3.out (l.take k)
   have hsh2 : (l.take k).length ≤ k := List.length_take_le _ _
   have hps := parts_short HL3.out l[k]
   have htw := HT.out.below hb0
   have i1 : (0 : Int) ≤ (k : Int) := by omega
   have i2 : (k : Int) < (l.length : Int) := by omega
   generalize hx : l[k] = x at *
   clear hb hb0 hx
   go_upto_region 6 with fail
   go_cut [9] from 16 to 21 (fun t wx => Reads wr t 1 (Tm.parts lns x).length (ints (Tm.parts lns x)) ∧ Below wr.heap.size wr wx)
   case first =>
    go_region_with (go_at_call 124; refine (Parts_any _ st sh x lns _ (by exact htw.below (Below.refl _ _).drew) HNE.out hl).mono ?_; rintro e w2 ⟨v, rfl, hrd, hbp⟩)
    all_goals (go_wp2_with fail; go_meet; exact ⟨hrd, ((Below.refl _ _).drew).trans hbp⟩)
   case rest =>
    obtain ⟨hrd, hbp⟩ := hcut
    have hownc := owns_below hown hbp
    have hrdc := hrd.below hbp hrd.2.1
    have HBC : Hid (Below (w.heap.size + 1) (w.alloc (.cells #[.slice a lns.length cap, .int .i64 st, .bool sh] 29)) wc) := HBB.out.trans (hbp.mono hzr)
    have hzc : wr.heap.size ≤ wc.heap.size := hbp.size
    have cs' : wc.cell? ⟨gs, offs + k, none⟩ = some (.int .i64 x) := by rw [hbp.cell (by simpa using hgs)]; exact cs
    obtain ⟨ap, capp, rfl⟩ := hrd.shape
    obtain ⟨ao, capo, rfl⟩ := (Reads.of_owns hownc).shape
    have HST : Hid (Tm.step1 lns x = if (Tm.parts lns x).length = 0 then [x] else Tm.parts lns x) := rfl
    clear hown hbp hrd
    generalize Tm.parts lns x = ps at *
    by_cases hp0 : ps.length = 0
    ·have hpb : ((ps.length : Int) == 0) = true := by rw [beq_iff_eq]; omega
     have HSX := hide (HST.out.trans (if_pos hp0))
     clear hp0
     go_wp2_with (at_builtin; refine wpList_append_own _ rfl _ _ 83 rfl (w.heap.size + 1) 3 i0 (.int .i64 0) 1 8 Tryz.underlying83 hi hz0 hz1 hz2 rfl (by decide) _ _ _ rfl (hownc.alloc _) ⟨wc.heap.size, 0, none⟩ 1 1 [.int .i64 x] rfl rfl news_one (by intro u hu; simp at hu; subst hu; rfl) (by unfold maxLen; omega) (by omega) (by simp; omega) ?_)
     intro v' w3 hown' hgrow _
     have hown2 : w3.ownsRow (w.heap.size + 1) 3 1 v' (Tm.stepAll lns (l.take (k + 1))).length (ints (Tm.stepAll lns (l.take (k + 1)))) := by
      rw [HS1.out, HSX.out]; simpa [ints] using hown'
     have hb3 : Hid (Below (w.heap.size + 1) (w.alloc (.cells #[.slice a lns.length cap, .int .i64 st, .bool sh] 29)) w3) := (HBC.out.alloc (by omega) _).grown hgrow (by simp; omega) (fun k hk => (hownc.lt k hk).1)
     have HH : Hid (Tm.hasParts lns (l.take (k + 1)) = Tm.hasParts lns (l.take k)) := by
      unfold Hid
      rw [HP1.out]
      have : decide (ps.length = 0) = true := by simp at hpb; simp [hpb]
      rw [this]; simp
     clear hown' hgrow hownc hrdc
     go_wp2
     go_roundw
     case rel => exact ⟨k + 1, by omega, by go_num, by rw [HH.out], hown2, hb3.out⟩
     case measure => simp [intOf]; omega
    ·have hpb : ((ps.length : Int) == 0) = false := by rw [beq_eq_false_iff_ne]; omega
     have HSX := hide (HST.out.trans (if_neg hp0))
     obtain ⟨gp, offp, cp, he, hgp, hcp⟩ := hrdc.form (by rw [ints_length]; omega)
     cases he
     have hpp : 0 < ps.length := by omega
     have HH : Hid (Tm.hasParts lns (l.take (k + 1)) = true) := by
      unfold Hid
      rw [HP1.out]
      simp [hp0]
     clear hp0
     go_wp2_with (at_builtin; go_must (refine wpList_append_own _ rfl _ _ 83 rfl (w.heap.size + 1) 3 i0 (.int .i64 0) 1 8 Tryz.underlying83 hi hz0 hz1 hz2 rfl (by decide) _ _ _ rfl hownc ⟨gp, offp, none⟩ ps.length _ (ints ps) rfl (by simp [ints]) (by exact news_at hcp) ints_one (by unfold maxLen; omega) (by omega) (by omega) ?_))
     intro v' w3 hown' hgrow _
     have hown2 : w3.ownsRow (w.heap.size + 1) 3 1 v' (Tm.stepAll lns (l.take (k + 1))).length (ints (Tm.stepAll lns (l.take (k + 1)))) := by
      rw [HS1.out, HSX.out]; simpa [ints] using hown'
     have hb3 : Hid (Below (w.heap.size + 1) (w.alloc (.cells #[.slice a lns.length cap, .int .i64 st, .bool sh] 29)) w3) := HBC.out.grown hgrow (by omega) (fun k hk => (hownc.lt k hk).1)
     clear hown' hgrow hownc hrdc
     go_wp2
     go_roundw
     case rel => exact ⟨k + 1, by omega, by go_num, by rw [HH.out], hown2, hb3.out⟩
     case measure => simp [intOf]; omega
  ·have e1 : l.take k = l := List.take_of_length_le (by omega)
   rw [e1] at hown
   have HE := hide e1
   obtain ⟨ao, capo, rfl⟩ := (Reads.of_owns hown).shape
   have HO := hide hown
   clear e1 hown hb hb0
   go_wp2
   go_ret2
   exact ⟨.slice ao (Tm.stepAll lns l).length capo, by rw [HE.out]; rfl, owns_mono HO.out (by omega), HB.out⟩
theorem together_loop {lns : List Tm.Ln} {o : Tm.Ln} (h : lns.find? (Tm.badLoop lns) = some o) : Tm.together lns = (o.num, 3) := by unfold Tm.together; rw [h]
theorem together_prefix {lns : List Tm.Ln} {o : Tm.Ln} (h0 : lns.find? (Tm.badLoop lns) = none) (h : lns.find? (Tm.badPrefix lns) = some o) : Tm.together lns = (o.num, 5) := by unfold Tm.together; rw [h0, h]
theorem together_weight {lns : List Tm.Ln} {o : Tm.Ln} (h0 : lns.find? (Tm.badLoop lns) = none) (h1 : lns.find? (Tm.badPrefix lns) = none) (h : lns.find? (Tm.badWeight lns) = some o) : Tm.together lns = (o.num, 4) := by unfold Tm.together; rw [h0, h1, h]
theorem together_ok {lns : List Tm.Ln} (h0 : lns.find? (Tm.badLoop lns) = none) (h1 : lns.find? (Tm.badPrefix lns) = none) (h : lns.find? (Tm.badWeight lns) = none) : Tm.together lns = (0, 0) := by unfold Tm.together; rw [h0, h1, h]
theorem deep_succ (lns : List Tm.Ln) (n : Nat) (l : List Int) : Tm.deep lns (n + 1) l = (Tm.hasParts lns l && Tm.deep lns n (Tm.stepAll lns l)) := rfl
theorem Reads.take2 {w : World} {g off n cap : Nat} {l : List Int} (h : Reads w (.slice (some ⟨g, off, none⟩) n cap) 1 l.length (ints l)) : 2 ≤ l.length →
  Reads w (.slice (some ⟨g, off, none⟩) 2 cap) 1 (l.take 2).length (ints (l.take 2)) := by
 intro h2
 obtain ⟨h1, hlt, a, cap', he, hcap, hc⟩ := h
 cases he
 refine ⟨by simp [ints], fun g' hg' => hlt g' (by simpa [Value.ownBlock] using hg'), _, _, by rw [List.length_take, Nat.min_eq_left h2], ⟨by rw [List.length_take]; omega, hcap.2⟩, fun j u hu => ?_⟩
 have hj : (ints l)[j]? = some u := by
  rw [← hu]
  simp only [ints, List.getElem?_map, List.getElem?_take]
  split
  ·rfl
  ·rename_i hge
   simp only [ints, List.getElem?_map, List.getElem?_take, if_neg hge] at hu
   cases hu
 exact hc j u hj
theorem seq_ok {r : Option (List Tm.El)} {w : World} {v : Value} {ok : Bool} (h : if ok then ∃ es, r = some es ∧ Reads w v 4 es.length (elsCells es) else r = none ∧ v = .slice none 0 0) : Value.bool ok = .bool (!r.isNone) := by
 cases ok
 ·simp at h; rw [h.1]; rfl
 ·simp at h; obtain ⟨es, rfl, _⟩ := h; rfl
def togAns (lns : List Tm.Ln) (e : Ending) : Prop := e = .returned (.tuple #[.int .i64 (Tm.together lns).1, .int .i64 (Tm.together lns).2])
set_option maxRecDepth 100000 in
set_option maxHeartbeats 2000000 in
theorem together_any (vl : Value) (st : Int) (sh : Bool) (lns : List Tm.Ln) (w : World) (ht : TableRd w vl lns) (hl : lns.length ≤ 1000000) (hl3 : ∀ o ∈ lns, o.runes.length ≤ 3) (hl4 : ∀ o ∈ lns, o.els.length ≤ 1000000) (hne : ∀ o ∈ lns, o.runes ≠ []) :
  Calls Tryz.prog 39 #[.agg #[vl, .int .i64 st, .bool sh]] w fun e w' => togAns lns e ∧ Below w.heap.size w w' := by
 obtain ⟨a, cap, rfl⟩ := ht.shape
 have HT := hide ht
 have HL3 := hide hl3
 have HL4 := hide hl4
 have HNE := hide hne
 clear ht hl3 hl4 hne
 go_enter Tryz.func39, Tryz.ntmps39
 go_upto_block 0 with fail
 go_cut [4] from 5 to 63 (fun _ wx => Below (w.heap.size + 1) (w.alloc (.cells #[.slice a lns.length cap, .int .i64 st, .bool sh] 29)) wx ∧ lns.find? (Tm.badLoop lns) = none)
 case first =>
  go_wp2_with fail
  go_loopw [4] (fun i wr => ∃ k : Nat, k ≤ lns.length ∧ i = .int .i64 k ∧ Below (w.heap.size + 1) (w.alloc (.cells #[.slice a lns.length cap, .int .i64 st, .bool sh] 29)) wr ∧ ∀ j (_ : j < k) (hj : j < lns.length), Tm.badLoop lns lns[j] = false) (fun i _ => lns.length - (intOf i).toNat)
  case atStart => exact ⟨0, Nat.zero_le _, rfl, Below.refl _ _, fun j hj => by omega⟩
  case round =>
   obtain ⟨k, hk, rfl, hb, hno⟩ := hrel
   have hb0 : Below w.heap.size w wr := ((Below.refl _ _).alloc (Nat.le_refl _) _).trans (hb.mono (by omega))
   have HB := hide hb0
   have HBB := hide hb
   have b0 : wr.cell? ⟨w.heap.size, 0, none⟩ = some (.slice a lns.length cap) := by rw [hb.cell (by simp)]; simp
   have hzr : w.heap.size + 1 ≤ wr.heap.size := by have := hb.size; simpa using this
   by_cases hlt : k < lns.length
   ·obtain ⟨g, off, kb, vr, ve, rfl, hg, c0, c1, c2, c3, hkb, hr, he⟩ := (HT.out.below hb0).at hlt
    have hpk : 0 < lns[k].runes.length := List.length_pos_iff.2 (HNE.out _ (List.getElem_mem hlt))
    obtain ⟨ar, capr, rfl⟩ := hr.shape
    obtain ⟨gr, offr, rfl, hgr, cr⟩ := hr.at hpk
    simp only [Nat.add_zero] at cr
    have hcase : Tm.badLoop lns lns[k] = ((kb.toList == [100]) && Tm.deep lns 5 [lns[k].runes[0]]) := by
     unfold Tm.badLoop
     rw [← hkb, ByteArray.toList_eq]
     congr 1
     ·rw [Bool.eq_iff_iff]; simp
     ·simp [hpk]
    have HX : Hid (Tm.badLoop lns lns[k] = false → ∀ j (_ : j < k + 1) (hj : j < lns.length), Tm.badLoop lns lns[j] = false) := fun hx => find_step hno hlt hx
    have HY : Hid (Tm.badLoop lns lns[k] = true → Tm.together lns = (lns[k].num, 3)) := fun hx => together_loop (find_hit hno hlt hx)
    have HC := hide hcase
    have hgw : g < w.heap.size := by
     obtain ⟨_, _, _, _, _, he', hg', _⟩ := HT.out.at hlt
     cases he'; exact hg'
    have HC3 : Hid (w.cell? ⟨g, off + k * 4 + 3, none⟩ = some (.int .i64 lns[k].num)) := by
     unfold Hid; rw [← hb0.cell (p := ⟨g, off + k * 4 + 3, none⟩) hgw]; exact c3
    have i1 : (0 : Int) < (lns[k].runes.length : Int) := by omega
    generalize lns[k].num = nn at *
    generalize lns[k].runes[0] = r0 at *
    generalize lns[k].runes.length = rl at *
    generalize Tm.badLoop lns lns[k] = bad at *
    clear hno hb hb0 hr he hkb hcase c2 c3
    have g1 : ¬ g = wr.heap.size := by omega
    have g2 : w.heap.size < wr.heap.size := by omega
    go_wp2_with fail
    go_loopw [5, 6, 7] (fun v y t wx => ∃ (m : Nat) (any : Bool) (lx : List Int), m ≤ 5 ∧ t = .int .i64 m ∧ y = .bool any ∧ Reads wx v 1 lx.length (ints lx) ∧ lx.length ≤ 2 ^ m ∧ Below (w.heap.size + 1) (w.alloc (.cells #[.slice (some ⟨g, off, none⟩) lns.length cap, .int .i64 st, .bool sh] 29)) wx ∧
      bad = (any && Tm.deep lns (5 - m) lx) ∧ (m = 5 → any = false)) (fun _ _ t _ => 5 - (intOf t).toNat)
    case atStart =>
     refine ⟨0, (kb.toList == [100]), [r0], by omega, rfl, by rfl, ?_, by simp, HBB.out.alloc (by omega) _, HC.out, by omega⟩
     refine ⟨rfl, fun g' hg' => by simp [Value.ownBlock] at hg'; simp; omega, _, 1, rfl, ⟨Nat.le_refl _, by unfold maxLen; omega⟩, fun j u hu => ?_⟩
     match j, hu with
     | 0, hu => simp [ints] at hu; subst hu; exact ⟨wr.heap.size, 0, rfl, by simp⟩
    case round =>
     obtain ⟨m, any, lx, hm, rfl, rfl, hrd, hlx, hbx, hbad, hm5⟩ := hrel
     have hbw : Below w.heap.size w wr := ((Below.refl _ _).alloc (Nat.le_refl _) _).trans (hbx.mono (by omega))
     have hzx : w.heap.size + 1 ≤ wr.heap.size := by have := hbx.size; simpa using this
     have d0 : wr.cell? ⟨w.heap.size, 0, none⟩ = some (.slice (some ⟨g, off, none⟩) lns.length cap) := by rw [hbx.cell (by simp)]; simp
     have d1 : wr.cell? ⟨w.heap.size, 1, none⟩ = some (.int .i64 st) := by rw [hbx.cell (by simp)]; simp
     have d2 : wr.cell? ⟨w.heap.size, 2, none⟩ = some (.bool sh) := by rw [hbx.cell (by simp)]; simp
     obtain ⟨av, cv, rfl⟩ := hrd.shape
     have HBX := hide hbx
     have HBW := hide hbw
     have HBAD := hide hbad
     have HM5 := hide hm5
     cases any
     ·have HX2 := hide (HX.out (by rw [HBAD.out]; rfl))
      clear hrd hbx hbw hbad hm5
      by_cases hm' : (m : Int) < 5
      all_goals
       go_wp2
       go_roundw
       case rel => exact ⟨k + 1, by omega, by go_num, HBX.out, HX2.out⟩
       case measure => simp [intOf]; omega
     ·have hm4 : m < 5 := by
       rcases Nat.lt_or_ge m 5 with h | h
       ·exact h
       ·have := hm5 (by omega); cases this
      have htw := HT.out.below hbw
      have hlx' : lx.length ≤ 16 := by
       have : 2 ^ m ≤ 2 ^ 4 := Nat.pow_le_pow_right (by omega) (by omega)
       omega
      have hbs : bad = (Tm.hasParts lns lx && Tm.deep lns (4 - m) (Tm.stepAll lns lx)) := by
       rw [hbad, show 5 - m = (4 - m) + 1 from by omega, deep_succ]; rfl
      have HBS := hide hbs
      have hss := stepAll_short HL3.out lx
      have hlen2 : (Tm.stepAll lns lx).length ≤ 2 ^ (m + 1) := by rw [Nat.pow_succ]; omega
      have hd5 : decide ((m : Int) < 5) = true := by simp; omega
      clear hbx hbw hbad hm5 hbs
      go_wp2_with fail
      refine (steps_any _ st sh _ lx lns _ htw hrd hl (by omega) HL3.out HNE.out).mono ?_
      rintro e w2 ⟨v2, rfl, hown2, hb2⟩
      have hrd2 := Reads.of_owns hown2
      obtain ⟨av2, cv2, rfl⟩ := hrd2.shape
      have HB2 : Hid (Below (w.heap.size + 1) (w.alloc (.cells #[.slice (some ⟨g, off, none⟩) lns.length cap, .int .i64 st, .bool sh] 29)) w2) := HBX.out.trans (hb2.mono hzx)
      have e0 : w2.cell? ⟨w.heap.size, 0, none⟩ = some (.slice (some ⟨g, off, none⟩) lns.length cap) := by rw [HB2.out.cell (by simp)]; simp
      have e3 : w2.cell? ⟨g, off + k * 4 + 3, none⟩ = some (.int .i64 nn) := by
       rw [HB2.out.cell (by simp; omega), ← HC3.out]; simp [World.cell?_alloc_past, hgw]
      have HRD := hide hrd2
      generalize Tm.hasParts lns lx = any2 at *
      clear hrd hown2 hb2 hrd2 d0 d1 d2 htw
      by_cases h4 : m = 4
      ·have h4b : ((m : Int) == 4) = true := by rw [beq_iff_eq]; omega
       cases any2
       ·have HR5 : Hid (bad = (false && Tm.deep lns (5 - (m + 1)) (Tm.stepAll lns lx)) ∧ (m + 1 = 5 → false = false)) := ⟨by rw [HBS.out]; rfl, fun _ => rfl⟩
        clear h4
        go_wp2
        go_roundw
        case rel => exact ⟨m + 1, false, Tm.stepAll lns lx, by omega, by go_num, rfl, HRD.out, hlen2, HB2.out, HR5.out.1, fun _ => rfl⟩
        case measure => simp [intOf]; omega
       ·have HY2 := hide (HY.out (by rw [HBS.out, h4]; rfl))
        clear h4
        go_wp2
        go_ret2
        exact ⟨by unfold togAns; rw [HY2.out]; rfl, ((Below.refl _ _).alloc (Nat.le_refl _) _).trans (HB2.out.mono (by omega))⟩
      ·have h4b : ((m : Int) == 4) = false := by rw [beq_eq_false_iff_ne]; omega
       have HR5 : Hid (bad = (any2 && Tm.deep lns (5 - (m + 1)) (Tm.stepAll lns lx)) ∧ (m + 1 = 5 → any2 = false)) := ⟨by rw [HBS.out, show 5 - (m + 1) = 4 - m from by omega], fun h => by omega⟩
       go_wp2
       go_roundw
       case rel => exact ⟨m + 1, any2, Tm.stepAll lns lx, by omega, by go_num, rfl, HRD.out, hlen2, HB2.out, HR5.out.1, HR5.out.2⟩
       case measure => simp [intOf]; omega
   ·have HN := hide (find_none hno (by omega))
    clear hno hb hb0
    go_wp2
    go_meet
    case rel => exact ⟨HBB.out, HN.out⟩
 case rest =>
  obtain ⟨hbc, hnl⟩ := hcut
  have HNL := hide hnl
  clear hnl
  go_upto_block 4 with fail
  go_cut [8] from 9 to 123 (fun _ wx => Below (w.heap.size + 1) (w.alloc (.cells #[.slice a lns.length cap, .int .i64 st, .bool sh] 29)) wx ∧ lns.find? (Tm.badPrefix lns) = none)
  case first =>
   go_wp2_with fail
   go_loopw [8] (fun i wr => ∃ k : Nat, k ≤ lns.length ∧ i = .int .i64 k ∧ Below (w.heap.size + 1) (w.alloc (.cells #[.slice a lns.length cap, .int .i64 st, .bool sh] 29)) wr ∧ ∀ j (_ : j < k) (hj : j < lns.length), Tm.badPrefix lns lns[j] = false) (fun i _ => lns.length - (intOf i).toNat)
   case atStart => exact ⟨0, Nat.zero_le _, rfl, hbc, fun j hj => by omega⟩
   case round =>
    obtain ⟨k, hk, rfl, hb, hno⟩ := hrel
    have hb0 : Below w.heap.size w wr := ((Below.refl _ _).alloc (Nat.le_refl _) _).trans (hb.mono (by omega))
    have HB := hide hb0
    have HBB := hide hb
    have b0 : wr.cell? ⟨w.heap.size, 0, none⟩ = some (.slice a lns.length cap) := by rw [hb.cell (by simp)]; simp
    have b1 : wr.cell? ⟨w.heap.size, 1, none⟩ = some (.int .i64 st) := by rw [hb.cell (by simp)]; simp
    have b2 : wr.cell? ⟨w.heap.size, 2, none⟩ = some (.bool sh) := by rw [hb.cell (by simp)]; simp
    have hzr : w.heap.size + 1 ≤ wr.heap.size := by have := hb.size; simpa using this
    by_cases hlt : k < lns.length
    ·obtain ⟨g, off, kb, vr, ve, rfl, hg, c0, c1, c2, c3, hkb, hr, he⟩ := (HT.out.below hb0).at hlt
     have htw := HT.out.below hb0
     have hpk : 0 < lns[k].runes.length := List.length_pos_iff.2 (HNE.out _ (List.getElem_mem hlt))
     have hp3 := HL3.out _ (List.getElem_mem hlt)
     obtain ⟨ar, capr, rfl⟩ := hr.shape
     obtain ⟨gr, offr, rfl, hgr, cr⟩ := hr.at hpk
     have hfit := hr.fits
     have hcase : Tm.badPrefix lns lns[k] = ((kb.toList == [119]) && (Tm.hasParts lns lns[k].runes || (decide (lns[k].runes.length = 3) && (Tm.seqOf lns (lns[k].runes.take 2)).isNone))) := by
      unfold Tm.badPrefix
      rw [← hkb, ByteArray.toList_eq]
      congr 1
      rw [Bool.eq_iff_iff]; simp
     have HX : Hid (Tm.badPrefix lns lns[k] = false → ∀ j (_ : j < k + 1) (hj : j < lns.length), Tm.badPrefix lns lns[j] = false) := fun hx => find_step hno hlt hx
     have HY : Hid (Tm.badPrefix lns lns[k] = true → Tm.together lns = (lns[k].num, 5)) := fun hx => together_prefix HNL.out (find_hit hno hlt hx)
     rw [hcase] at HX HY
     have HTK := hide (hr.take2)
     generalize lns[k].num = nn at *
     generalize lns[k].runes = rs at *
     clear hno hb hb0 he hkb hcase hbc cr
     cases hk1 : (kb.toList == [119])
     ·have HX2 := hide (HX.out (by rw [hk1]; rfl))
      have hk2 : (kb.toList != [119]) = true := by simp only [bne, hk1]; rfl
      clear htw hr
      go_wp2
      go_roundw
      case rel => exact ⟨k + 1, by omega, by go_num, HBB.out, HX2.out⟩
      case measure => simp [intOf]; omega
     ·have hk2 : (kb.toList != [119]) = false := by simp only [bne, hk1]; rfl
      go_upto_region 16 with fail
      go_cut [10] from 78 to 88 (fun t wx => t = .bool (Tm.hasParts lns rs) ∧ Below wr.heap.size wr wx)
      case first =>
       go_region_with (go_at_call 81; refine (steps_any _ st sh _ rs lns _ (by exact htw.below (Below.refl _ _).drew) (by exact hr.below (Below.refl _ _).drew hr.2.1) hl (by omega) HL3.out HNE.out).mono ?_; rintro e w2 ⟨v2, rfl, _, hb2⟩)
       all_goals (go_wp2_with fail; go_meet; exact ⟨rfl, ((Below.refl _ _).drew).trans hb2⟩)
      case rest =>
       obtain ⟨rfl, hb2⟩ := hcut
       have HB2 : Hid (Below (w.heap.size + 1) (w.alloc (.cells #[.slice (some ⟨g, off, none⟩) lns.length cap, .int .i64 st, .bool sh] 29)) wc) := HBB.out.trans (hb2.mono hzr)
       have e0 : wc.cell? ⟨w.heap.size, 0, none⟩ = some (.slice (some ⟨g, off, none⟩) lns.length cap) := by rw [hb2.cell (by simp; omega)]; exact b0
       have e1 : wc.cell? ⟨w.heap.size, 1, none⟩ = some (.int .i64 st) := by rw [hb2.cell (by simp; omega)]; exact b1
       have e2 : wc.cell? ⟨w.heap.size, 2, none⟩ = some (.bool sh) := by rw [hb2.cell (by simp; omega)]; exact b2
       have f1 : wc.cell? ⟨g, off + k * 4 + 1, none⟩ = some (.slice (some ⟨gr, offr, none⟩) rs.length capr) := by rw [hb2.cell (by simpa using hg)]; exact c1
       have f3 : wc.cell? ⟨g, off + k * 4 + 3, none⟩ = some (.int .i64 nn) := by rw [hb2.cell (by simpa using hg)]; exact c3
       have htc := htw.below hb2
       have HTK2 : Hid (2 ≤ rs.length → Reads wc (.slice (some ⟨gr, offr, none⟩) 2 capr) 1 (rs.take 2).length (ints (rs.take 2))) := fun h => (HTK.out h).below hb2 (HTK.out h).2.1
       have hcap1 := hfit.2.1
       have hcap2 : capr ≤ 9223372036854775807 := by have := hfit.2.2; unfold maxLen at this; omega
       clear hb2 htw hr b0 b1 b2 c0 c1 c2 c3 hfit HTK
       generalize Tm.hasParts lns rs = hp at *
       cases hp
       ·by_cases h3 : rs.length = 3
        ·have h3b : ((rs.length : Int) == 3) = true := by rw [beq_iff_eq]; omega
         have hd3 : decide (rs.length = 3) = true := by simp [h3]
         have h2l : (2 : Int) ≤ (capr : Int) := by omega
         have hrt := HTK2.out (by omega)
         clear h3
         go_upto_region 20 with fail
         go_cut [12] from 104 to 115 (fun t wx => t = .bool (!(Tm.seqOf lns (rs.take 2)).isNone) ∧ Below wc.heap.size wc wx)
         case first =>
          go_region_with (go_at_call 82; refine (Sequence_any _ st sh _ (rs.take 2) lns _ (by exact htc.below (Below.refl _ _).drew) (by exact hrt.below (Below.refl _ _).drew hrt.2.1) hl (by simp; omega) (by exact fun o ho => Nat.le_trans (HL3.out o ho) (by omega))).mono ?_; rintro e w2 ⟨⟨v2, ok, rfl, hok⟩, hb2⟩)
          all_goals (go_wp2_with fail; go_meet; exact ⟨seq_ok hok, ((Below.refl _ _).drew).trans hb2⟩)
         case rest =>
          obtain ⟨rfl, hb3⟩ := hcut
          rename_i wd _
          have HB3 : Hid (Below (w.heap.size + 1) (w.alloc (.cells #[.slice (some ⟨g, off, none⟩) lns.length cap, .int .i64 st, .bool sh] 29)) wc) := HB2.out.trans (hb3.mono (by have := HB2.out.size; simpa using this))
          have e0' : wc.cell? ⟨w.heap.size, 0, none⟩ = some (.slice (some ⟨g, off, none⟩) lns.length cap) := by rw [HB3.out.cell (by simp)]; simp
          have f3' : wc.cell? ⟨g, off + k * 4 + 3, none⟩ = some (.int .i64 nn) := by rw [hb3.cell (World.block_lt_of_cell? _ _ f3)]; exact f3
          clear hb3 e0 e1 e2 f1 f3 htc hrt
          cases hq : (Tm.seqOf lns (rs.take 2)).isNone
          ·have HX2 := hide (HX.out (by rw [hk1, hq]; simp))
           go_wp2
           go_roundw
           case rel => exact ⟨k + 1, by omega, by go_num, HB3.out, HX2.out⟩
           case measure => simp [intOf]; omega
          ·have HY2 := hide (HY.out (by rw [hk1, hq, hd3]; rfl))
           go_wp2
           go_ret2
           exact ⟨by unfold togAns; rw [HY2.out]; rfl, ((Below.refl _ _).alloc (Nat.le_refl _) _).trans (HB3.out.mono (by omega))⟩
        ·have h3b : ((rs.length : Int) == 3) = false := by rw [beq_eq_false_iff_ne]; omega
         have HX2 := hide (HX.out (by rw [hk1]; simp [h3]))
         clear h3
         go_wp2
         go_roundw
         case rel => exact ⟨k + 1, by omega, by go_num, HB2.out, HX2.out⟩
         case measure => simp [intOf]; omega
       ·have HY2 := hide (HY.out (by rw [hk1]; rfl))
        go_wp2
        go_ret2
        exact ⟨by unfold togAns; rw [HY2.out]; rfl, ((Below.refl _ _).alloc (Nat.le_refl _) _).trans (HB2.out.mono (by omega))⟩
    ·have HN := hide (find_none hno (by omega))
     clear hno hb hb0 hbc
     go_wp2
     go_meet
     case rel => exact ⟨HBB.out, HN.out⟩
  case rest =>
   obtain ⟨hbd, hnp⟩ := hcut
   have HNP := hide hnp
   clear hnp hbc
   go_wp2_with fail
   go_loopw [13] (fun i wr => ∃ k : Nat, k ≤ lns.length ∧ i = .int .i64 k ∧ Below (w.heap.size + 1) (w.alloc (.cells #[.slice a lns.length cap, .int .i64 st, .bool sh] 29)) wr ∧ ∀ j (_ : j < k) (hj : j < lns.length), Tm.badWeight lns lns[j] = false) (fun i _ => lns.length - (intOf i).toNat)
   case atStart => exact ⟨0, Nat.zero_le _, rfl, hbd, fun j hj => by omega⟩
   case round =>
    obtain ⟨k, hk, rfl, hb, hno⟩ := hrel
    have hb0 : Below w.heap.size w wr := ((Below.refl _ _).alloc (Nat.le_refl _) _).trans (hb.mono (by omega))
    have HB := hide hb0
    have HBB := hide hb
    have b0 : wr.cell? ⟨w.heap.size, 0, none⟩ = some (.slice a lns.length cap) := by rw [hb.cell (by simp)]; simp
    by_cases hlt : k < lns.length
    ·obtain ⟨g, off, kb, vr, ve, rfl, hg, _, _, c2, c3, _, _, he⟩ := HT.out.at hlt
     obtain ⟨ae, cape, rfl⟩ := he.shape
     have hle := HL4.out _ (List.getElem_mem hlt)
     have HE := hide he
     have HC2 := hide c2
     have HC3 := hide c3
     have HX : Hid (Tm.badWeight lns lns[k] = false → ∀ j (_ : j < k + 1) (hj : j < lns.length), Tm.badWeight lns lns[j] = false) := fun hx => find_step hno hlt hx
     have HY : Hid (Tm.badWeight lns lns[k] = true → Tm.together lns = (lns[k].num, 4)) := fun hx => together_weight HNL.out HNP.out (find_hit hno hlt hx)
     have HBW : Hid (Tm.badWeight lns lns[k] = lns[k].els.any fun x => x.v && Tm.belowP lns x.p) := rfl
     rw [HBW.out] at HX HY
     generalize lns[k].num = nn at *
     generalize lns[k].els = els at *
     clear hno he hb hb0 c2 c3 hbd HBW
     go_wp2_with fail
     go_loopw [14] (fun i wx => ∃ m : Nat, m ≤ els.length ∧ i = .int .i64 m ∧ Below (w.heap.size + 1) (w.alloc (.cells #[.slice (some ⟨g, off, none⟩) lns.length cap, .int .i64 st, .bool sh] 29)) wx ∧ ∀ j (_ : j < m) (hj : j < els.length), (els[j].v && Tm.belowP lns els[j].p) = false) (fun i _ => els.length - (intOf i).toNat)
     case atStart => exact ⟨0, Nat.zero_le _, rfl, HBB.out, fun j hj => by omega⟩
     case round =>
      obtain ⟨m, hm, rfl, hbx, hnx⟩ := hrel
      have hbw : Below w.heap.size w wr := ((Below.refl _ _).alloc (Nat.le_refl _) _).trans (hbx.mono (by omega))
      have d0 : wr.cell? ⟨w.heap.size, 0, none⟩ = some (.slice (some ⟨g, off, none⟩) lns.length cap) := by rw [hbx.cell (by simp)]; simp
      have d1 : wr.cell? ⟨w.heap.size, 1, none⟩ = some (.int .i64 st) := by rw [hbx.cell (by simp)]; simp
      have d2 : wr.cell? ⟨w.heap.size, 2, none⟩ = some (.bool sh) := by rw [hbx.cell (by simp)]; simp
      have l2 : wr.cell? ⟨g, off + k * 4 + 2, none⟩ = some (.slice ae els.length cape) := by rw [hbw.cell (by simpa using hg)]; exact HC2.out
      have hzx : w.heap.size + 1 ≤ wr.heap.size := by have := hbx.size; simpa using this
      have HBX := hide hbx
      have HBW := hide hbw
      by_cases hlm : m < els.length
      ·obtain ⟨ge, offe, rfl, hge, e0, e1, e2, e3⟩ := els_at (HE.out.below hbw HE.out.2.1) hlm
       have HX' : Hid ((els[m].v && Tm.belowP lns els[m].p) = false → ∀ j (_ : j < m + 1) (hj : j < els.length), (els[j].v && Tm.belowP lns els[j].p) = false) := fun hx => find_step (p := fun x : Tm.El => x.v && Tm.belowP lns x.p) hnx hlm hx
       have HY' : Hid ((els[m].v && Tm.belowP lns els[m].p) = true → (els.any fun x => x.v && Tm.belowP lns x.p) = true) := fun hx => any_true (p := fun x : Tm.El => x.v && Tm.belowP lns x.p) hlm hx
       have htw := HT.out.below hbw
       generalize els[m] = x at *
       clear hnx hbx hbw
       have n1 : w.heap.size < wr.heap.size := by omega
       have n2 : g < wr.heap.size := by have := HBW.out.size; omega
       have n3 : ¬ g = wr.heap.size := by omega
       cases hxv : x.v
       ·have HX2 := hide (HX'.out (by rw [hxv]; rfl))
        go_wp2
        go_roundw
        case rel => exact ⟨m + 1, by omega, by go_num, HBX.out.alloc (by omega) _, HX2.out⟩
        case measure => simp [intOf]; omega
       ·go_wp2_with fail
        refine (below_any _ st sh x.p lns _ (htw.below ((Below.refl _ _).alloc (Nat.le_refl _) _)) hl HL4.out).mono ?_
        rintro e w2 ⟨rfl, hb2⟩
        have HB2 : Hid (Below (w.heap.size + 1) (w.alloc (.cells #[.slice (some ⟨g, off, none⟩) lns.length cap, .int .i64 st, .bool sh] 29)) w2) := (HBX.out.alloc (by omega) _).trans (hb2.mono (by simp; omega))
        have f0 : w2.cell? ⟨w.heap.size, 0, none⟩ = some (.slice (some ⟨g, off, none⟩) lns.length cap) := by rw [HB2.out.cell (by simp)]; simp
        have f3 : w2.cell? ⟨g, off + k * 4 + 3, none⟩ = some (.int .i64 nn) := by
         rw [HB2.out.cell (by simp; omega), ← HC3.out]; simp [World.cell?_alloc_past, hg]
        rw [hxv] at HX' HY'
        generalize Tm.belowP lns x.p = bel at *
        clear hb2 htw e0 e1 e2 e3 l2 d0 d1 d2
        cases bel
        ·have HX2 := hide (HX'.out rfl)
         go_wp2
         go_roundw
         case rel => exact ⟨m + 1, by omega, by go_num, HB2.out, HX2.out⟩
         case measure => simp [intOf]; omega
        ·have HY2 := hide (HY.out (HY'.out rfl))
         go_wp2
         go_ret2
         exact ⟨by unfold togAns; rw [HY2.out]; rfl, ((Below.refl _ _).alloc (Nat.le_refl _) _).trans (HB2.out.mono (by omega))⟩
      ·have HX2 := hide (HX.out (any_false (p := fun x : Tm.El => x.v && Tm.belowP lns x.p) hnx (by omega)))
       clear hnx hbx hbw
       go_wp2
       go_roundw
       case rel => exact ⟨k + 1, by omega, by go_num, HBX.out, HX2.out⟩
       case measure => simp [intOf]; omega
    ·have HN := hide (together_ok HNL.out HNP.out (find_none hno (by omega)))
     clear hno hb hb0 hbd
     go_wp2
     go_ret2
     exact ⟨by unfold togAns; rw [HN.out]; rfl, HB.out⟩
def lineCells (x : ByteArray × Value × Value) (n : Int) : List Value := [.string x.1, x.2.1, x.2.2, .int .i64 n]
def tabCells (xs : List (ByteArray × Value × Value)) (lns : List Tm.Ln) : List Value := (xs.zip lns).flatMap fun p => lineCells p.1 p.2.num
theorem tabCells_get {xs : List (ByteArray × Value × Value)} {lns : List Tm.Ln} (hl : xs.length = lns.length) {k f : Nat} (h : k < lns.length) (h' : k < xs.length) (hf : f < 4) :
  (tabCells xs lns)[k * 4 + f]? = (lineCells xs[k] lns[k].num)[f]? := by
 induction xs generalizing lns k with
 | nil => simp at h'
 | cons a r ih =>
  cases lns with
  | nil => simp at h
  | cons b q =>
   cases k with
   | zero =>
    simp only [tabCells, List.zip_cons_cons, List.flatMap_cons]
    rw [List.getElem?_append_left (by simp [lineCells]; omega)]
    simp
   | succ k =>
    simp only [tabCells, List.zip_cons_cons, List.flatMap_cons]
    rw [List.getElem?_append_right (by simp [lineCells]; omega)]
    have := ih (lns := q) (by simpa using hl) (k := k) (by simpa using h) (by simpa using h')
    simp only [tabCells] at this
    simp only [lineCells, List.length_cons, List.length_nil] at *
    rw [show (k + 1) * 4 + f - (0 + 1 + 1 + 1 + 1) = k * 4 + f from by omega, this]
    rfl
theorem tabCells_snoc {xs : List (ByteArray × Value × Value)} {lns : List Tm.Ln} (hl : xs.length = lns.length) (x : ByteArray × Value × Value) (ln : Tm.Ln) :
  tabCells (xs ++ [x]) (lns ++ [ln]) = tabCells xs lns ++ lineCells x ln.num := by
 unfold tabCells
 rw [List.zip_append hl]
 simp
def LineOk (w : World) (base : Nat) (v : Value) (x : ByteArray × Value × Value) (ln : Tm.Ln) : Prop :=
 x.1.data.toList = ln.kind ∧ Reads w x.2.1 1 ln.runes.length (ints ln.runes) ∧ Reads w x.2.2 4 ln.els.length (elsCells ln.els) ∧
 (∀ g, x.2.1.ownBlock = some g → base ≤ g ∧ some g ≠ v.ownBlock) ∧ (∀ g, x.2.2.ownBlock = some g → base ≤ g ∧ some g ≠ v.ownBlock)
def OwnTab (w : World) (base : Nat) (v : Value) (lns : List Tm.Ln) : Prop :=
 ∃ xs : List (ByteArray × Value × Value), xs.length = lns.length ∧ w.ownsRow base 86 4 v lns.length (tabCells xs lns) ∧ ∀ k (h : k < lns.length) (h' : k < xs.length), LineOk w base v xs[k] lns[k]
theorem OwnTab.nil (w : World) (base : Nat) : OwnTab w base (.slice none 0 0) [] :=
 ⟨[], rfl, World.ownsRow_nil _ _ _ _, fun k h => by simp at h⟩
theorem OwnTab.rd {w : World} {base : Nat} {v : Value} {lns : List Tm.Ln} (h : OwnTab w base v lns) : TableRd w v lns := by
 obtain ⟨xs, hl, hown, hok⟩ := h
 have hr := Reads.of_owns hown
 refine ⟨hr.2.1, ?_⟩
 obtain ⟨_, _, a, cap, rfl, hcap, hc⟩ := hr
 refine ⟨a, cap, rfl, hcap, fun k hk => ?_⟩
 have hk' : k < xs.length := by omega
 obtain ⟨h1, h2, h3, _, _⟩ := hok k hk hk'
 have e0 : (tabCells xs lns)[k * 4]? = some (.string xs[k].1) := by have := tabCells_get hl hk hk' (f := 0) (by omega); simpa [lineCells] using this
 have e1 : (tabCells xs lns)[k * 4 + 1]? = some xs[k].2.1 := by have := tabCells_get hl hk hk' (f := 1) (by omega); simpa [lineCells] using this
 have e2 : (tabCells xs lns)[k * 4 + 2]? = some xs[k].2.2 := by have := tabCells_get hl hk hk' (f := 2) (by omega); simpa [lineCells] using this
 have e3 : (tabCells xs lns)[k * 4 + 3]? = some (.int .i64 lns[k].num) := by have := tabCells_get hl hk hk' (f := 3) (by omega); simpa [lineCells] using this
 obtain ⟨g, off, rfl, c0⟩ := hc _ _ e0
 obtain ⟨g1, off1, he1, c1⟩ := hc _ _ e1
 cases he1
 obtain ⟨g2, off2, he2, c2⟩ := hc _ _ e2
 cases he2
 obtain ⟨g3, off3, he3, c3⟩ := hc _ _ e3
 cases he3
 exact ⟨g, off, xs[k].1, xs[k].2.1, xs[k].2.2, rfl, c0, c1, c2, c3, h1, h2, h3⟩
theorem OwnTab.of_blocks {w w' : World} {base : Nat} {v : Value} {lns : List Tm.Ln} (h : OwnTab w base v lns) (hs : w.heap.size ≤ w'.heap.size) (hb : ∀ g, base ≤ g → g < w.heap.size → w'.heap[g]? = w.heap[g]?) : OwnTab w' base v lns := by
 obtain ⟨xs, hl, hown, hok⟩ := h
 refine ⟨xs, hl, ?_, fun k h h' => ?_⟩
 ·refine ⟨hown.1, ?_⟩
  rcases hown.2 with h2 | ⟨g, cap, cur, hv, hg, hh, r⟩
  ·exact .inl h2
  ·exact .inr ⟨g, cap, cur, hv, hg, by rw [hb g hg (Array.getElem?_eq_some_iff.1 hh).1]; exact hh, r⟩
 ·obtain ⟨h1, h2, h3, h4, h5⟩ := hok k h h'
  exact ⟨h1, h2.of_blocks hs (fun g hg => hb g (h4 g hg).1 (h2.2.1 g hg)), h3.of_blocks hs (fun g hg => hb g (h5 g hg).1 (h3.2.1 g hg)), h4, h5⟩
theorem OwnTab.below {w w' : World} {base : Nat} {v : Value} {lns : List Tm.Ln} (h : OwnTab w base v lns) (hb : Below w.heap.size w w') : OwnTab w' base v lns :=
 h.of_blocks hb.size (fun g _ hg => hb.block g hg)
theorem OwnTab.setCell {w : World} {base : Nat} {v : Value} {lns : List Tm.Ln} (h : OwnTab w base v lns) {p : Addr} (hp : p.block < base) (u : Value) : OwnTab (w.setCell p u) base v lns :=
 h.of_blocks (by simp [World.setCell]) (fun g hg _ => Below.heap_setCell _ _ _ _ (by omega))
theorem OwnTab.shape {w : World} {base : Nat} {v : Value} {lns : List Tm.Ln} (h : OwnTab w base v lns) : ∃ a cap, v = .slice a lns.length cap := h.rd.shape
theorem OwnTab.snoc {w w1 : World} {base : Nat} {v v' : Value} {lns : List Tm.Ln} {x : ByteArray × Value × Value} {ln : Tm.Ln} {xs : List (ByteArray × Value × Value)}
  (hl : xs.length = lns.length) (hok : ∀ k (h : k < lns.length) (h' : k < xs.length), LineOk w base v xs[k] lns[k]) (hx : LineOk w base v x ln)
  (hown : w1.ownsRow base 86 4 v' (lns.length + 1) (tabCells xs lns ++ lineCells x ln.num)) (hg : w.grownBy w1 v.ownBlock) (hat : v'.ownBlock = v.ownBlock ∨ v'.ownBlock = some w.heap.size) :
  OwnTab w1 base v' (lns ++ [ln]) := by
 have keep : ∀ {y : ByteArray × Value × Value} {l : Tm.Ln}, LineOk w base v y l → LineOk w1 base v' y l := by
  rintro y l ⟨h1, h2, h3, h4, h5⟩
  refine ⟨h1, h2.kept hg ?_, h3.kept hg ?_, fun g hg' => ⟨(h4 g hg').1, ?_⟩, fun g hg' => ⟨(h5 g hg').1, ?_⟩⟩
  ·cases hv : y.2.1.ownBlock with
   | none => exact .inl rfl
   | some b => exact .inr (h4 b hv).2
  ·cases hv : y.2.2.ownBlock with
   | none => exact .inl rfl
   | some b => exact .inr (h5 b hv).2
  ·rcases hat with e | e
   ·rw [e]; exact (h4 g hg').2
   ·rw [e]; have := h2.2.1 g hg'; simp; omega
  ·rcases hat with e | e
   ·rw [e]; exact (h5 g hg').2
   ·rw [e]; have := h3.2.1 g hg'; simp; omega
 refine ⟨xs ++ [x], by simp [hl], ?_, fun k h h' => ?_⟩
 ·rw [tabCells_snoc hl]; simpa using hown
 ·by_cases e : k < lns.length
  ·have e' : k < xs.length := by omega
   rw [List.getElem_append_left e', List.getElem_append_left e]
   exact keep (hok k e e')
  ·simp at h
   have : k = lns.length := by omega
   subst this
   rw [List.getElem_append_right (by omega), List.getElem_append_right (by omega)]
   simpa using keep hx
theorem news_line {w : World} {kb : ByteArray} {vr ve : Value} {n : Int} {t : TypeId} {H : Nat} (hH : w.heap.size = H) : ∀ j u, (lineCells (kb, vr, ve) n)[j]? = some u → (w.alloc (.cells #[.string kb, vr, ve, .int .i64 n] t)).cell? ((⟨H, 0, none⟩ : Addr).add j) = some u := by
 subst hH
 intro j u hj
 match j, hj with
 | 0, hj => simp [lineCells] at hj; subst hj; simp [Addr.add]
 | 1, hj => simp [lineCells] at hj; subst hj; simp [Addr.add]
 | 2, hj => simp [lineCells] at hj; subst hj; simp [Addr.add]
 | 3, hj => simp [lineCells] at hj; subst hj; simp [Addr.add]
theorem Tryz.infoLine : (Tryz.prog.info? 86).map (fun i => (i.zero, i.size, i.bytes)) = some (some (.agg #[.string ⟨#[]⟩, .slice none 0 0, .slice none 0 0, .int .i64 0]), 4, 72) := by kernel_rfl
structure Newing (w1 : World) (B : Nat) (st : Int) (sh : Bool) (v : Value) (wr : World) : Prop where
 below : Below (B + 2) w1 wr
 keep : ∀ g, g < w1.heap.size → g ≠ B + 2 → wr.heap[g]? = w1.heap[g]?
 c0 : wr.cell? ⟨B + 2, 0, none⟩ = some v
 c1 : wr.cell? ⟨B + 2, 1, none⟩ = some (.int .i64 st)
 c2 : wr.cell? ⟨B + 2, 2, none⟩ = some (.bool sh)
 fr : ∀ o, wr.frozen? ⟨B + 2, o, none⟩ = false
theorem Newing.of_blocks {w1 : World} {B : Nat} {st : Int} {sh : Bool} {v : Value} {wr w2 : World} (h : Newing w1 B st sh v wr) (hb : Below (B + 3) wr w2) (hk : ∀ g, g < w1.heap.size → g ≠ B + 2 → w2.heap[g]? = wr.heap[g]?) : Newing w1 B st sh v w2 := by
 have hL : w2.heap[B + 2]? = wr.heap[B + 2]? := hb.block _ (by omega)
 have hc : ∀ o, w2.cell? ⟨B + 2, o, none⟩ = wr.cell? ⟨B + 2, o, none⟩ := fun o => World.cell?_of_block (w := wr) hL
 have hf : ∀ o, w2.frozen? ⟨B + 2, o, none⟩ = wr.frozen? ⟨B + 2, o, none⟩ := fun o => World.frozen?_of_block (w := wr) hL
 exact ⟨h.below.trans (hb.mono (by omega)), fun g hg hne => (hk g hg hne).trans (h.keep g hg hne), by rw [hc]; exact h.c0, by rw [hc]; exact h.c1, by rw [hc]; exact h.c2, fun o => by rw [hf]; exact h.fr o⟩
theorem Newing.far {w1 : World} {B : Nat} {st : Int} {sh : Bool} {v : Value} {wr w2 : World} (h : Newing w1 B st sh v wr) (hB : B + 3 ≤ w1.heap.size) (hb : Below wr.heap.size wr w2) : Newing w1 B st sh v w2 := by
 have := h.below.size
 exact h.of_blocks (hb.mono (by omega)) (fun g hg _ => hb.block g (by omega))
theorem Newing.grown {w1 : World} {B : Nat} {st : Int} {sh : Bool} {v : Value} {wr w2 : World} {row : Option Nat} (h : Newing w1 B st sh v wr) (hB : B + 3 ≤ w1.heap.size) (hg : wr.grownBy w2 row) (hr : ∀ k, row = some k → w1.heap.size ≤ k) : Newing w1 B st sh v w2 := by
 have := h.below.size
 refine h.of_blocks ((Below.refl _ _).grown hg (by omega) (fun k hk => by have := hr k hk; omega)) (fun g hg' _ => hg.block g (by omega) (fun e => by have := hr g e.symm; omega))
theorem Newing.set {w1 : World} {B : Nat} {st : Int} {sh : Bool} {v v' : Value} {wr : World} (h : Newing w1 B st sh v wr) : Newing w1 B st sh v' (wr.setCell ⟨B + 2, 0, none⟩ v') :=
 ⟨h.below.setCell (by simp) _, fun g hg hne => by rw [Below.heap_setCell _ _ _ _ (by simpa using hne)]; exact h.keep g hg hne, cset_same h.c0, by rw [cset_other (by simp)]; exact h.c1, by rw [cset_other (by simp)]; exact h.c2, fun o => by simp [h.fr]⟩
structure Up (b : Nat) (w w' : World) : Prop where
 size : w.heap.size ≤ w'.heap.size
 block : ∀ g, g ≠ b → g < w.heap.size → w'.heap[g]? = w.heap[g]?
theorem Up.refl (b : Nat) (w : World) : Up b w w := ⟨Nat.le_refl _, fun _ _ _ => rfl⟩
theorem Up.setCell {b : Nat} {w w' : World} (h : Up b w w') {p : Addr} (hp : p.block = b) (u : Value) : Up b w (w'.setCell p u) :=
 ⟨by simpa [World.setCell] using h.size, fun g hg hl => by rw [Below.heap_setCell _ _ _ _ (by omega)]; exact h.block g hg hl⟩
theorem Up.drew {b : Nat} {w w' : World} (h : Up b w w') : Up b w w'.drew := ⟨h.size, h.block⟩
theorem Up.alloc {b : Nat} {w w' : World} (h : Up b w w') (o : Obj) : Up b w (w'.alloc o) :=
 ⟨by have := h.size; simp; omega, fun g hg hl => by rw [Below.heap_alloc _ _ _ (by have := h.size; omega)]; exact h.block g hg hl⟩
theorem OwnTab.only {w w' : World} {base b : Nat} {v : Value} {lns : List Tm.Ln} (h : OwnTab w base v lns) (ho : Up b w w') (hb : b < base) : OwnTab w' base v lns :=
 h.of_blocks ho.size (fun g hg hl => ho.block g (by omega) hl)
theorem OwnTab.lt {w : World} {base : Nat} {v : Value} {lns : List Tm.Ln} (h : OwnTab w base v lns) : ∀ g, v.ownBlock = some g → base ≤ g := by
 obtain ⟨xs, hl, hown, hok⟩ := h
 exact fun g hg => (hown.lt g hg).1
theorem LineOk.below {w w' : World} {base : Nat} {v : Value} {x : ByteArray × Value × Value} {ln : Tm.Ln} (h : LineOk w base v x ln) (hb : Below w.heap.size w w') : LineOk w' base v x ln := by
 obtain ⟨h1, h2, h3, h4, h5⟩ := h
 exact ⟨h1, h2.below hb h2.2.1, h3.below hb h3.2.1, h4, h5⟩
theorem lineCells_one {x : ByteArray × Value × Value} {n : Int} (h1 : x.2.1.oneCell' = true) (h2 : x.2.2.oneCell' = true) : ∀ u ∈ lineCells x n, u.oneCell' = true := by
 intro u hu
 simp [lineCells] at hu
 rcases hu with rfl | rfl | rfl | rfl
 ·rfl
 ·exact h1
 ·exact h2
 ·rfl
theorem cell_new {W : World} {cs : Array Value} {t : TypeId} {b : Nat} (hb : b = W.heap.size) (o : Nat) : (W.alloc (.cells cs t)).cell? ⟨b, o, none⟩ = cs[o]? := by
 subst hb; rw [cell_of_row _ _ o cs t (0, 0) (heap_alloc_new W _)]
theorem cell_old {W : World} {x : Obj} {b : Nat} (hb : b < W.heap.size) (o : Nat) : (W.alloc x).cell? ⟨b, o, none⟩ = W.cell? ⟨b, o, none⟩ :=
 World.cell?_of_block (w := W) (Below.heap_alloc W x b hb)
theorem frozen_new {W : World} {cs : Array Value} {t : TypeId} {b : Nat} (hb : b = W.heap.size) (o : Nat) : (W.alloc (.cells cs t)).frozen? ⟨b, o, none⟩ = false := by
 subst hb; simp
theorem frozen_old {W : World} {x : Obj} {b : Nat} (hb : b < W.heap.size) (o : Nat) : (W.alloc x).frozen? ⟨b, o, none⟩ = W.frozen? ⟨b, o, none⟩ :=
 World.frozen?_of_block (w := W) (Below.heap_alloc W x b hb)
def TableOwn (w : World) (B : Nat) (v : Value) (lns : List Tm.Ln) : Prop :=
 ∀ w', w.heap.size ≤ w'.heap.size → (∀ g, B ≤ g → g < w.heap.size → w'.heap[g]? = w.heap[g]?) → TableRd w' v lns
theorem TableOwn.rd {w : World} {B : Nat} {v : Value} {lns : List Tm.Ln} (h : TableOwn w B v lns) : TableRd w v lns := h w (Nat.le_refl _) (fun _ _ _ => rfl)
theorem OwnTab.own {w : World} {base B : Nat} {v : Value} {lns : List Tm.Ln} (h : OwnTab w base v lns) (hb : B ≤ base) : TableOwn w B v lns :=
 fun _ hs hk => (h.of_blocks hs (fun g hg hl => hk g (by omega) hl)).rd
def newAns (r : List Tm.Ln × Int × Int) (st : Int) (sh : Bool) (B : Nat) (e : Ending) (w' : World) : Prop :=
 ∃ vl, e = .returned (.tuple #[.agg #[vl, .int .i64 st, .bool sh], .int .i64 r.2.1, .int .i64 r.2.2]) ∧ TableOwn w' B vl r.1 ∧ (∀ o ∈ r.1, Tm.Good o) ∧ r.1.length ≤ 8193 ∧ (∀ g, vl.ownBlock = some g → B ≤ g)
set_option maxRecDepth 100000 in
set_option maxHeartbeats 2000000 in
theorem RefNew_any (s : ByteArray) (st : Int) (sh : Bool) (w : World) (hs : s.size ≤ maxLen) :
  Calls Tryz.prog 11 #[.string s, .agg #[.int .i64 st, .bool sh]] w fun e w' => newAns (Tm.newTable s.data.toList st) st sh w.heap.size e w' ∧ Below w.heap.size w w' := by
 obtain ⟨i0, hi, hz0, hz1, hz2⟩ := info_parts Tryz.infoLine
 unfold maxLen at hs
 by_cases hopt : st < 1 ∨ 4 < st
 ·have HN := hide (Tm.newTable_option (t := s.data.toList) hopt)
  have hlow : (st < 1 ∧ decide (st < 1) = true) ∨ (decide (st < 1) = false ∧ decide (4 < st) = true ∧ 4 < st) := by simp; omega
  clear hopt
  have ANS : Hid (∀ w' : World, newAns (Tm.newTable s.data.toList st) st sh w.heap.size (.returned (.tuple #[.agg #[.slice none 0 0, .int .i64 st, .bool sh], .int .i64 0, .int .i64 6])) w') := by
   intro w'
   rw [HN.out]
   exact ⟨_, rfl, (OwnTab.nil w' w.heap.size).own (Nat.le_refl _), by simp, by simp, fun g hg => by simp [Value.ownBlock] at hg⟩
  rcases hlow with ⟨h1, h2⟩ | ⟨h1, h2, h3⟩
  all_goals
   go_enter Tryz.func11, Tryz.ntmps11
   go_wp2
   refine bodyPost_ret (v := .tuple #[.agg #[.slice none 0 0, .int .i64 st, .bool sh], .int .i64 0, .int .i64 6]) (by simp [results, Tryz.results11, go_sem]) rfl ⟨ANS.out _, ?_⟩
   (repeat (first | with_reducible exact Below.refl _ _ | with_reducible refine Below.alloc ?_ (by simp; try omega) _ | with_reducible refine Below.setCell ?_ (by simp) _))
 ·have d1 : decide (st < 1) = false := by simp; omega
  have d2 : decide (4 < st) = false := by simp; omega
  have HOPT := hide hopt
  clear hopt
  by_cases hlong : 8192 < s.size
  ·have HN := hide (Tm.newTable_long (t := s.data.toList) HOPT.out (by rw [len_bytes]; exact hlong))
   have ANS : Hid (∀ w' : World, newAns (Tm.newTable s.data.toList st) st sh w.heap.size (.returned (.tuple #[.agg #[.slice none 0 0, .int .i64 st, .bool sh], .int .i64 0, .int .i64 7])) w') := by
    intro w'
    rw [HN.out]
    exact ⟨_, rfl, (OwnTab.nil w' w.heap.size).own (Nat.le_refl _), by simp, by simp, fun g hg => by simp [Value.ownBlock] at hg⟩
   go_enter Tryz.func11, Tryz.ntmps11
   go_wp2
   refine bodyPost_ret (v := .tuple #[.agg #[.slice none 0 0, .int .i64 st, .bool sh], .int .i64 0, .int .i64 7]) (by simp [results, Tryz.results11, go_sem]) rfl ⟨ANS.out _, ?_⟩
   (repeat (first | with_reducible exact Below.refl _ _ | with_reducible refine Below.alloc ?_ (by simp; try omega) _ | with_reducible refine Below.setCell ?_ (by simp) _))
  ·have HLONG : Hid (¬ 8192 < s.data.toList.length) := by unfold Hid; rw [len_bytes]; exact hlong
   go_enter Tryz.func11, Tryz.ntmps11
   go_wp2_with fail
   refine (words_any s 10 10 rfl _ (by omega)).mono ?_
   rintro e w1 ⟨v, bs, rfl, hown, hsp, hb⟩
   have HSZ := hide (word_sizes hsp (by omega))
   obtain ⟨a, cap, rfl⟩ := (Reads.of_owns hown).shape
   have HR := hide (Reads.of_owns hown)
   have hbl := hown.lt
   have hzw := hb.size
   simp at hzw
   have hlen : bs.length ≤ 8193 := by
    have h := Tm.split_count 10 s.data.toList
    rw [← hsp, List.length_map, len_bytes] at h
    omega
   have hcs := (bcell hb).1
   have hfs := (bcell hb).2
   have hNew : Newing w1 w.heap.size st sh (.slice none 0 0) w1 :=
    ⟨Below.refl _ _, fun _ _ _ => rfl, by rw [hcs _ _ (by simp), cell_new (by simp)]; rfl, by rw [hcs _ _ (by simp), cell_new (by simp)]; rfl, by rw [hcs _ _ (by simp), cell_new (by simp)]; rfl, fun o => by rw [hfs _ _ (by simp), frozen_new (by simp)]⟩
   have r0 : w1.cell? ⟨w.heap.size + 1, 0, none⟩ = some (.slice none 0 0) := by rw [hcs _ _ (by simp), cell_old (by simp), cell_new (by simp)]; rfl
   have r1 : w1.cell? ⟨w.heap.size + 1, 1, none⟩ = some (.int .i64 0) := by rw [hcs _ _ (by simp), cell_old (by simp), cell_new (by simp)]; rfl
   have r2 : w1.cell? ⟨w.heap.size + 1, 2, none⟩ = some (.bool false) := by rw [hcs _ _ (by simp), cell_old (by simp), cell_new (by simp)]; rfl
   have rf : ∀ o, w1.frozen? ⟨w.heap.size + 1, o, none⟩ = false := fun o => by rw [hfs _ _ (by simp), frozen_old (by simp), frozen_new (by simp)]
   have HB : Hid (Below w.heap.size w w1) := ((((Below.refl _ _).alloc (Nat.le_refl _) _).alloc (by simp) _).alloc (by simp; omega) _).trans (hb.mono (by simp; omega))
   have HSP := hide hsp
   have HOWN : Hid (∀ g, (Value.slice a bs.length cap).ownBlock = some g → w.heap.size + 3 ≤ g ∧ g < w1.heap.size) := fun g hg => by have := hbl g hg; simp at this; omega
   clear hown hb hsp hcs hfs hbl
   go_wp2_with fail
   go_loopw [9] (fun t wr => ∃ (k : Nat) (lns : List Tm.Ln) (vl : Value), t = .int .i64 k ∧ k ≤ bs.length ∧ lns.length ≤ k ∧ Newing w1 w.heap.size st sh vl wr ∧ OwnTab wr w1.heap.size vl lns ∧ Tm.ReadAt (bs.map (·.data.toList)) k lns ∧ (∀ o ∈ lns, Tm.Good o))
    (fun t _ => bs.length - (intOf t).toNat)
   case atStart => exact ⟨0, [], _, rfl, Nat.zero_le _, Nat.le_refl _, hNew, OwnTab.nil _ _, Tm.ReadAt_zero _, by simp⟩
   case round =>
    obtain ⟨k, lns, vl, rfl, hk, hlk, hN, hO, hat, hgood⟩ := hrel
    have HAT := hide hat
    have HG := hide hgood
    have HN := hide hN
    obtain ⟨al, capl, rfl⟩ := hO.shape
    have t0 : wr.cell? ⟨w.heap.size + 1 + 1, 0, none⟩ = some (.slice al lns.length capl) := hN.c0
    have t1 : wr.cell? ⟨w.heap.size + 1 + 1, 1, none⟩ = some (.int .i64 st) := hN.c1
    have t2 : wr.cell? ⟨w.heap.size + 1 + 1, 2, none⟩ = some (.bool sh) := hN.c2
    have tf : ∀ o, wr.frozen? ⟨w.heap.size + 1 + 1, o, none⟩ = false := hN.fr
    have hzr := hN.below.size
    have q0 : wr.cell? ⟨w.heap.size + 1, 0, none⟩ = some (.slice none 0 0) := by rw [hN.below.cell (by simp)]; exact r0
    have q1 : wr.cell? ⟨w.heap.size + 1, 1, none⟩ = some (.int .i64 0) := by rw [hN.below.cell (by simp)]; exact r1
    have q2 : wr.cell? ⟨w.heap.size + 1, 2, none⟩ = some (.bool false) := by rw [hN.below.cell (by simp)]; exact r2
    have qf : ∀ o, wr.frozen? ⟨w.heap.size + 1, o, none⟩ = false := fun o => by rw [hN.below.frozen (by simp)]; exact rf o
    clear hat hgood hN
    have HB0 : Hid (Below w.heap.size w wr) := HB.out.trans (HN.out.below.mono (by omega))
    by_cases hlt : k < bs.length
    ·obtain ⟨g, off, he, hg, hck⟩ := strs_at HR.out hlt
     cases he
     have hgo := HOWN.out g rfl
     have hck' : wr.cell? ⟨g, off + k, none⟩ = some (.string bs[k]) := by
      rw [World.cell?_of_block (w := w1) (HN.out.keep g hgo.2 (by omega))]; exact hck
     have hsk := HSZ.out bs[k] (List.getElem_mem hlt)
     have hdrop : (bs.map (·.data.toList)).drop k = bs[k].data.toList :: (bs.map (·.data.toList)).drop (k + 1) := by
      rw [List.drop_eq_getElem_cons (by simpa using hlt)]; simp
     have HD := hide hdrop
     generalize bs[k] = bk at *
     clear hck hdrop
     have hat2 := HAT.out
     unfold Tm.ReadAt at hat2
     rw [HD.out] at hat2
     have HA2 := hide hat2
     clear hat2
     by_cases hskip : bk.data.toList.head? = none ∨ bk.data.toList.head? = some 35
     ·have HS : Hid (Tm.ReadAt (bs.map (·.data.toList)) (k + 1) lns) := by
       unfold Hid Tm.ReadAt
       rw [HA2.out, Tm.readLines_skip hskip]; simp
      have hway : bk.toList.isEmpty = true ∨ (bk.toList.isEmpty = false ∧ ∃ h : 0 < bk.size, ((bk[0].toNat : Int) == 35) = true) := by
       rw [empty_of]
       rcases Nat.eq_zero_or_pos bk.size with h0 | h0
       ·left; simp [h0]
       ·right
        refine ⟨decide_eq_false (by omega), h0, ?_⟩
        rw [head_of bk h0] at hskip
        rcases hskip with h | h
        ·cases h
        ·simp at h; rw [h]; rfl
      clear hskip
      rcases hway with h1 | ⟨h1, hp, h2⟩
      all_goals
       go_wp2
       go_roundw
       case rel => exact ⟨k + 1, lns, _, by go_num, by omega, by omega, HN.out, hO, HS.out, HG.out⟩
       case measure => simp [intOf]; omega
     ·have hway : bk.toList.isEmpty = false ∧ ∃ h : 0 < bk.size, ((bk[0].toNat : Int) == 35) = false := by
       rw [empty_of]
       have h0 : 0 < bk.size := by
        rcases Nat.eq_zero_or_pos bk.size with h0 | h0
        ·exfalso; apply hskip; left
         have : bk.data.toList = [] := List.eq_nil_of_length_eq_zero (by rw [len_bytes]; exact h0)
         rw [this]; rfl
        ·exact h0
       refine ⟨decide_eq_false (by omega), h0, ?_⟩
       cases hq : ((bk[0].toNat : Int) == 35)
       ·rfl
       ·exfalso; apply hskip; right
        rw [head_of bk h0, u8_eq_of (n := 35) hq (by omega)]; rfl
      obtain ⟨h1, hp, h2⟩ := hway
      have HSK := hide hskip
      clear hskip
      go_wp2_with fail
      refine (parse_any bk _ _ hsk).mono ?_
      rintro e w2 ⟨⟨kb, vr, ve, ok, rfl, ⟨ar, nr, capr, rfl⟩, ⟨ae, ne, cape, rfl⟩, hok⟩, hb2⟩
      have ERR : Hid (∀ (code : Int) (_ : Tm.readLines [] 1 (bs.map (·.data.toList)) = (lns, some ((k : Int) + 1, code))) (wa w' : World) (_ : OwnTab wa w1.heap.size (.slice al lns.length capl) lns) (_ : Up (w.heap.size + 1) wa w'),
        newAns (Tm.newTable s.data.toList st) st sh w.heap.size (.returned (.tuple #[.agg #[.slice al lns.length capl, .int .i64 st, .bool sh], .int .i64 ((k : Int) + 1), .int .i64 code])) w') := by
       intro code hr wa w' ho hon
       rw [HSP.out] at hr
       rw [Tm.newTable_wrong HOPT.out HLONG.out hr]
       exact ⟨_, rfl, (ho.only hon (by omega)).own (by omega), HG.out, by simp only; omega, fun g hg => by have := ho.lt g hg; omega⟩
      have gz : w.heap.size + 1 + 1 < w2.heap.size := by have := hb2.size; omega
      have gz1 : w.heap.size + 1 < w2.heap.size := by omega
      have gz2 : w1.heap.size ≤ w2.heap.size := by have := hb2.size; omega
      have fa : ∀ b o, b < wr.heap.size → w2.cell? ⟨b, o, none⟩ = wr.cell? ⟨b, o, none⟩ := (bcell hb2).1
      have ff : ∀ b o, b < wr.heap.size → w2.frozen? ⟨b, o, none⟩ = wr.frozen? ⟨b, o, none⟩ := (bcell hb2).2
      rw [← fa _ _ (by omega)] at t0 t1 t2 q0 q1 q2
      have tf2 : ∀ o, w2.frozen? ⟨w.heap.size + 1 + 1, o, none⟩ = false := fun o => by rw [ff _ _ (by omega)]; exact tf o
      have qf2 : ∀ o, w2.frozen? ⟨w.heap.size + 1, o, none⟩ = false := fun o => by rw [ff _ _ (by omega)]; exact qf o
      have hO2 := hO.below hb2
      have HN2 := hide (HN.out.far (by omega) hb2)
      have HBW := hide (HB0.out.trans (hb2.mono (by have := HB0.out.size; omega)))
      clear fa ff tf qf hck' hsk
      cases ok
      ·have HE : Hid (Tm.readLines [] 1 (bs.map (·.data.toList)) = (lns, some ((k : Int) + 1, 1))) := by
        unfold Hid
        rw [HA2.out, Tm.readLines_bad HSK.out (by simpa using hok)]
       clear hok hb2 hO
       go_wp2
       refine bodyPost_ret (v := .tuple #[.agg #[.slice al lns.length capl, .int .i64 st, .bool sh], .int .i64 ((k : Int) + 1), .int .i64 1]) (by simp [results, Tryz.results11, go_sem, q0, q1, q2, gz1]) rfl ⟨ERR.out 1 HE.out w2 _ hO2 ?_, ?_⟩
       ·(repeat (first | with_reducible exact Up.refl _ _ | with_reducible refine Up.drew ?_ | with_reducible refine Up.alloc ?_ _ | with_reducible refine Up.setCell ?_ (by simp) _))
       ·(repeat (first | with_reducible exact HBW.out | with_reducible refine Below.drew ?_ | with_reducible refine Below.setCell ?_ (by simp) _ | with_reducible refine Below.alloc ?_ (by simp [World.setCell]; omega) _))
      ·simp only [if_true] at hok
       obtain ⟨ln, hpl, hkl, hnl, hrr, hre, hbr, hbe⟩ := hok
       have hgl := Tm.parse_good hpl
       have eN : nr = ln.runes.length := by obtain ⟨_, _, _, _, he, _⟩ := hrr; cases he; rfl
       have eE : ne = ln.els.length := by obtain ⟨_, _, _, _, he, _⟩ := hre; cases he; rfl
       subst eN eE
       have LX : Hid (LineOk w2 w1.heap.size (.slice al lns.length capl) (kb, .slice ar ln.runes.length capr, .slice ae ln.els.length cape) ln) := by
        refine ⟨hkl.symm, hrr, hre, fun g hg => ⟨by have := hbr g hg; omega, fun h => ?_⟩, fun g hg => ⟨by have := hbe g hg; omega, fun h => ?_⟩⟩
        ·have h1 := hbr g hg
         have h2 := hO.rd.1 g h.symm
         omega
        ·have h1 := hbe g hg
         have h2 := hO.rd.1 g h.symm
         omega
       have HPL := hide hpl
       have HNL := hide hnl
       have FACTS : Hid (∀ wx, Below (w2.heap.size + 1) (w2.alloc (.cells #[.string kb, .slice ar ln.runes.length capr, .slice ae ln.els.length cape, .int .i64 ((k : Int) + 1)] 86)) wx →
         (wx.cell? ⟨w.heap.size + 1 + 1, 0, none⟩ = some (.slice al lns.length capl) ∧ wx.cell? ⟨w.heap.size + 1 + 1, 1, none⟩ = some (.int .i64 st) ∧ wx.cell? ⟨w.heap.size + 1 + 1, 2, none⟩ = some (.bool sh) ∧ (∀ o, wx.frozen? ⟨w.heap.size + 1 + 1, o, none⟩ = false)) ∧
         (wx.cell? ⟨w.heap.size + 1, 0, none⟩ = some (.slice none 0 0) ∧ wx.cell? ⟨w.heap.size + 1, 1, none⟩ = some (.int .i64 0) ∧ wx.cell? ⟨w.heap.size + 1, 2, none⟩ = some (.bool false) ∧ (∀ o, wx.frozen? ⟨w.heap.size + 1, o, none⟩ = false)) ∧
         (wx.cell? ⟨w2.heap.size, 0, none⟩ = some (.string kb) ∧ wx.cell? ⟨w2.heap.size, 1, none⟩ = some (.slice ar ln.runes.length capr) ∧ wx.cell? ⟨w2.heap.size, 2, none⟩ = some (.slice ae ln.els.length cape) ∧ wx.cell? ⟨w2.heap.size, 3, none⟩ = some (.int .i64 ((k : Int) + 1))) ∧
         OwnTab wx w1.heap.size (.slice al lns.length capl) lns ∧ LineOk wx w1.heap.size (.slice al lns.length capl) (kb, .slice ar ln.runes.length capr, .slice ae ln.els.length cape) ln ∧ Below w.heap.size w wx ∧ Newing w1 w.heap.size st sh (.slice al lns.length capl) wx ∧ w2.heap.size + 1 ≤ wx.heap.size) := by
        intro wx hx
        have ha : Below w2.heap.size w2 wx := ((Below.refl _ _).alloc (Nat.le_refl _) _).trans (hx.mono (by omega))
        have h1 : ∀ b o, b < w2.heap.size → wx.cell? ⟨b, o, none⟩ = w2.cell? ⟨b, o, none⟩ := (bcell ha).1
        have h2 : ∀ b o, b < w2.heap.size → wx.frozen? ⟨b, o, none⟩ = w2.frozen? ⟨b, o, none⟩ := (bcell ha).2
        refine ⟨⟨by rw [h1 _ _ gz]; exact t0, by rw [h1 _ _ gz]; exact t1, by rw [h1 _ _ gz]; exact t2, fun o => by rw [h2 _ _ gz]; exact tf2 o⟩, ⟨by rw [h1 _ _ gz1]; exact q0, by rw [h1 _ _ gz1]; exact q1, by rw [h1 _ _ gz1]; exact q2, fun o => by rw [h2 _ _ gz1]; exact qf2 o⟩,
         ⟨by rw [hx.cell (by simp), cell_new rfl]; rfl, by rw [hx.cell (by simp), cell_new rfl]; rfl, by rw [hx.cell (by simp), cell_new rfl]; rfl, by rw [hx.cell (by simp), cell_new rfl]; rfl⟩, hO2.below ha, LX.out.below ha, HBW.out.trans (ha.mono (by omega)), HN2.out.far (by omega) ha, by have := hx.size; simpa using this⟩
       clear hpl hnl hb2
       go_wp2_with fail
       refine (twice_any _ st sh kb _ _ _ ln lns _ (hO2.rd.below ((Below.refl _ _).alloc (Nat.le_refl _) _)) (hrr.below ((Below.refl _ _).alloc (Nat.le_refl _) _) hrr.2.1) hkl.symm (by omega) (by have := hgl.few; omega) (fun o ho => by have := (HG.out o ho).few; omega) hgl.some (fun o ho => (HG.out o ho).some) ⟨_, _, _, rfl⟩).mono ?_
       rintro e w3 ⟨rfl, hb3⟩
       simp only [World.size_alloc] at hb3
       have HB3 := hide hb3
       obtain ⟨⟨a0, a1, a2, a3⟩, ⟨p0, p1, p2, p3⟩, ⟨l0, l1, l2, l3⟩, hO3, hL3, hbw3, hN3, hz3⟩ := FACTS.out w3 hb3
       have HBW3 := hide hbw3
       have gy : w.heap.size + 1 + 1 < w3.heap.size := by omega
       have gy1 : w.heap.size + 1 < w3.heap.size := by omega
       have hre3 := hL3.2.2.1
       clear hb3 hbw3 hN3 hL3 t0 t1 t2 tf2 q0 q1 q2 qf2 hO2 hrr hre hO hbr hbe
       cases htw : Tm.twice lns ln
       ·go_wp2_with fail
        refine (light_any _ _ _ _ ln.els _ hre3 (by have := hgl.els; omega)).mono ?_
        rintro e w4 ⟨rfl, hb4⟩
        obtain ⟨⟨a0, a1, a2, a3⟩, ⟨p0, p1, p2, p3⟩, ⟨l0, l1, l2, l3⟩, hO4, hL4, hbw4, hN4, hz4⟩ := FACTS.out w4 (HB3.out.trans (hb4.mono hz3))
        have HBW4 := hide hbw4
        have HN4 := hide hN4
        have gx : w.heap.size + 1 + 1 < w4.heap.size := by omega
        have gx1 : w.heap.size + 1 < w4.heap.size := by omega
        cases hlg : ln.els.any Tm.lightEl
        ·have HS : Hid (Tm.ReadAt (bs.map (·.data.toList)) (k + 1) (lns ++ [ln])) := by
          unfold Hid Tm.ReadAt
          rw [HA2.out, Tm.readLines_ok HSK.out HPL.out htw hlg]; simp
         obtain ⟨xs, hxl, hown4, hok4⟩ := hO4
         have HOK := hide hok4
         have hwa : w4.grownBy (w4.alloc (.cells #[.string kb, .slice ar ln.runes.length capr, .slice ae ln.els.length cape, .int .i64 ((k : Int) + 1)] 86)) none := World.grownBy_alloc _ _ _
         have hlk' : lns.length ≤ 8193 := by omega
         clear hb4 hbw4 hN4 hO3 hre3 hok4
         go_wp2_with (at_builtin; go_must (refine wpList_append_own_at _ rfl _ _ 25 rfl w1.heap.size 86 i0 (.agg #[.string ⟨#[]⟩, .slice none 0 0, .slice none 0 0, .int .i64 0]) 4 72 Tryz.underlying25 hi hz0 hz1 hz2 rfl (by decide) _ _ _ rfl (hown4.alloc _) ⟨w4.heap.size, 0, none⟩ 1 1 (lineCells (kb, .slice ar ln.runes.length capr, .slice ae ln.els.length cape) ((k : Int) + 1)) rfl rfl (news_line rfl) (lineCells_one rfl rfl) (by unfold maxLen; omega) (by omega) (by simp; omega) ?_))
         intro v' w5 hown5 hgrow _ hat5
         have hO5 : OwnTab w5 w1.heap.size v' (lns ++ [ln]) := by
          refine OwnTab.snoc hxl (fun k h h' => (HOK.out k h h').below ((Below.refl _ _).alloc (Nat.le_refl _) _)) (hL4.below ((Below.refl _ _).alloc (Nat.le_refl _) _)) ?_ hgrow (by simpa using hat5)
          rw [HNL.out]; exact hown5
         have hN5 : Newing w1 w.heap.size st sh (.slice al lns.length capl) w5 := (HN4.out.far (by omega) ((Below.refl _ _).alloc (Nat.le_refl _) _)).grown (by omega) hgrow (fun g hg => (hown4.lt g hg).1)
         have HN5 : Hid (Newing w1 w.heap.size st sh v' (w5.setCell ⟨w.heap.size + 1 + 1, 0, none⟩ v')) := hN5.set
         have HO5 : Hid (OwnTab (w5.setCell ⟨w.heap.size + 1 + 1, 0, none⟩ v') w1.heap.size v' (lns ++ [ln])) := hO5.setCell (by simp; omega) _
         have z0 : w5.cell? ⟨w.heap.size + 1 + 1, 0, none⟩ = some (.slice al lns.length capl) := hN5.c0
         have zf : ∀ o, w5.frozen? ⟨w.heap.size + 1 + 1, o, none⟩ = false := hN5.fr
         have HG5 : Hid (∀ o ∈ lns ++ [ln], Tm.Good o) := by
          intro o ho
          rcases List.mem_append.1 ho with h | h
          ·exact HG.out o h
          ·simp at h; subst h; exact hgl
         obtain ⟨al', capl', rfl⟩ := hO5.shape
         clear hown5 hgrow hat5 hO5 hN5 hown4 hL4 hwa
         go_wp2
         go_roundw
         case rel => exact ⟨k + 1, lns ++ [ln], .slice al' (lns.length + 1) capl', by go_num, by omega, by simp; omega, by simpa using HN5.out, by simpa using HO5.out, HS.out, HG5.out⟩
         case measure => simp [intOf]; omega
        ·have HE : Hid (Tm.readLines [] 1 (bs.map (·.data.toList)) = (lns, some ((k : Int) + 1, 4))) := by
          unfold Hid
          rw [HA2.out, Tm.readLines_light HSK.out HPL.out htw hlg]
         clear hb4 hbw4 hN4 hL4 hO3 hre3
         go_wp2
         refine bodyPost_ret (v := .tuple #[.agg #[.slice al lns.length capl, .int .i64 st, .bool sh], .int .i64 ((k : Int) + 1), .int .i64 4]) (by simp [results, Tryz.results11, go_sem, p0, p1, p2]) rfl ⟨ERR.out 4 HE.out w4 _ hO4 ?_, ?_⟩
         ·(repeat (first | with_reducible exact Up.refl _ _ | with_reducible refine Up.drew ?_ | with_reducible refine Up.alloc ?_ _ | with_reducible refine Up.setCell ?_ (by simp) _))
         ·(repeat (first | with_reducible exact HBW4.out | with_reducible refine Below.drew ?_ | with_reducible refine Below.setCell ?_ (by simp) _ | with_reducible refine Below.alloc ?_ (by simp [World.setCell]; omega) _))
       ·have HE : Hid (Tm.readLines [] 1 (bs.map (·.data.toList)) = (lns, some ((k : Int) + 1, 2))) := by
         unfold Hid
         rw [HA2.out, Tm.readLines_twice HSK.out HPL.out htw]
        go_wp2
        refine bodyPost_ret (v := .tuple #[.agg #[.slice al lns.length capl, .int .i64 st, .bool sh], .int .i64 ((k : Int) + 1), .int .i64 2]) (by simp [results, Tryz.results11, go_sem, p0, p1, p2]) rfl ⟨ERR.out 2 HE.out w3 _ hO3 ?_, ?_⟩
        ·(repeat (first | with_reducible exact Up.refl _ _ | with_reducible refine Up.drew ?_ | with_reducible refine Up.alloc ?_ _ | with_reducible refine Up.setCell ?_ (by simp) _))
        ·(repeat (first | with_reducible exact HBW3.out | with_reducible refine Below.drew ?_ | with_reducible refine Below.setCell ?_ (by simp) _ | with_reducible refine Below.alloc ?_ (by simp [World.setCell]; omega) _))
    ·have HE : Hid (Tm.newTable s.data.toList st = (lns, (Tm.together lns).1, (Tm.together lns).2)) := by
      refine Tm.newTable_all HOPT.out HLONG.out ?_
      rw [← HSP.out, HAT.out, List.drop_eq_nil_of_le (by simp; omega)]
      rfl
     go_wp2_with fail
     refine (together_any _ st sh lns _ hO.rd (by omega) (fun o ho => (HG.out o ho).few) (fun o ho => by have := (HG.out o ho).els; omega) (fun o ho => (HG.out o ho).some)).mono ?_
     rintro e w2 ⟨rfl, hb2⟩
     have fa : ∀ b o, b < wr.heap.size → w2.cell? ⟨b, o, none⟩ = wr.cell? ⟨b, o, none⟩ := (bcell hb2).1
     have ff : ∀ b o, b < wr.heap.size → w2.frozen? ⟨b, o, none⟩ = wr.frozen? ⟨b, o, none⟩ := (bcell hb2).2
     rw [← fa _ _ (by omega)] at t0 t1 t2 q0 q1 q2
     have tf2 : ∀ o, w2.frozen? ⟨w.heap.size + 1 + 1, o, none⟩ = false := fun o => by rw [ff _ _ (by omega)]; exact tf o
     have qf2 : ∀ o, w2.frozen? ⟨w.heap.size + 1, o, none⟩ = false := fun o => by rw [ff _ _ (by omega)]; exact qf o
     have hO2 := hO.below hb2
     have HBW := hide (HB0.out.trans (hb2.mono (by have := HB0.out.size; omega)))
     clear fa ff tf qf hO hb2
     generalize (Tm.together lns).1 = n1 at *
     generalize (Tm.together lns).2 = n2 at *
     go_wp2
     refine bodyPost_ret (v := .tuple #[.agg #[.slice al lns.length capl, .int .i64 st, .bool sh], .int .i64 n1, .int .i64 n2]) (by simp [results, Tryz.results11, go_sem, q0, q1, q2]) rfl ⟨?_, ?_⟩
     ·rw [HE.out]
      refine ⟨_, rfl, (hO2.only (b := w.heap.size + 1) ?_ (by omega)).own (by omega), HG.out, by simp only; omega, fun g hg => by have := hO2.lt g hg; omega⟩
      (repeat (first | with_reducible exact Up.refl _ _ | with_reducible refine Up.drew ?_ | with_reducible refine Up.alloc ?_ _ | with_reducible refine Up.setCell ?_ (by simp) _))
     ·(repeat (first | with_reducible exact HBW.out | with_reducible refine Below.drew ?_ | with_reducible refine Below.setCell ?_ (by simp) _ | with_reducible refine Below.alloc ?_ (by simp [World.setCell]; omega) _))
end Go.Proofs.YtmnjjjhmnhfapaaGreatDoor
