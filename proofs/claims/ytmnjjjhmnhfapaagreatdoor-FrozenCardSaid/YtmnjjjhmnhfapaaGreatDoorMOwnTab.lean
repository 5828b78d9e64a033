import Derived.Deep.RegionWith
import Derived.Deep.CutBlock
import Derived.Maps.AppendAt
import Derived.Test.YtmnjjjhmnhfapaaGreatDoorMRefTwice
import Derived.Test.YtmnjjjhmnhfapaaGreatDoorMRefParse
namespace Go.Proofs.YtmnjjjhmnhfapaaGreatDoor
open Go.RowKit

theorem stepAll_snoc {lns : List Tm.Ln} {l : List Int} {k : Nat} (hk : k < l.length) : Tm.stepAll lns (l.take (k + 1)) = Tm.stepAll lns (l.take k) ++ Tm.step1 lns l[k] := by
  unfold Tm.stepAll
  rw [List.take_succ_eq_append_getElem hk, List.flatMap_append]
  simp
theorem hasParts_snoc {lns : List Tm.Ln} {l : List Int} {k : Nat} (hk : k < l.length) : Tm.hasParts lns (l.take (k + 1)) = (Tm.hasParts lns (l.take k) || !decide ((Tm.parts lns l[k]).length = 0)) := by
  unfold Tm.hasParts
  rw [List.take_succ_eq_append_getElem hk, List.any_append]
  simp
theorem parts_short {lns : List Tm.Ln} (h : ∀ o ∈ lns, o.runes.length ≤ 3) (r : Int) : (Tm.parts lns r).length ≤ 2 := by
  unfold Tm.parts
  cases hf : lns.find? (Tm.isParts r) with
  | none => simp
  | some o => have := h o (List.mem_of_find?_eq_some hf); simp; omega
theorem stepAll_short {lns : List Tm.Ln} (h : ∀ o ∈ lns, o.runes.length ≤ 3) (l : List Int) : (Tm.stepAll lns l).length ≤ 2 * l.length := by
  unfold Tm.stepAll
  induction l with
  | nil => simp
  | cons a r ih =>
    have h1 : (Tm.step1 lns a).length ≤ 2 := by
      unfold Tm.step1
      split
      · simp
      · exact parts_short h a
    simp only [List.flatMap_cons, List.length_append, List.length_cons]
    omega

theorem news_at {w : World} {g off : Nat} {xs : List Value} (h : ∀ j u, xs[j]? = some u → w.cell? ⟨g, off + j, none⟩ = some u) : ∀ j u, xs[j]? = some u → w.cell? ((⟨g, off, none⟩ : Addr).add j) = some u := by
  intro j u hu
  have hadd : (⟨g, off, none⟩ : Addr).add j = ⟨g, off + j, none⟩ := by unfold Addr.add; split <;> simp_all
  rw [hadd]
  exact h j u hu
theorem ints_one {l : List Int} : ∀ u ∈ ints l, u.oneCell' = true := by
  intro u hu
  obtain ⟨x, _, rfl⟩ := List.mem_map.1 hu
  rfl
theorem owns_mono {w : World} {base base' : Nat} {e : TypeId} {size : Nat} {v : Value} {n : Nat} {xs : List Value} (h : w.ownsRow base e size v n xs) (hb : base' ≤ base) : w.ownsRow base' e size v n xs := by
  refine ⟨h.1, ?_⟩
  rcases h.2 with h2 | ⟨g, cap, cur, hv, hg, r⟩
  · exact .inl h2
  · exact .inr ⟨g, cap, cur, hv, by omega, r⟩

set_option maxRecDepth 100000 in
set_option maxHeartbeats 2000000 in
theorem steps_any (vl : Value) (st : Int) (sh : Bool) (vs : Value) (l : List Int) (lns : List Tm.Ln) (w : World) (ht : TableRd w vl lns) (hs : Reads w vs 1 l.length (ints l)) (hl : lns.length ≤ 1000000) (hl2 : l.length ≤ 1000000) (hl3 : ∀ o ∈ lns, o.runes.length ≤ 3) (hne : ∀ o ∈ lns, o.runes ≠ []) :
    Calls Tryz.prog 81 #[.agg #[vl, .int .i64 st, .bool sh], vs] w fun e w' => ∃ v, e = .returned (.tuple #[v, .bool (Tm.hasParts lns l)]) ∧ w'.ownsRow w.heap.size 3 1 v (Tm.stepAll lns l).length (ints (Tm.stepAll lns l)) ∧ Below w.heap.size w w' := by
  obtain ⟨a, cap, rfl⟩ := ht.shape
  obtain ⟨i0, hi, hz0, hz1, hz2⟩ := info_parts Tryz.infoInt
  have HT := hide ht
  have HS := hide hs
  have HL3 := hide hl3
  have HNE := hide hne
  obtain ⟨as0, caps, rfl⟩ := hs.shape
  clear ht hs hl3 hne
  go_enter Tryz.func81, Tryz.ntmps81
  go_wp2
  go_loopw [6, 7, 8] (fun o y i wr => ∃ k : Nat, k ≤ l.length ∧ i = .int .i64 k ∧ y = .bool (Tm.hasParts lns (l.take k)) ∧ wr.ownsRow (w.heap.size + 1) 3 1 o (Tm.stepAll lns (l.take k)).length (ints (Tm.stepAll lns (l.take k))) ∧ Below (w.heap.size + 1) (w.alloc (.cells #[.slice a lns.length cap, .int .i64 st, .bool sh] 29)) wr) (fun _ _ i _ => l.length - (intOf i).toNat)
  case atStart => exact ⟨0, Nat.zero_le _, rfl, rfl, World.ownsRow_nil _ _ _ _, Below.refl _ _⟩
  case round =>
    obtain ⟨k, hk, rfl, rfl, hown, hb⟩ := hrel
    have hb0 : Below w.heap.size w wr := ((Below.refl _ _).alloc (Nat.le_refl _) _).trans (hb.mono (by omega))
    have HB := hide hb0
    have HBB := hide hb
    have b0 : wr.cell? ⟨w.heap.size, 0, none⟩ = some (.slice a lns.length cap) := by rw [hb.cell (by simp)]; simp
    have b1 : wr.cell? ⟨w.heap.size, 1, none⟩ = some (.int .i64 st) := by rw [hb.cell (by simp)]; simp
    have b2 : wr.cell? ⟨w.heap.size, 2, none⟩ = some (.bool sh) := by rw [hb.cell (by simp)]; simp
    have hzr : w.heap.size + 1 ≤ wr.heap.size := by have := hb.size; simpa using this
    by_cases hlt : k < l.length
    · obtain ⟨gs, offs, rfl, hgs, cs⟩ := (HS.out.below hb0 HS.out.2.1).at hlt
      have HS1 := hide (stepAll_snoc (lns := lns) hlt)
      have HP1 := hide (hasParts_snoc (lns := lns) hlt)
      have hsh := stepAll_short HL3.out (l.take k)
      have hsh2 : (l.take k).length ≤ k := List.length_take_le _ _
      have hps := parts_short HL3.out l[k]
      have htw := HT.out.below hb0
      have i1 : (0 : Int) ≤ (k : Int) := by omega
      have i2 : (k : Int) < (l.length : Int) := by omega
      generalize hx : l[k] = x at *
      clear hb hb0 hx
      go_upto_region 6 with fail
      go_cut [9] from 16 to 21 (fun t wx => Reads wr t 1 (Tm.parts lns x).length (ints (Tm.parts lns x)) ∧ Below wr.heap.size wr wx)
      case first =>
        go_region_with (go_at_call 124; refine (Parts_any _ st sh x lns _ (by exact htw.below (Below.refl _ _).drew) HNE.out hl).mono ?_; rintro e w2 ⟨v, rfl, hrd, hbp⟩)
        all_goals (go_wp2_with fail; go_meet; exact ⟨hrd, ((Below.refl _ _).drew).trans hbp⟩)
      case rest =>
        obtain ⟨hrd, hbp⟩ := hcut
        have hownc := owns_below hown hbp
        have hrdc := hrd.below hbp hrd.2.1
        have HBC : Hid (Below (w.heap.size + 1) (w.alloc (.cells #[.slice a lns.length cap, .int .i64 st, .bool sh] 29)) wc) := HBB.out.trans (hbp.mono hzr)
        have hzc : wr.heap.size ≤ wc.heap.size := hbp.size
        have cs' : wc.cell? ⟨gs, offs + k, none⟩ = some (.int .i64 x) := by rw [hbp.cell (by simpa using hgs)]; exact cs
        obtain ⟨ap, capp, rfl⟩ := hrd.shape
        obtain ⟨ao, capo, rfl⟩ := (Reads.of_owns hownc).shape
        have HST : Hid (Tm.step1 lns x = if (Tm.parts lns x).length = 0 then [x] else Tm.parts lns x) := rfl
        clear hown hbp hrd
        generalize Tm.parts lns x = ps at *
        by_cases hp0 : ps.length = 0
        · have hpb : ((ps.length : Int) == 0) = true := by rw [beq_iff_eq]; omega
          have HSX := hide (HST.out.trans (if_pos hp0))
          clear hp0
          go_wp2_with (at_builtin; refine wpList_append_own _ rfl _ _ 83 rfl (w.heap.size + 1) 3 i0 (.int .i64 0) 1 8 Tryz.underlying83 hi hz0 hz1 hz2 rfl (by decide) _ _ _ rfl (hownc.alloc _) ⟨wc.heap.size, 0, none⟩ 1 1 [.int .i64 x] rfl rfl news_one (by intro u hu; simp at hu; subst hu; rfl) (by unfold maxLen; omega) (by omega) (by simp; omega) ?_)
          intro v' w3 hown' hgrow _
          have hown2 : w3.ownsRow (w.heap.size + 1) 3 1 v' (Tm.stepAll lns (l.take (k + 1))).length (ints (Tm.stepAll lns (l.take (k + 1)))) := by
            rw [HS1.out, HSX.out]; simpa [ints] using hown'
          have hb3 : Hid (Below (w.heap.size + 1) (w.alloc (.cells #[.slice a lns.length cap, .int .i64 st, .bool sh] 29)) w3) := (HBC.out.alloc (by omega) _).grown hgrow (by simp; omega) (fun k hk => (hownc.lt k hk).1)
          have HH : Hid (Tm.hasParts lns (l.take (k + 1)) = Tm.hasParts lns (l.take k)) := by
            unfold Hid
            rw [HP1.out]
            have : decide (ps.length = 0) = true := by simp at hpb; simp [hpb]
            rw [this]; simp
          clear hown' hgrow hownc hrdc
          go_wp2
          go_roundw
          case rel => exact ⟨k + 1, by omega, by go_num, by rw [HH.out], hown2, hb3.out⟩
          case measure => simp [intOf]; omega
        · have hpb : ((ps.length : Int) == 0) = false := by rw [beq_eq_false_iff_ne]; omega
          have HSX := hide (HST.out.trans (if_neg hp0))
          obtain ⟨gp, offp, cp, he, hgp, hcp⟩ := hrdc.form (by rw [ints_length]; omega)
          cases he
          have hpp : 0 < ps.length := by omega
          have HH : Hid (Tm.hasParts lns (l.take (k + 1)) = true) := by
            unfold Hid
            rw [HP1.out]
            simp [hp0]
          clear hp0
          go_wp2_with (at_builtin; go_must (refine wpList_append_own _ rfl _ _ 83 rfl (w.heap.size + 1) 3 i0 (.int .i64 0) 1 8 Tryz.underlying83 hi hz0 hz1 hz2 rfl (by decide) _ _ _ rfl hownc ⟨gp, offp, none⟩ ps.length _ (ints ps) rfl (by simp [ints]) (by exact news_at hcp) ints_one (by unfold maxLen; omega) (by omega) (by omega) ?_))
          intro v' w3 hown' hgrow _
          have hown2 : w3.ownsRow (w.heap.size + 1) 3 1 v' (Tm.stepAll lns (l.take (k + 1))).length (ints (Tm.stepAll lns (l.take (k + 1)))) := by
            rw [HS1.out, HSX.out]; simpa [ints] using hown'
          have hb3 : Hid (Below (w.heap.size + 1) (w.alloc (.cells #[.slice a lns.length cap, .int .i64 st, .bool sh] 29)) w3) := HBC.out.grown hgrow (by omega) (fun k hk => (hownc.lt k hk).1)
          clear hown' hgrow hownc hrdc
          go_wp2
          go_roundw
          case rel => exact ⟨k + 1, by omega, by go_num, by rw [HH.out], hown2, hb3.out⟩
          case measure => simp [intOf]; omega
    · have e1 : l.take k = l := List.take_of_length_le (by omega)
      rw [e1] at hown
      have HE := hide e1
      obtain ⟨ao, capo, rfl⟩ := (Reads.of_owns hown).shape
      have HO := hide hown
      clear e1 hown hb hb0
      go_wp2
      go_ret2
      exact ⟨.slice ao (Tm.stepAll lns l).length capo, by rw [HE.out]; rfl, owns_mono HO.out (by omega), HB.out⟩
end Go.Proofs.YtmnjjjhmnhfapaaGreatDoor
namespace Go.Proofs.YtmnjjjhmnhfapaaGreatDoor
open Go.RowKit

theorem together_loop {lns : List Tm.Ln} {o : Tm.Ln} (h : lns.find? (Tm.badLoop lns) = some o) : Tm.together lns = (o.num, 3) := by unfold Tm.together; rw [h]
theorem together_prefix {lns : List Tm.Ln} {o : Tm.Ln} (h0 : lns.find? (Tm.badLoop lns) = none) (h : lns.find? (Tm.badPrefix lns) = some o) : Tm.together lns = (o.num, 5) := by unfold Tm.together; rw [h0, h]
theorem together_weight {lns : List Tm.Ln} {o : Tm.Ln} (h0 : lns.find? (Tm.badLoop lns) = none) (h1 : lns.find? (Tm.badPrefix lns) = none) (h : lns.find? (Tm.badWeight lns) = some o) : Tm.together lns = (o.num, 4) := by unfold Tm.together; rw [h0, h1, h]
theorem together_ok {lns : List Tm.Ln} (h0 : lns.find? (Tm.badLoop lns) = none) (h1 : lns.find? (Tm.badPrefix lns) = none) (h : lns.find? (Tm.badWeight lns) = none) : Tm.together lns = (0, 0) := by unfold Tm.together; rw [h0, h1, h]

theorem deep_succ (lns : List Tm.Ln) (n : Nat) (l : List Int) : Tm.deep lns (n + 1) l = (Tm.hasParts lns l && Tm.deep lns n (Tm.stepAll lns l)) := rfl

theorem Reads.take2 {w : World} {g off n cap : Nat} {l : List Int} (h : Reads w (.slice (some ⟨g, off, none⟩) n cap) 1 l.length (ints l)) : 2 ≤ l.length →
    Reads w (.slice (some ⟨g, off, none⟩) 2 cap) 1 (l.take 2).length (ints (l.take 2)) := by
  intro h2
  obtain ⟨h1, hlt, a, cap', he, hcap, hc⟩ := h
  cases he
  refine ⟨by simp [ints], fun g' hg' => hlt g' (by simpa [Value.ownBlock] using hg'), _, _, by rw [List.length_take, Nat.min_eq_left h2], ⟨by rw [List.length_take]; omega, hcap.2⟩, fun j u hu => ?_⟩
  have hj : (ints l)[j]? = some u := by
    rw [← hu]
    simp only [ints, List.getElem?_map, List.getElem?_take]
    split
    · rfl
    · rename_i hge
      simp only [ints, List.getElem?_map, List.getElem?_take, if_neg hge] at hu
      cases hu
  exact hc j u hj

theorem seq_ok {r : Option (List Tm.El)} {w : World} {v : Value} {ok : Bool} (h : if ok then ∃ es, r = some es ∧ Reads w v 4 es.length (elsCells es) else r = none ∧ v = .slice none 0 0) : Value.bool ok = .bool (!r.isNone) := by
  cases ok
  · simp at h; rw [h.1]; rfl
  · simp at h; obtain ⟨es, rfl, _⟩ := h; rfl

/-- What together answers. -/
def togAns (lns : List Tm.Ln) (e : Ending) : Prop := e = .returned (.tuple #[.int .i64 (Tm.together lns).1, .int .i64 (Tm.together lns).2])

set_option maxRecDepth 100000 in
set_option maxHeartbeats 2000000 in
theorem together_any (vl : Value) (st : Int) (sh : Bool) (lns : List Tm.Ln) (w : World) (ht : TableRd w vl lns) (hl : lns.length ≤ 1000000) (hl3 : ∀ o ∈ lns, o.runes.length ≤ 3) (hl4 : ∀ o ∈ lns, o.els.length ≤ 1000000) (hne : ∀ o ∈ lns, o.runes ≠ []) :
    Calls Tryz.prog 39 #[.agg #[vl, .int .i64 st, .bool sh]] w fun e w' => togAns lns e ∧ Below w.heap.size w w' := by
  obtain ⟨a, cap, rfl⟩ := ht.shape
  have HT := hide ht
  have HL3 := hide hl3
  have HL4 := hide hl4
  have HNE := hide hne
  clear ht hl3 hl4 hne
  go_enter Tryz.func39, Tryz.ntmps39
  go_upto_block 0 with fail
  go_cut [4] from 5 to 63 (fun _ wx => Below (w.heap.size + 1) (w.alloc (.cells #[.slice a lns.length cap, .int .i64 st, .bool sh] 29)) wx ∧ lns.find? (Tm.badLoop lns) = none)
  case first =>
    go_wp2_with fail
    go_loopw [4] (fun i wr => ∃ k : Nat, k ≤ lns.length ∧ i = .int .i64 k ∧ Below (w.heap.size + 1) (w.alloc (.cells #[.slice a lns.length cap, .int .i64 st, .bool sh] 29)) wr ∧ ∀ j (_ : j < k) (hj : j < lns.length), Tm.badLoop lns lns[j] = false) (fun i _ => lns.length - (intOf i).toNat)
    case atStart => exact ⟨0, Nat.zero_le _, rfl, Below.refl _ _, fun j hj => by omega⟩
    case round =>
      obtain ⟨k, hk, rfl, hb, hno⟩ := hrel
      have hb0 : Below w.heap.size w wr := ((Below.refl _ _).alloc (Nat.le_refl _) _).trans (hb.mono (by omega))
      have HB := hide hb0
      have HBB := hide hb
      have b0 : wr.cell? ⟨w.heap.size, 0, none⟩ = some (.slice a lns.length cap) := by rw [hb.cell (by simp)]; simp
      have hzr : w.heap.size + 1 ≤ wr.heap.size := by have := hb.size; simpa using this
      by_cases hlt : k < lns.length
      · obtain ⟨g, off, kb, vr, ve, rfl, hg, c0, c1, c2, c3, hkb, hr, he⟩ := (HT.out.below hb0).at hlt
        have hpk : 0 < lns[k].runes.length := List.length_pos_iff.2 (HNE.out _ (List.getElem_mem hlt))
        obtain ⟨ar, capr, rfl⟩ := hr.shape
        obtain ⟨gr, offr, rfl, hgr, cr⟩ := hr.at hpk
        simp only [Nat.add_zero] at cr
        have hcase : Tm.badLoop lns lns[k] = ((kb.toList == [100]) && Tm.deep lns 5 [lns[k].runes[0]]) := by
          unfold Tm.badLoop
          rw [← hkb, ByteArray.toList_eq]
          congr 1
          · rw [Bool.eq_iff_iff]; simp
          · simp [hpk]
        have HX : Hid (Tm.badLoop lns lns[k] = false → ∀ j (_ : j < k + 1) (hj : j < lns.length), Tm.badLoop lns lns[j] = false) := fun hx => find_step hno hlt hx
        have HY : Hid (Tm.badLoop lns lns[k] = true → Tm.together lns = (lns[k].num, 3)) := fun hx => together_loop (find_hit hno hlt hx)
        have HC := hide hcase
        have hgw : g < w.heap.size := by
          obtain ⟨_, _, _, _, _, he', hg', _⟩ := HT.out.at hlt
          cases he'; exact hg'
        have HC3 : Hid (w.cell? ⟨g, off + k * 4 + 3, none⟩ = some (.int .i64 lns[k].num)) := by
          unfold Hid; rw [← hb0.cell (p := ⟨g, off + k * 4 + 3, none⟩) hgw]; exact c3
        have i1 : (0 : Int) < (lns[k].runes.length : Int) := by omega
        generalize lns[k].num = nn at *
        generalize lns[k].runes[0] = r0 at *
        generalize lns[k].runes.length = rl at *
        generalize Tm.badLoop lns lns[k] = bad at *
        clear hno hb hb0 hr he hkb hcase c2 c3
        have g1 : ¬ g = wr.heap.size := by omega
        have g2 : w.heap.size < wr.heap.size := by omega
        go_wp2_with fail
        go_loopw [5, 6, 7] (fun v y t wx => ∃ (m : Nat) (any : Bool) (lx : List Int), m ≤ 5 ∧ t = .int .i64 m ∧ y = .bool any ∧ Reads wx v 1 lx.length (ints lx) ∧ lx.length ≤ 2 ^ m ∧ Below (w.heap.size + 1) (w.alloc (.cells #[.slice (some ⟨g, off, none⟩) lns.length cap, .int .i64 st, .bool sh] 29)) wx ∧
            bad = (any && Tm.deep lns (5 - m) lx) ∧ (m = 5 → any = false)) (fun _ _ t _ => 5 - (intOf t).toNat)
        case atStart =>
          refine ⟨0, (kb.toList == [100]), [r0], by omega, rfl, by rfl, ?_, by simp, HBB.out.alloc (by omega) _, HC.out, by omega⟩
          refine ⟨rfl, fun g' hg' => by simp [Value.ownBlock] at hg'; simp; omega, _, 1, rfl, ⟨Nat.le_refl _, by unfold maxLen; omega⟩, fun j u hu => ?_⟩
          match j, hu with
          | 0, hu => simp [ints] at hu; subst hu; exact ⟨wr.heap.size, 0, rfl, by simp⟩
        case round =>
          obtain ⟨m, any, lx, hm, rfl, rfl, hrd, hlx, hbx, hbad, hm5⟩ := hrel
          have hbw : Below w.heap.size w wr := ((Below.refl _ _).alloc (Nat.le_refl _) _).trans (hbx.mono (by omega))
          have hzx : w.heap.size + 1 ≤ wr.heap.size := by have := hbx.size; simpa using this
          have d0 : wr.cell? ⟨w.heap.size, 0, none⟩ = some (.slice (some ⟨g, off, none⟩) lns.length cap) := by rw [hbx.cell (by simp)]; simp
          have d1 : wr.cell? ⟨w.heap.size, 1, none⟩ = some (.int .i64 st) := by rw [hbx.cell (by simp)]; simp
          have d2 : wr.cell? ⟨w.heap.size, 2, none⟩ = some (.bool sh) := by rw [hbx.cell (by simp)]; simp
          obtain ⟨av, cv, rfl⟩ := hrd.shape
          have HBX := hide hbx
          have HBW := hide hbw
          have HBAD := hide hbad
          have HM5 := hide hm5
          cases any
          · have HX2 := hide (HX.out (by rw [HBAD.out]; rfl))
            clear hrd hbx hbw hbad hm5
            by_cases hm' : (m : Int) < 5
            all_goals
              go_wp2
              go_roundw
              case rel => exact ⟨k + 1, by omega, by go_num, HBX.out, HX2.out⟩
              case measure => simp [intOf]; omega
          · have hm4 : m < 5 := by
              rcases Nat.lt_or_ge m 5 with h | h
              · exact h
              · have := hm5 (by omega); cases this
            have htw := HT.out.below hbw
            have hlx' : lx.length ≤ 16 := by
              have : 2 ^ m ≤ 2 ^ 4 := Nat.pow_le_pow_right (by omega) (by omega)
              omega
            have hbs : bad = (Tm.hasParts lns lx && Tm.deep lns (4 - m) (Tm.stepAll lns lx)) := by
              rw [hbad, show 5 - m = (4 - m) + 1 from by omega, deep_succ]; rfl
            have HBS := hide hbs
            have hss := stepAll_short HL3.out lx
            have hlen2 : (Tm.stepAll lns lx).length ≤ 2 ^ (m + 1) := by rw [Nat.pow_succ]; omega
            have hd5 : decide ((m : Int) < 5) = true := by simp; omega
            clear hbx hbw hbad hm5 hbs
            go_wp2_with fail
            refine (steps_any _ st sh _ lx lns _ htw hrd hl (by omega) HL3.out HNE.out).mono ?_
            rintro e w2 ⟨v2, rfl, hown2, hb2⟩
            have hrd2 := Reads.of_owns hown2
            obtain ⟨av2, cv2, rfl⟩ := hrd2.shape
            have HB2 : Hid (Below (w.heap.size + 1) (w.alloc (.cells #[.slice (some ⟨g, off, none⟩) lns.length cap, .int .i64 st, .bool sh] 29)) w2) := HBX.out.trans (hb2.mono hzx)
            have e0 : w2.cell? ⟨w.heap.size, 0, none⟩ = some (.slice (some ⟨g, off, none⟩) lns.length cap) := by rw [HB2.out.cell (by simp)]; simp
            have e3 : w2.cell? ⟨g, off + k * 4 + 3, none⟩ = some (.int .i64 nn) := by
              rw [HB2.out.cell (by simp; omega), ← HC3.out]; simp [World.cell?_alloc_past, hgw]
            have HRD := hide hrd2
            generalize Tm.hasParts lns lx = any2 at *
            clear hrd hown2 hb2 hrd2 d0 d1 d2 htw
            by_cases h4 : m = 4
            · have h4b : ((m : Int) == 4) = true := by rw [beq_iff_eq]; omega
              cases any2
              · have HR5 : Hid (bad = (false && Tm.deep lns (5 - (m + 1)) (Tm.stepAll lns lx)) ∧ (m + 1 = 5 → false = false)) := ⟨by rw [HBS.out]; rfl, fun _ => rfl⟩
                clear h4
                go_wp2
                go_roundw
                case rel => exact ⟨m + 1, false, Tm.stepAll lns lx, by omega, by go_num, rfl, HRD.out, hlen2, HB2.out, HR5.out.1, fun _ => rfl⟩
                case measure => simp [intOf]; omega
              · have HY2 := hide (HY.out (by rw [HBS.out, h4]; rfl))
                clear h4
                go_wp2
                go_ret2
                exact ⟨by unfold togAns; rw [HY2.out]; rfl, ((Below.refl _ _).alloc (Nat.le_refl _) _).trans (HB2.out.mono (by omega))⟩
            · have h4b : ((m : Int) == 4) = false := by rw [beq_eq_false_iff_ne]; omega
              have HR5 : Hid (bad = (any2 && Tm.deep lns (5 - (m + 1)) (Tm.stepAll lns lx)) ∧ (m + 1 = 5 → any2 = false)) := ⟨by rw [HBS.out, show 5 - (m + 1) = 4 - m from by omega], fun h => by omega⟩
              go_wp2
              go_roundw
              case rel => exact ⟨m + 1, any2, Tm.stepAll lns lx, by omega, by go_num, rfl, HRD.out, hlen2, HB2.out, HR5.out.1, HR5.out.2⟩
              case measure => simp [intOf]; omega
      · have HN := hide (find_none hno (by omega))
        clear hno hb hb0
        go_wp2
        go_meet
        case rel => exact ⟨HBB.out, HN.out⟩
  case rest =>
    obtain ⟨hbc, hnl⟩ := hcut
    have HNL := hide hnl
    clear hnl
    go_upto_block 4 with fail
    go_cut [8] from 9 to 123 (fun _ wx => Below (w.heap.size + 1) (w.alloc (.cells #[.slice a lns.length cap, .int .i64 st, .bool sh] 29)) wx ∧ lns.find? (Tm.badPrefix lns) = none)
    case first =>
      go_wp2_with fail
      go_loopw [8] (fun i wr => ∃ k : Nat, k ≤ lns.length ∧ i = .int .i64 k ∧ Below (w.heap.size + 1) (w.alloc (.cells #[.slice a lns.length cap, .int .i64 st, .bool sh] 29)) wr ∧ ∀ j (_ : j < k) (hj : j < lns.length), Tm.badPrefix lns lns[j] = false) (fun i _ => lns.length - (intOf i).toNat)
      case atStart => exact ⟨0, Nat.zero_le _, rfl, hbc, fun j hj => by omega⟩
      case round =>
        obtain ⟨k, hk, rfl, hb, hno⟩ := hrel
        have hb0 : Below w.heap.size w wr := ((Below.refl _ _).alloc (Nat.le_refl _) _).trans (hb.mono (by omega))
        have HB := hide hb0
        have HBB := hide hb
        have b0 : wr.cell? ⟨w.heap.size, 0, none⟩ = some (.slice a lns.length cap) := by rw [hb.cell (by simp)]; simp
        have b1 : wr.cell? ⟨w.heap.size, 1, none⟩ = some (.int .i64 st) := by rw [hb.cell (by simp)]; simp
        have b2 : wr.cell? ⟨w.heap.size, 2, none⟩ = some (.bool sh) := by rw [hb.cell (by simp)]; simp
        have hzr : w.heap.size + 1 ≤ wr.heap.size := by have := hb.size; simpa using this
        by_cases hlt : k < lns.length
        · obtain ⟨g, off, kb, vr, ve, rfl, hg, c0, c1, c2, c3, hkb, hr, he⟩ := (HT.out.below hb0).at hlt
          have htw := HT.out.below hb0
          have hpk : 0 < lns[k].runes.length := List.length_pos_iff.2 (HNE.out _ (List.getElem_mem hlt))
          have hp3 := HL3.out _ (List.getElem_mem hlt)
          obtain ⟨ar, capr, rfl⟩ := hr.shape
          obtain ⟨gr, offr, rfl, hgr, cr⟩ := hr.at hpk
          have hfit := hr.fits
          have hcase : Tm.badPrefix lns lns[k] = ((kb.toList == [119]) && (Tm.hasParts lns lns[k].runes || (decide (lns[k].runes.length = 3) && (Tm.seqOf lns (lns[k].runes.take 2)).isNone))) := by
            unfold Tm.badPrefix
            rw [← hkb, ByteArray.toList_eq]
            congr 1
            rw [Bool.eq_iff_iff]; simp
          have HX : Hid (Tm.badPrefix lns lns[k] = false → ∀ j (_ : j < k + 1) (hj : j < lns.length), Tm.badPrefix lns lns[j] = false) := fun hx => find_step hno hlt hx
          have HY : Hid (Tm.badPrefix lns lns[k] = true → Tm.together lns = (lns[k].num, 5)) := fun hx => together_prefix HNL.out (find_hit hno hlt hx)
          rw [hcase] at HX HY
          have HTK := hide (hr.take2)
          generalize lns[k].num = nn at *
          generalize lns[k].runes = rs at *
          clear hno hb hb0 he hkb hcase hbc cr
          cases hk1 : (kb.toList == [119])
          · have HX2 := hide (HX.out (by rw [hk1]; rfl))
            have hk2 : (kb.toList != [119]) = true := by simp only [bne, hk1]; rfl
            clear htw hr
            go_wp2
            go_roundw
            case rel => exact ⟨k + 1, by omega, by go_num, HBB.out, HX2.out⟩
            case measure => simp [intOf]; omega
          · have hk2 : (kb.toList != [119]) = false := by simp only [bne, hk1]; rfl
            go_upto_region 16 with fail
            go_cut [10] from 78 to 88 (fun t wx => t = .bool (Tm.hasParts lns rs) ∧ Below wr.heap.size wr wx)
            case first =>
              go_region_with (go_at_call 81; refine (steps_any _ st sh _ rs lns _ (by exact htw.below (Below.refl _ _).drew) (by exact hr.below (Below.refl _ _).drew hr.2.1) hl (by omega) HL3.out HNE.out).mono ?_; rintro e w2 ⟨v2, rfl, _, hb2⟩)
              all_goals (go_wp2_with fail; go_meet; exact ⟨rfl, ((Below.refl _ _).drew).trans hb2⟩)
            case rest =>
              obtain ⟨rfl, hb2⟩ := hcut
              have HB2 : Hid (Below (w.heap.size + 1) (w.alloc (.cells #[.slice (some ⟨g, off, none⟩) lns.length cap, .int .i64 st, .bool sh] 29)) wc) := HBB.out.trans (hb2.mono hzr)
              have e0 : wc.cell? ⟨w.heap.size, 0, none⟩ = some (.slice (some ⟨g, off, none⟩) lns.length cap) := by rw [hb2.cell (by simp; omega)]; exact b0
              have e1 : wc.cell? ⟨w.heap.size, 1, none⟩ = some (.int .i64 st) := by rw [hb2.cell (by simp; omega)]; exact b1
              have e2 : wc.cell? ⟨w.heap.size, 2, none⟩ = some (.bool sh) := by rw [hb2.cell (by simp; omega)]; exact b2
              have f1 : wc.cell? ⟨g, off + k * 4 + 1, none⟩ = some (.slice (some ⟨gr, offr, none⟩) rs.length capr) := by rw [hb2.cell (by simpa using hg)]; exact c1
              have f3 : wc.cell? ⟨g, off + k * 4 + 3, none⟩ = some (.int .i64 nn) := by rw [hb2.cell (by simpa using hg)]; exact c3
              have htc := htw.below hb2
              have HTK2 : Hid (2 ≤ rs.length → Reads wc (.slice (some ⟨gr, offr, none⟩) 2 capr) 1 (rs.take 2).length (ints (rs.take 2))) := fun h => (HTK.out h).below hb2 (HTK.out h).2.1
              have hcap1 := hfit.2.1
              have hcap2 : capr ≤ 9223372036854775807 := by have := hfit.2.2; unfold maxLen at this; omega
              clear hb2 htw hr b0 b1 b2 c0 c1 c2 c3 hfit HTK
              generalize Tm.hasParts lns rs = hp at *
              cases hp
              · by_cases h3 : rs.length = 3
                · have h3b : ((rs.length : Int) == 3) = true := by rw [beq_iff_eq]; omega
                  have hd3 : decide (rs.length = 3) = true := by simp [h3]
                  have h2l : (2 : Int) ≤ (capr : Int) := by omega
                  have hrt := HTK2.out (by omega)
                  clear h3
                  go_upto_region 20 with fail
                  go_cut [12] from 104 to 115 (fun t wx => t = .bool (!(Tm.seqOf lns (rs.take 2)).isNone) ∧ Below wc.heap.size wc wx)
                  case first =>
                    go_region_with (go_at_call 82; refine (Sequence_any _ st sh _ (rs.take 2) lns _ (by exact htc.below (Below.refl _ _).drew) (by exact hrt.below (Below.refl _ _).drew hrt.2.1) hl (by simp; omega) (by exact fun o ho => Nat.le_trans (HL3.out o ho) (by omega))).mono ?_; rintro e w2 ⟨⟨v2, ok, rfl, hok⟩, hb2⟩)
                    all_goals (go_wp2_with fail; go_meet; exact ⟨seq_ok hok, ((Below.refl _ _).drew).trans hb2⟩)
                  case rest =>
                    obtain ⟨rfl, hb3⟩ := hcut
                    rename_i wd _
                    have HB3 : Hid (Below (w.heap.size + 1) (w.alloc (.cells #[.slice (some ⟨g, off, none⟩) lns.length cap, .int .i64 st, .bool sh] 29)) wc) := HB2.out.trans (hb3.mono (by have := HB2.out.size; simpa using this))
                    have e0' : wc.cell? ⟨w.heap.size, 0, none⟩ = some (.slice (some ⟨g, off, none⟩) lns.length cap) := by rw [HB3.out.cell (by simp)]; simp
                    have f3' : wc.cell? ⟨g, off + k * 4 + 3, none⟩ = some (.int .i64 nn) := by rw [hb3.cell (World.block_lt_of_cell? _ _ f3)]; exact f3
                    clear hb3 e0 e1 e2 f1 f3 htc hrt
                    cases hq : (Tm.seqOf lns (rs.take 2)).isNone
                    · have HX2 := hide (HX.out (by rw [hk1, hq]; simp))
                      go_wp2
                      go_roundw
                      case rel => exact ⟨k + 1, by omega, by go_num, HB3.out, HX2.out⟩
                      case measure => simp [intOf]; omega
                    · have HY2 := hide (HY.out (by rw [hk1, hq, hd3]; rfl))
                      go_wp2
                      go_ret2
                      exact ⟨by unfold togAns; rw [HY2.out]; rfl, ((Below.refl _ _).alloc (Nat.le_refl _) _).trans (HB3.out.mono (by omega))⟩
                · have h3b : ((rs.length : Int) == 3) = false := by rw [beq_eq_false_iff_ne]; omega
                  have HX2 := hide (HX.out (by rw [hk1]; simp [h3]))
                  clear h3
                  go_wp2
                  go_roundw
                  case rel => exact ⟨k + 1, by omega, by go_num, HB2.out, HX2.out⟩
                  case measure => simp [intOf]; omega
              · have HY2 := hide (HY.out (by rw [hk1]; rfl))
                go_wp2
                go_ret2
                exact ⟨by unfold togAns; rw [HY2.out]; rfl, ((Below.refl _ _).alloc (Nat.le_refl _) _).trans (HB2.out.mono (by omega))⟩
        · have HN := hide (find_none hno (by omega))
          clear hno hb hb0 hbc
          go_wp2
          go_meet
          case rel => exact ⟨HBB.out, HN.out⟩
    case rest =>
      obtain ⟨hbd, hnp⟩ := hcut
      have HNP := hide hnp
      clear hnp hbc
      go_wp2_with fail
      go_loopw [13] (fun i wr => ∃ k : Nat, k ≤ lns.length ∧ i = .int .i64 k ∧ Below (w.heap.size + 1) (w.alloc (.cells #[.slice a lns.length cap, .int .i64 st, .bool sh] 29)) wr ∧ ∀ j (_ : j < k) (hj : j < lns.length), Tm.badWeight lns lns[j] = false) (fun i _ => lns.length - (intOf i).toNat)
      case atStart => exact ⟨0, Nat.zero_le _, rfl, hbd, fun j hj => by omega⟩
      case round =>
        obtain ⟨k, hk, rfl, hb, hno⟩ := hrel
        have hb0 : Below w.heap.size w wr := ((Below.refl _ _).alloc (Nat.le_refl _) _).trans (hb.mono (by omega))
        have HB := hide hb0
        have HBB := hide hb
        have b0 : wr.cell? ⟨w.heap.size, 0, none⟩ = some (.slice a lns.length cap) := by rw [hb.cell (by simp)]; simp
        by_cases hlt : k < lns.length
        · obtain ⟨g, off, kb, vr, ve, rfl, hg, _, _, c2, c3, _, _, he⟩ := HT.out.at hlt
          obtain ⟨ae, cape, rfl⟩ := he.shape
          have hle := HL4.out _ (List.getElem_mem hlt)
          have HE := hide he
          have HC2 := hide c2
          have HC3 := hide c3
          have HX : Hid (Tm.badWeight lns lns[k] = false → ∀ j (_ : j < k + 1) (hj : j < lns.length), Tm.badWeight lns lns[j] = false) := fun hx => find_step hno hlt hx
          have HY : Hid (Tm.badWeight lns lns[k] = true → Tm.together lns = (lns[k].num, 4)) := fun hx => together_weight HNL.out HNP.out (find_hit hno hlt hx)
          have HBW : Hid (Tm.badWeight lns lns[k] = lns[k].els.any fun x => x.v && Tm.belowP lns x.p) := rfl
          rw [HBW.out] at HX HY
          generalize lns[k].num = nn at *
          generalize lns[k].els = els at *
          clear hno he hb hb0 c2 c3 hbd HBW
          go_wp2_with fail
          go_loopw [14] (fun i wx => ∃ m : Nat, m ≤ els.length ∧ i = .int .i64 m ∧ Below (w.heap.size + 1) (w.alloc (.cells #[.slice (some ⟨g, off, none⟩) lns.length cap, .int .i64 st, .bool sh] 29)) wx ∧ ∀ j (_ : j < m) (hj : j < els.length), (els[j].v && Tm.belowP lns els[j].p) = false) (fun i _ => els.length - (intOf i).toNat)
          case atStart => exact ⟨0, Nat.zero_le _, rfl, HBB.out, fun j hj => by omega⟩
          case round =>
            obtain ⟨m, hm, rfl, hbx, hnx⟩ := hrel
            have hbw : Below w.heap.size w wr := ((Below.refl _ _).alloc (Nat.le_refl _) _).trans (hbx.mono (by omega))
            have d0 : wr.cell? ⟨w.heap.size, 0, none⟩ = some (.slice (some ⟨g, off, none⟩) lns.length cap) := by rw [hbx.cell (by simp)]; simp
            have d1 : wr.cell? ⟨w.heap.size, 1, none⟩ = some (.int .i64 st) := by rw [hbx.cell (by simp)]; simp
            have d2 : wr.cell? ⟨w.heap.size, 2, none⟩ = some (.bool sh) := by rw [hbx.cell (by simp)]; simp
            have l2 : wr.cell? ⟨g, off + k * 4 + 2, none⟩ = some (.slice ae els.length cape) := by rw [hbw.cell (by simpa using hg)]; exact HC2.out
            have hzx : w.heap.size + 1 ≤ wr.heap.size := by have := hbx.size; simpa using this
            have HBX := hide hbx
            have HBW := hide hbw
            by_cases hlm : m < els.length
            · obtain ⟨ge, offe, rfl, hge, e0, e1, e2, e3⟩ := els_at (HE.out.below hbw HE.out.2.1) hlm
              have HX' : Hid ((els[m].v && Tm.belowP lns els[m].p) = false → ∀ j (_ : j < m + 1) (hj : j < els.length), (els[j].v && Tm.belowP lns els[j].p) = false) := fun hx => find_step (p := fun x : Tm.El => x.v && Tm.belowP lns x.p) hnx hlm hx
              have HY' : Hid ((els[m].v && Tm.belowP lns els[m].p) = true → (els.any fun x => x.v && Tm.belowP lns x.p) = true) := fun hx => any_true (p := fun x : Tm.El => x.v && Tm.belowP lns x.p) hlm hx
              have htw := HT.out.below hbw
              generalize els[m] = x at *
              clear hnx hbx hbw
              have n1 : w.heap.size < wr.heap.size := by omega
              have n2 : g < wr.heap.size := by have := HBW.out.size; omega
              have n3 : ¬ g = wr.heap.size := by omega
              cases hxv : x.v
              · have HX2 := hide (HX'.out (by rw [hxv]; rfl))
                go_wp2
                go_roundw
                case rel => exact ⟨m + 1, by omega, by go_num, HBX.out.alloc (by omega) _, HX2.out⟩
                case measure => simp [intOf]; omega
              · go_wp2_with fail
                refine (below_any _ st sh x.p lns _ (htw.below ((Below.refl _ _).alloc (Nat.le_refl _) _)) hl HL4.out).mono ?_
                rintro e w2 ⟨rfl, hb2⟩
                have HB2 : Hid (Below (w.heap.size + 1) (w.alloc (.cells #[.slice (some ⟨g, off, none⟩) lns.length cap, .int .i64 st, .bool sh] 29)) w2) := (HBX.out.alloc (by omega) _).trans (hb2.mono (by simp; omega))
                have f0 : w2.cell? ⟨w.heap.size, 0, none⟩ = some (.slice (some ⟨g, off, none⟩) lns.length cap) := by rw [HB2.out.cell (by simp)]; simp
                have f3 : w2.cell? ⟨g, off + k * 4 + 3, none⟩ = some (.int .i64 nn) := by
                  rw [HB2.out.cell (by simp; omega), ← HC3.out]; simp [World.cell?_alloc_past, hg]
                rw [hxv] at HX' HY'
                generalize Tm.belowP lns x.p = bel at *
                clear hb2 htw e0 e1 e2 e3 l2 d0 d1 d2
                cases bel
                · have HX2 := hide (HX'.out rfl)
                  go_wp2
                  go_roundw
                  case rel => exact ⟨m + 1, by omega, by go_num, HB2.out, HX2.out⟩
                  case measure => simp [intOf]; omega
                · have HY2 := hide (HY.out (HY'.out rfl))
                  go_wp2
                  go_ret2
                  exact ⟨by unfold togAns; rw [HY2.out]; rfl, ((Below.refl _ _).alloc (Nat.le_refl _) _).trans (HB2.out.mono (by omega))⟩
            · have HX2 := hide (HX.out (any_false (p := fun x : Tm.El => x.v && Tm.belowP lns x.p) hnx (by omega)))
              clear hnx hbx hbw
              go_wp2
              go_roundw
              case rel => exact ⟨k + 1, by omega, by go_num, HBX.out, HX2.out⟩
              case measure => simp [intOf]; omega
        · have HN := hide (together_ok HNL.out HNP.out (find_none hno (by omega)))
          clear hno hb hb0 hbd
          go_wp2
          go_ret2
          exact ⟨by unfold togAns; rw [HN.out]; rfl, HB.out⟩
end Go.Proofs.YtmnjjjhmnhfapaaGreatDoor
/-
  A table's lines that a call owns: how they lie, and what keeps them.
-/
namespace Go.Proofs.YtmnjjjhmnhfapaaGreatDoor
open Go.RowKit

/-- A line's four cells, out of its values. -/
def lineCells (x : ByteArray × Value × Value) (n : Int) : List Value := [.string x.1, x.2.1, x.2.2, .int .i64 n]
def tabCells (xs : List (ByteArray × Value × Value)) (lns : List Tm.Ln) : List Value := (xs.zip lns).flatMap fun p => lineCells p.1 p.2.num

theorem tabCells_get {xs : List (ByteArray × Value × Value)} {lns : List Tm.Ln} (hl : xs.length = lns.length) {k f : Nat} (h : k < lns.length) (h' : k < xs.length) (hf : f < 4) :
    (tabCells xs lns)[k * 4 + f]? = (lineCells xs[k] lns[k].num)[f]? := by
  induction xs generalizing lns k with
  | nil => simp at h'
  | cons a r ih =>
    cases lns with
    | nil => simp at h
    | cons b q =>
      cases k with
      | zero =>
        simp only [tabCells, List.zip_cons_cons, List.flatMap_cons]
        rw [List.getElem?_append_left (by simp [lineCells]; omega)]
        simp
      | succ k =>
        simp only [tabCells, List.zip_cons_cons, List.flatMap_cons]
        rw [List.getElem?_append_right (by simp [lineCells]; omega)]
        have := ih (lns := q) (by simpa using hl) (k := k) (by simpa using h) (by simpa using h')
        simp only [tabCells] at this
        simp only [lineCells, List.length_cons, List.length_nil] at *
        rw [show (k + 1) * 4 + f - (0 + 1 + 1 + 1 + 1) = k * 4 + f from by omega, this]
        rfl
theorem tabCells_snoc {xs : List (ByteArray × Value × Value)} {lns : List Tm.Ln} (hl : xs.length = lns.length) (x : ByteArray × Value × Value) (ln : Tm.Ln) :
    tabCells (xs ++ [x]) (lns ++ [ln]) = tabCells xs lns ++ lineCells x ln.num := by
  unfold tabCells
  rw [List.zip_append hl]
  simp

/-- What one line's values read as. -/
def LineOk (w : World) (base : Nat) (v : Value) (x : ByteArray × Value × Value) (ln : Tm.Ln) : Prop :=
  x.1.data.toList = ln.kind ∧ Reads w x.2.1 1 ln.runes.length (ints ln.runes) ∧ Reads w x.2.2 4 ln.els.length (elsCells ln.els) ∧
  (∀ g, x.2.1.ownBlock = some g → base ≤ g ∧ some g ≠ v.ownBlock) ∧ (∀ g, x.2.2.ownBlock = some g → base ≤ g ∧ some g ≠ v.ownBlock)

/-- The call owns the lines. -/
def OwnTab (w : World) (base : Nat) (v : Value) (lns : List Tm.Ln) : Prop :=
  ∃ xs : List (ByteArray × Value × Value), xs.length = lns.length ∧ w.ownsRow base 86 4 v lns.length (tabCells xs lns) ∧ ∀ k (h : k < lns.length) (h' : k < xs.length), LineOk w base v xs[k] lns[k]

theorem OwnTab.nil (w : World) (base : Nat) : OwnTab w base (.slice none 0 0) [] :=
  ⟨[], rfl, World.ownsRow_nil _ _ _ _, fun k h => by simp at h⟩

theorem OwnTab.rd {w : World} {base : Nat} {v : Value} {lns : List Tm.Ln} (h : OwnTab w base v lns) : TableRd w v lns := by
  obtain ⟨xs, hl, hown, hok⟩ := h
  have hr := Reads.of_owns hown
  refine ⟨hr.2.1, ?_⟩
  obtain ⟨_, _, a, cap, rfl, hcap, hc⟩ := hr
  refine ⟨a, cap, rfl, hcap, fun k hk => ?_⟩
  have hk' : k < xs.length := by omega
  obtain ⟨h1, h2, h3, _, _⟩ := hok k hk hk'
  have e0 : (tabCells xs lns)[k * 4]? = some (.string xs[k].1) := by have := tabCells_get hl hk hk' (f := 0) (by omega); simpa [lineCells] using this
  have e1 : (tabCells xs lns)[k * 4 + 1]? = some xs[k].2.1 := by have := tabCells_get hl hk hk' (f := 1) (by omega); simpa [lineCells] using this
  have e2 : (tabCells xs lns)[k * 4 + 2]? = some xs[k].2.2 := by have := tabCells_get hl hk hk' (f := 2) (by omega); simpa [lineCells] using this
  have e3 : (tabCells xs lns)[k * 4 + 3]? = some (.int .i64 lns[k].num) := by have := tabCells_get hl hk hk' (f := 3) (by omega); simpa [lineCells] using this
  obtain ⟨g, off, rfl, c0⟩ := hc _ _ e0
  obtain ⟨g1, off1, he1, c1⟩ := hc _ _ e1
  cases he1
  obtain ⟨g2, off2, he2, c2⟩ := hc _ _ e2
  cases he2
  obtain ⟨g3, off3, he3, c3⟩ := hc _ _ e3
  cases he3
  exact ⟨g, off, xs[k].1, xs[k].2.1, xs[k].2.2, rfl, c0, c1, c2, c3, h1, h2, h3⟩

/-- Blocks from base on are as they were. -/
theorem OwnTab.of_blocks {w w' : World} {base : Nat} {v : Value} {lns : List Tm.Ln} (h : OwnTab w base v lns) (hs : w.heap.size ≤ w'.heap.size) (hb : ∀ g, base ≤ g → g < w.heap.size → w'.heap[g]? = w.heap[g]?) : OwnTab w' base v lns := by
  obtain ⟨xs, hl, hown, hok⟩ := h
  refine ⟨xs, hl, ?_, fun k h h' => ?_⟩
  · refine ⟨hown.1, ?_⟩
    rcases hown.2 with h2 | ⟨g, cap, cur, hv, hg, hh, r⟩
    · exact .inl h2
    · exact .inr ⟨g, cap, cur, hv, hg, by rw [hb g hg (Array.getElem?_eq_some_iff.1 hh).1]; exact hh, r⟩
  · obtain ⟨h1, h2, h3, h4, h5⟩ := hok k h h'
    exact ⟨h1, h2.of_blocks hs (fun g hg => hb g (h4 g hg).1 (h2.2.1 g hg)), h3.of_blocks hs (fun g hg => hb g (h5 g hg).1 (h3.2.1 g hg)), h4, h5⟩

theorem OwnTab.below {w w' : World} {base : Nat} {v : Value} {lns : List Tm.Ln} (h : OwnTab w base v lns) (hb : Below w.heap.size w w') : OwnTab w' base v lns :=
  h.of_blocks hb.size (fun g _ hg => hb.block g hg)
theorem OwnTab.setCell {w : World} {base : Nat} {v : Value} {lns : List Tm.Ln} (h : OwnTab w base v lns) {p : Addr} (hp : p.block < base) (u : Value) : OwnTab (w.setCell p u) base v lns :=
  h.of_blocks (by simp [World.setCell]) (fun g hg _ => Below.heap_setCell _ _ _ _ (by omega))
theorem OwnTab.shape {w : World} {base : Nat} {v : Value} {lns : List Tm.Ln} (h : OwnTab w base v lns) : ∃ a cap, v = .slice a lns.length cap := h.rd.shape

/-- One line more, by append. -/
theorem OwnTab.snoc {w w1 : World} {base : Nat} {v v' : Value} {lns : List Tm.Ln} {x : ByteArray × Value × Value} {ln : Tm.Ln} {xs : List (ByteArray × Value × Value)}
    (hl : xs.length = lns.length) (hok : ∀ k (h : k < lns.length) (h' : k < xs.length), LineOk w base v xs[k] lns[k]) (hx : LineOk w base v x ln)
    (hown : w1.ownsRow base 86 4 v' (lns.length + 1) (tabCells xs lns ++ lineCells x ln.num)) (hg : w.grownBy w1 v.ownBlock) (hat : v'.ownBlock = v.ownBlock ∨ v'.ownBlock = some w.heap.size) :
    OwnTab w1 base v' (lns ++ [ln]) := by
  have keep : ∀ {y : ByteArray × Value × Value} {l : Tm.Ln}, LineOk w base v y l → LineOk w1 base v' y l := by
    rintro y l ⟨h1, h2, h3, h4, h5⟩
    refine ⟨h1, h2.kept hg ?_, h3.kept hg ?_, fun g hg' => ⟨(h4 g hg').1, ?_⟩, fun g hg' => ⟨(h5 g hg').1, ?_⟩⟩
    · cases hv : y.2.1.ownBlock with
      | none => exact .inl rfl
      | some b => exact .inr (h4 b hv).2
    · cases hv : y.2.2.ownBlock with
      | none => exact .inl rfl
      | some b => exact .inr (h5 b hv).2
    · rcases hat with e | e
      · rw [e]; exact (h4 g hg').2
      · rw [e]; have := h2.2.1 g hg'; simp; omega
    · rcases hat with e | e
      · rw [e]; exact (h5 g hg').2
      · rw [e]; have := h3.2.1 g hg'; simp; omega
  refine ⟨xs ++ [x], by simp [hl], ?_, fun k h h' => ?_⟩
  · rw [tabCells_snoc hl]; simpa using hown
  · by_cases e : k < lns.length
    · have e' : k < xs.length := by omega
      rw [List.getElem_append_left e', List.getElem_append_left e]
      exact keep (hok k e e')
    · simp at h
      have : k = lns.length := by omega
      subst this
      rw [List.getElem_append_right (by omega), List.getElem_append_right (by omega)]
      simpa using keep hx

theorem news_line {w : World} {kb : ByteArray} {vr ve : Value} {n : Int} {t : TypeId} {H : Nat} (hH : w.heap.size = H) : ∀ j u, (lineCells (kb, vr, ve) n)[j]? = some u → (w.alloc (.cells #[.string kb, vr, ve, .int .i64 n] t)).cell? ((⟨H, 0, none⟩ : Addr).add j) = some u := by
  subst hH
  intro j u hj
  match j, hj with
  | 0, hj => simp [lineCells] at hj; subst hj; simp [Addr.add]
  | 1, hj => simp [lineCells] at hj; subst hj; simp [Addr.add]
  | 2, hj => simp [lineCells] at hj; subst hj; simp [Addr.add]
  | 3, hj => simp [lineCells] at hj; subst hj; simp [Addr.add]
end Go.Proofs.YtmnjjjhmnhfapaaGreatDoor
