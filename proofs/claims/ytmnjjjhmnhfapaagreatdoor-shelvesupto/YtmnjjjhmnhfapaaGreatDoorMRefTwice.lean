import Derived.WalkSmall
import Derived.Test.YtmnjjjhmnhfapaaGreatDoorMRefParts
namespace Go.Proofs.YtmnjjjhmnhfapaaGreatDoor
open Go.RowKit
theorem seq_none {lns : List Tm.Ln} {l : List Int} (h : lns.find? (Tm.isSeq l) = none) : Tm.seqOf lns l = none := by unfold Tm.seqOf; rw [h]; rfl
theorem seq_some {lns : List Tm.Ln} {l : List Int} {o : Tm.Ln} (h : lns.find? (Tm.isSeq l) = some o) : Tm.seqOf lns l = some o.els := by unfold Tm.seqOf; rw [h]; rfl
def seqAns (r : Option (List Tm.El)) (w : World) (e : Ending) : Prop :=
 ∃ v ok, e = .returned (.tuple #[v, .bool ok]) ∧ (if ok then ∃ es, r = some es ∧ Reads w v 4 es.length (elsCells es) else r = none ∧ v = .slice none 0 0)
set_option maxRecDepth 100000 in
set_option maxHeartbeats 1000000 in
theorem Sequence_any (vl : Value) (st : Int) (sh : Bool) (vs : Value) (l : List Int) (lns : List Tm.Ln) (w : World) (ht : TableRd w vl lns) (hs : Reads w vs 1 l.length (ints l)) (hl : lns.length ≤ 1000000) (hl2 : l.length ≤ 1000000) (hl3 : ∀ o ∈ lns, o.runes.length ≤ 1000000) :
  Calls Tryz.prog 82 #[.agg #[vl, .int .i64 st, .bool sh], vs] w fun e w' => seqAns (Tm.seqOf lns l) w e ∧ Below w.heap.size w w' := by
 obtain ⟨a, cap, rfl⟩ := ht.shape
 have HT := hide ht
 have HS := hide hs
 have HL3 := hide hl3
 obtain ⟨as0, caps, rfl⟩ := hs.shape
 clear ht hs hl3
 go_enter Tryz.func82, Tryz.ntmps82
 go_wp2
 go_loopw [6] (fun i wr => ∃ k : Nat, k ≤ lns.length ∧ i = .int .i64 k ∧ Below (w.heap.size + 1) (w.alloc (.cells #[.slice a lns.length cap, .int .i64 st, .bool sh] 29)) wr ∧ ∀ j (_ : j < k) (hj : j < lns.length), Tm.isSeq l lns[j] = false) (fun i _ => lns.length - (intOf i).toNat)
 case atStart => exact ⟨0, Nat.zero_le _, rfl, Below.refl _ _, fun j hj => by omega⟩
 case round =>
  obtain ⟨k, hk, rfl, hb, hno⟩ := hrel
  have hb0 : Below w.heap.size w wr := ((Below.refl _ _).alloc (Nat.le_refl _) _).trans (hb.mono (by omega))
  have HB := hide hb0
  have b0 : wr.cell? ⟨w.heap.size, 0, none⟩ = some (.slice a lns.length cap) := by rw [hb.cell (by simp)]; simp
  by_cases hlt : k < lns.length
  ·obtain ⟨g, off, kb, vr, ve, rfl, hg, c0, c1, c2, c3, hkb, hr, he⟩ := (HT.out.below hb0).at hlt
   obtain ⟨ar, capr, rfl⟩ := hr.shape
   obtain ⟨ae, cape, rfl⟩ := he.shape
   have hle := HL3.out _ (List.getElem_mem hlt)
   have hsw := HS.out.below hb0 HS.out.2.1
   have HE : Hid (Reads w (.slice ae lns[k].els.length cape) 4 lns[k].els.length (elsCells lns[k].els)) := by
    obtain ⟨_, _, kb', vr', ve', he', _, _, _, d2, _, _, _, hx⟩ := HT.out.at hlt
    cases he'
    have : wr.cell? ⟨g, off + k * 4 + 2, none⟩ = w.cell? ⟨g, off + k * 4 + 2, none⟩ := hb0.cell (by
     have := World.block_lt_of_cell? w _ d2; exact this)
    rw [c2, d2] at this
    cases this
    exact hx
   have HBB := hide hb
   have hip : Tm.isSeq l lns[k] = ((kb.toList == [119]) && decide (lns[k].runes = l)) := by
    unfold Tm.isSeq
    rw [← hkb, ByteArray.toList_eq]
    congr 1
    rw [Bool.eq_iff_iff]; simp
   have HX : Hid (Tm.isSeq l lns[k] = false → ∀ j (_ : j < k + 1) (hj : j < lns.length), Tm.isSeq l lns[j] = false) := fun hx => find_step hno hlt hx
   have HY : Hid (Tm.isSeq l lns[k] = true → Tm.seqOf lns l = some lns[k].els) := fun hx => seq_some (find_hit hno hlt hx)
   rw [hip] at HX HY
   clear hno hip he hb hb0 hkb
   go_wp2_with fail
   refine (sameInts_any _ _ lns[k].runes l _ hr hsw hle hl2).mono ?_
   rintro e w2 ⟨rfl, nq, rfl⟩
   generalize decide (lns[k].runes = l) = same at *
   clear hr hsw hle
   cases hk1 : (kb.toList == [119])
   ·have HX' := hide (HX.out (by rw [hk1]; rfl))
    go_wp2
    go_roundw
    case rel => exact ⟨k + 1, by omega, by go_num, below_drewN HBB.out nq, HX'.out⟩
    case measure => simp [intOf]; omega
   ·cases same
    ·have HX' := hide (HX.out (by rw [hk1]; rfl))
     go_wp2
     go_roundw
     case rel => exact ⟨k + 1, by omega, by go_num, below_drewN HBB.out nq, HX'.out⟩
     case measure => simp [intOf]; omega
    ·have HY' := hide (HY.out (by rw [hk1]; rfl))
     go_wp2
     go_ret2
     exact ⟨⟨_, true, rfl, lns[k].els, HY'.out, HE.out⟩, below_drewN HB.out nq⟩
  ·have HN := hide (seq_none (find_none hno (by omega)))
   clear hno hb hb0
   go_wp2
   go_ret2
   exact ⟨⟨_, false, rfl, HN.out, rfl⟩, HB.out⟩
theorem any_false {α : Type} {l : List α} {p : α → Bool} {k : Nat} (h : ∀ j (_ : j < k) (hj : j < l.length), p l[j] = false) (hk : l.length ≤ k) : l.any p = false := by
 rw [List.any_eq_false]
 intro x hx
 obtain ⟨j, hj, rfl⟩ := List.getElem_of_mem hx
 simp [h j (by omega) hj]
theorem any_true {α : Type} {l : List α} {p : α → Bool} {k : Nat} (hk : k < l.length) (hx : p l[k] = true) : l.any p = true :=
 List.any_eq_true.2 ⟨l[k], List.getElem_mem hk, hx⟩
set_option maxRecDepth 100000 in
set_option maxHeartbeats 1000000 in
theorem below_any (vl : Value) (st : Int) (sh : Bool) (p : Int) (lns : List Tm.Ln) (w : World) (ht : TableRd w vl lns) (hl : lns.length ≤ 1000000) (hl3 : ∀ o ∈ lns, o.els.length ≤ 1000000) :
  Calls Tryz.prog 83 #[.agg #[vl, .int .i64 st, .bool sh], .int .i64 p] w fun e w' => e = .returned (.bool (Tm.belowP lns p)) ∧ Below w.heap.size w w' := by
 obtain ⟨a, cap, rfl⟩ := ht.shape
 have HT := hide ht
 have HL3 := hide hl3
 clear ht hl3
 go_enter Tryz.func83, Tryz.ntmps83
 go_wp2
 go_loopw [5] (fun i wr => ∃ k : Nat, k ≤ lns.length ∧ i = .int .i64 k ∧ Below (w.heap.size + 1) (w.alloc (.cells #[.slice a lns.length cap, .int .i64 st, .bool sh] 29)) wr ∧ ∀ j (_ : j < k) (hj : j < lns.length), lns[j].els.any (Tm.lowEl p) = false) (fun i _ => lns.length - (intOf i).toNat)
 case atStart => exact ⟨0, Nat.zero_le _, rfl, Below.refl _ _, fun j hj => by omega⟩
 case round =>
  obtain ⟨k, hk, rfl, hb, hno⟩ := hrel
  have hb0 : Below w.heap.size w wr := ((Below.refl _ _).alloc (Nat.le_refl _) _).trans (hb.mono (by omega))
  have HB := hide hb0
  have HBB := hide hb
  have b0 : wr.cell? ⟨w.heap.size, 0, none⟩ = some (.slice a lns.length cap) := by rw [hb.cell (by simp)]; simp
  by_cases hlt : k < lns.length
  ·obtain ⟨g, off, kb, vr, ve, rfl, hg, _, _, c2, _, _, _, he⟩ := HT.out.at hlt
   obtain ⟨ae, cape, rfl⟩ := he.shape
   have hle := HL3.out _ (List.getElem_mem hlt)
   have HE := hide he
   have HC2 := hide c2
   have HX : Hid (lns[k].els.any (Tm.lowEl p) = false → ∀ j (_ : j < k + 1) (hj : j < lns.length), lns[j].els.any (Tm.lowEl p) = false) := fun hx => find_step (p := fun o : Tm.Ln => o.els.any (Tm.lowEl p)) hno hlt hx
   have HY : Hid (lns[k].els.any (Tm.lowEl p) = true → Tm.belowP lns p = true) := fun hx => any_true (p := fun o : Tm.Ln => o.els.any (Tm.lowEl p)) hlt hx
   generalize lns[k].els = els at *
   clear hno he hb hb0 c2
   go_wp2_with fail
   go_loopw [6] (fun i wx => ∃ m : Nat, m ≤ els.length ∧ i = .int .i64 m ∧ Below (w.heap.size + 1) (w.alloc (.cells #[.slice (some ⟨g, off, none⟩) lns.length cap, .int .i64 st, .bool sh] 29)) wx ∧ ∀ j (_ : j < m) (hj : j < els.length), Tm.lowEl p els[j] = false) (fun i _ => els.length - (intOf i).toNat)
   case atStart => exact ⟨0, Nat.zero_le _, rfl, HBB.out, fun j hj => by omega⟩
   case round =>
    obtain ⟨m, hm, rfl, hbx, hnx⟩ := hrel
    have hbw : Below w.heap.size w wr := ((Below.refl _ _).alloc (Nat.le_refl _) _).trans (hbx.mono (by omega))
    have d0 : wr.cell? ⟨w.heap.size, 0, none⟩ = some (.slice (some ⟨g, off, none⟩) lns.length cap) := by rw [hbx.cell (by simp)]; simp
    have d2 : wr.cell? ⟨g, off + k * 4 + 2, none⟩ = some (.slice ae els.length cape) := by rw [hbw.cell (by simpa using hg)]; exact HC2.out
    have hzx : w.heap.size + 1 ≤ wr.heap.size := by have := hbx.size; simpa using this
    have HBX := hide hbx
    have HBW := hide hbw
    by_cases hlm : m < els.length
    ·obtain ⟨ge, offe, rfl, hge, e0, e1, e2, e3⟩ := els_at (HE.out.below hbw HE.out.2.1) hlm
     have HX' : Hid (Tm.lowEl p els[m] = false → ∀ j (_ : j < m + 1) (hj : j < els.length), Tm.lowEl p els[j] = false) := fun hx => find_step hnx hlm hx
     have HY' : Hid (Tm.lowEl p els[m] = true → els.any (Tm.lowEl p) = true) := fun hx => any_true hlm hx
     generalize els[m] = x at *
     clear hnx hbx hbw
     go_upto_region 8 with fail
     go_cut [48] from 35 to 47 (fun t wx => t = .bool (Tm.lowEl p x) ∧ wx = wr.alloc (.cells #[.int .i64 x.p, .int .i64 x.s, .int .i64 x.t, .bool x.v] 102))
     case first =>
      go_wp2
      all_goals go_meet
      all_goals refine ⟨?_, ?_⟩
      all_goals first | (simp [Tm.lowEl, *]; done) | simp [*]
     case rest =>
      obtain ⟨rfl, rfl⟩ := hcut
      cases hx : Tm.lowEl p x
      ·have HX2 := hide (HX'.out hx)
       go_wp2
       go_roundw
       case rel => exact ⟨m + 1, by omega, by go_num, HBX.out.alloc (by omega) _, HX2.out⟩
       case measure => simp [intOf]; omega
      ·have HY2 := hide (HY.out (HY'.out hx))
       go_wp2
       go_ret
       exact ⟨ret_bool HY2.out.symm, HBW.out.alloc (by omega) _⟩
    ·have HX2 := hide (HX.out (any_false hnx (by omega)))
     clear hnx hbx hbw
     go_wp2
     go_roundw
     case rel => exact ⟨k + 1, by omega, by go_num, HBX.out, HX2.out⟩
     case measure => simp [intOf]; omega
  ·have HN := hide (any_false (p := fun o : Tm.Ln => o.els.any (Tm.lowEl p)) hno (by omega))
   clear hno hb hb0
   go_wp2
   go_ret
   exact ⟨ret_bool HN.out.symm, HB.out⟩
set_option maxRecDepth 100000 in
set_option maxHeartbeats 2000000 in
theorem twice_any (vl : Value) (st : Int) (sh : Bool) (kl : ByteArray) (vr ve : Value) (n : Int) (ln : Tm.Ln) (lns : List Tm.Ln) (w : World) (ht : TableRd w vl lns) (hr : Reads w vr 1 ln.runes.length (ints ln.runes)) (hkl : kl.data.toList = ln.kind) (hl : lns.length ≤ 1000000) (hl2 : ln.runes.length ≤ 1000000) (hl3 : ∀ o ∈ lns, o.runes.length ≤ 1000000) (hn1 : ln.runes ≠ []) (hn2 : ∀ o ∈ lns, o.runes ≠ []) (hve : ∃ a m c, ve = .slice a m c) :
  Calls Tryz.prog 37 #[.agg #[vl, .int .i64 st, .bool sh], .agg #[.string kl, vr, ve, .int .i64 n]] w fun e w' => e = .returned (.bool (Tm.twice lns ln)) ∧ Below w.heap.size w w' := by
 obtain ⟨a, cap, rfl⟩ := ht.shape
 obtain ⟨ar, capr, rfl⟩ := hr.shape
 obtain ⟨ave, mve, cve, rfl⟩ := hve
 have HT := hide ht
 have HR := hide hr
 have HL3 := hide hl3
 have HN2 := hide hn2
 have HK := hide hkl
 have hpl : 0 < ln.runes.length := List.length_pos_iff.2 hn1
 obtain ⟨gl, offl, rfl, hgl, cl⟩ := hr.at hpl
 simp only [Nat.add_zero] at cl
 have HCL := hide cl
 clear ht hr hl3 hn2 hkl cl
 go_enter Tryz.func37, Tryz.ntmps37
 go_wp2
 go_loopw [5] (fun i wr => ∃ k : Nat, k ≤ lns.length ∧ i = .int .i64 k ∧ Below (w.heap.size + 2) ((w.alloc (.cells #[.slice a lns.length cap, .int .i64 st, .bool sh] 29)).alloc (.cells #[.string kl, .slice (some ⟨gl, offl, none⟩) ln.runes.length capr, .slice ave mve cve, .int .i64 n] 86)) wr ∧ ∀ j (_ : j < k) (hj : j < lns.length), Tm.clash ln lns[j] = false) (fun i _ => lns.length - (intOf i).toNat)
 case atStart => exact ⟨0, Nat.zero_le _, rfl, Below.refl _ _, fun j hj => by omega⟩
 case round =>
  obtain ⟨k, hk, rfl, hb, hno⟩ := hrel
  have hb0 : Below w.heap.size w wr := (((Below.refl _ _).alloc (Nat.le_refl _) _).alloc (by simp) _).trans (hb.mono (by omega))
  have HB := hide hb0
  have HBB := hide hb
  have b0 : wr.cell? ⟨w.heap.size, 0, none⟩ = some (.slice a lns.length cap) := by rw [hb.cell (by simp)]; simp
  by_cases hlt : k < lns.length
  ·have l0 : wr.cell? ⟨w.heap.size + 1, 0, none⟩ = some (.string kl) := by rw [hb.cell (by simp)]; simp
   have l1 : wr.cell? ⟨w.heap.size + 1, 1, none⟩ = some (.slice (some ⟨gl, offl, none⟩) ln.runes.length capr) := by rw [hb.cell (by simp)]; simp
   have hzr : w.heap.size + 2 ≤ wr.heap.size := by have := hb.size; simpa using this
   obtain ⟨g, off, kb, vr', ve', rfl, hg, c0, c1, c2, c3, hkb, hr', he'⟩ := (HT.out.below hb0).at hlt
   have hpk : 0 < lns[k].runes.length := List.length_pos_iff.2 (HN2.out _ (List.getElem_mem hlt))
   obtain ⟨ar', capr', rfl⟩ := hr'.shape
   obtain ⟨ae', cape', rfl⟩ := he'.shape
   obtain ⟨gr, offr, rfl, hgr, cr⟩ := hr'.at hpk
   simp only [Nat.add_zero] at cr
   have clr : wr.cell? ⟨gl, offl, none⟩ = some (.int .i64 ln.runes[0]) := by rw [hb0.cell (by simpa using hgl)]; exact HCL.out
   have hle := HL3.out _ (List.getElem_mem hlt)
   have hrw := HR.out.below hb0 HR.out.2.1
   have hcl : Tm.clash ln lns[k] = ((kb.toList == kl.toList) && (((kl.toList == [119]) && decide (lns[k].runes = ln.runes)) || (!(kl.toList == [119]) && (lns[k].runes[0] == ln.runes[0])))) := by
    unfold Tm.clash
    rw [← hkb, ← HK.out, ByteArray.toList_eq, ByteArray.toList_eq]
    congr 1
    ·rw [Bool.eq_iff_iff]; simp
    ·have e1 : decide (kl.data.toList = [119]) = (kl.data.toList == [119]) := by rw [Bool.eq_iff_iff]; simp
     rw [e1]
     simp [hpk, hpl]
   have HX : Hid (Tm.clash ln lns[k] = false → ∀ j (_ : j < k + 1) (hj : j < lns.length), Tm.clash ln lns[j] = false) := fun hx => find_step hno hlt hx
   have HY : Hid (Tm.clash ln lns[k] = true → Tm.twice lns ln = true) := fun hx => any_true hlt hx
   rw [hcl] at HX HY
   clear hno hcl hb hb0 hkb he'
   have g1 : ¬ gl = wr.heap.size := by have := HB.out.size; omega
   have g2 : ¬ gr = wr.heap.size := by omega
   have g3 : ¬ w.heap.size + 1 = wr.heap.size := by omega
   have g4 : ¬ w.heap.size = wr.heap.size := by omega
   have g5 : w.heap.size + 1 < wr.heap.size := by omega
   have g6 : gl < wr.heap.size := by omega
   go_wp2_with fail
   refine (sameInts_any _ _ lns[k].runes ln.runes _ (hr'.below ((Below.refl _ _).alloc (Nat.le_refl _) _) hr'.2.1) (hrw.below ((Below.refl _ _).alloc (Nat.le_refl _) _) hrw.2.1) hle hl2).mono ?_
   rintro e w2 ⟨rfl, nq, rfl⟩
   generalize decide (lns[k].runes = ln.runes) = same at *
   generalize lns[k].runes[0] = x0 at *
   generalize ln.runes[0] = y0 at *
   have i1 : (0 : Int) < (lns[k].runes.length : Int) := by omega
   have i2 : (0 : Int) < (ln.runes.length : Int) := by omega
   clear hr' hrw hle
   cases hk1 : (kb.toList == kl.toList)
   ·have HX' := hide (HX.out (by rw [hk1]; rfl))
    go_wp2_with fail
    go_quiet (fail)
    go_wp2
    go_roundw
    case rel => exact ⟨k + 1, by omega, by go_num, by (repeat (first | with_reducible refine below_drewN ?_ _ | with_reducible refine Below.drew ?_ | with_reducible refine Below.alloc ?_ (by omega) _ | with_reducible exact HBB.out)), HX'.out⟩
    case measure => simp [intOf]; omega
   ·cases hk2 : (kl.toList == [119])
    ·have hk2' : (kl.toList != [119]) = true := by simp only [bne, hk2]; rfl
     have hk2'' : (!(kl.toList == [119])) = true := by rw [hk2]; rfl
     cases hk3 : (x0 == y0)
     ·have HX' := hide (HX.out (by rw [hk1, hk2, hk3]; rfl))
      go_wp2_with fail
      go_quiet (fail)
      go_wp2
      go_roundw
      case rel => exact ⟨k + 1, by omega, by go_num, by (repeat (first | with_reducible refine below_drewN ?_ _ | with_reducible refine Below.drew ?_ | with_reducible refine Below.alloc ?_ (by omega) _ | with_reducible exact HBB.out)), HX'.out⟩
      case measure => simp [intOf]; omega
     ·have HY' := hide (HY.out (by rw [hk1, hk2, hk3]; rfl))
      go_wp2_with fail
      go_quiet (fail)
      go_wp2
      go_ret
      exact ⟨ret_bool HY'.out.symm, by (repeat (first | with_reducible refine below_drewN ?_ _ | with_reducible refine Below.drew ?_ | with_reducible refine Below.alloc ?_ (by omega) _ | with_reducible exact HB.out))⟩
    ·cases same
     ·have HX' := hide (HX.out (by rw [hk1, hk2]; rfl))
      go_wp2_with fail
      go_quiet (fail)
      go_wp2
      go_roundw
      case rel => exact ⟨k + 1, by omega, by go_num, by (repeat (first | with_reducible refine below_drewN ?_ _ | with_reducible refine Below.drew ?_ | with_reducible refine Below.alloc ?_ (by omega) _ | with_reducible exact HBB.out)), HX'.out⟩
      case measure => simp [intOf]; omega
     ·have HY' := hide (HY.out (by rw [hk1, hk2]; rfl))
      go_wp2_with fail
      go_quiet (fail)
      go_wp2
      go_ret
      exact ⟨ret_bool HY'.out.symm, by (repeat (first | with_reducible refine below_drewN ?_ _ | with_reducible refine Below.drew ?_ | with_reducible refine Below.alloc ?_ (by omega) _ | with_reducible exact HB.out))⟩
  ·have HN := hide (any_false (p := Tm.clash ln) hno (by omega))
   clear hno hb hb0
   go_wp2
   go_ret
   exact ⟨ret_bool HN.out.symm, HB.out⟩
end Go.Proofs.YtmnjjjhmnhfapaaGreatDoor
