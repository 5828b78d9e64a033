import Derived.Test.YtmnjjjhmnhfapaaGreatDoorMCodeSeqs
namespace Go.Proofs.YtmnjjjhmnhfapaaGreatDoor
open Go.RowKit
namespace Tm
theorem lead_hit {lns : List Ln} {l : List Int} {k : Nat} (h2 : 2 ≤ k) (h3 : k ≤ 3) (hl : k ≤ l.length) (hx : isS lns (l.take k) = true) (hno : ∀ m, k < m → m ≤ 3 → m ≤ l.length → isS lns (l.take m) = false) : lead lns l = k := by
 unfold lead
 rcases (show k = 2 ∨ k = 3 by omega) with rfl | rfl
 ·rw [if_neg (fun h => by have := hno 3 (by omega) (by omega) h.1; rw [h.2] at this; cases this), if_pos ⟨hl, hx⟩]
 ·rw [if_pos ⟨hl, hx⟩]
theorem lead_none {lns : List Ln} {l : List Int} (hno : ∀ m, 1 < m → m ≤ 3 → m ≤ l.length → isS lns (l.take m) = false) : lead lns l = 1 := by
 unfold lead
 rw [if_neg (fun h => by have := hno 3 (by omega) (by omega) h.1; rw [h.2] at this; cases this), if_neg (fun h => by have := hno 2 (by omega) (by omega) h.1; rw [h.2] at this; cases this)]
end Tm
set_option maxRecDepth 100000 in
set_option maxHeartbeats 1000000 in
theorem longest_any (lns : List Tm.Ln) (bm : Nat) (vr : Value) (l : List Int) (w : World) (hrd : NodesRd w bm lns) (hr : Reads w vr 1 l.length (ints l)) (hp : 0 < l.length) (hrg : ∀ r ∈ l, 0 ≤ r ∧ r ≤ 1114111) (hl : l.length ≤ 1000000) (hn : lns.length ≤ 8192) (hf : ∀ o ∈ lns, Tm.Fit o) :
  Calls Tryz.prog 126 #[.map (some bm), vr] w fun e w' => e = .returned (.int .i64 (Tm.lead lns l)) ∧ Below w.heap.size w w' := by
 obtain ⟨g, off, cap, rfl, _, _⟩ := hr.form (by rw [ints_length]; exact hp)
 have HR := hide hr
 have HRD := hide hrd
 have HRG := hide hrg
 have HF := hide hf
 have hcap := hr.fits
 obtain ⟨n, hn'⟩ : ∃ n, l.length = n := ⟨_, rfl⟩
 rw [hn'] at hp hl hcap
 have HN := hide hn'
 rw [hn']
 clear hr hrd hrg hf hn'
 go_enter Tryz.func126, Tryz.ntmps126
 go_upto_region 1 with fail
 go_cut [5] from 6 to 8 (fun t wx => t = .int .i64 ((min n 3 : Nat) : Int) ∧ w = wx)
 case first =>
  go_wp2
  all_goals go_meet
  all_goals refine ⟨?_, rfl⟩
  ·rw [show min n 3 = 3 by omega]; rfl
  ·rw [show min n 3 = n by omega]
 case rest =>
  obtain ⟨rfl, rfl⟩ := hcut
  go_wp2_with fail
  go_loopw [5] (fun i wr => ∃ k : Nat, 1 ≤ k ∧ k ≤ 3 ∧ k ≤ n ∧ i = .int .i64 k ∧ (∀ m, k < m → m ≤ 3 → m ≤ l.length → Tm.isS lns (l.take m) = false) ∧ Below w.heap.size w wr) (fun i _ => (intOf i).toNat)
  case atStart => exact ⟨min n 3, by omega, by omega, by omega, rfl, fun m h1 h2 h3 => by rw [HN.out] at h3; omega, Below.refl _ _⟩
  case round =>
   obtain ⟨k, hk1, hk3, hkn, rfl, hno, hb⟩ := hrel
   have hz := hb.size
   have HB := hide hb
   have HNO := hide hno
   clear hb hno
   by_cases hlt : 1 < k
   ·have HRW := hide (HR.out.below HB.out HR.out.2.1)
    have HTK := hide (Reads.two HRW.out (k := k) (by rw [HN.out]; exact hkn))
    have hlen : (l.take k).length = k := by rw [List.length_take, HN.out]; omega
    rw [hlen] at HTK
    go_wp2_with fail
    refine (hasSequence_any lns bm _ (l.take k) _ (HRD.out.below HB.out) (by rw [hlen]; exact HTK.out) (by omega) (fun r hr => HRG.out r (List.mem_of_mem_take hr)) (by omega) hn HF.out).mono ?_
    rintro e w1 ⟨rfl, hb1⟩
    have HB1 : Hid (Below w.heap.size w w1) := HB.out.trans (hb1.mono hz)
    have hx0 : (!(Tm.seqOf lns (l.take k)).isNone) = Tm.isS lns (l.take k) := rfl
    rw [hx0]
    clear hb1 hx0
    cases hx : Tm.isS lns (l.take k)
    ·go_wp2
     go_roundw
     case rel => exact ⟨k - 1, by omega, by omega, by omega, by go_num, fun m h1 h2 h3 => by
      by_cases e : m = k
      ·rw [e]; exact hx
      ·exact HNO.out m (by omega) h2 h3, HB1.out⟩
     case measure => simp [intOf]; omega
    ·go_wp2
     go_ret
     exact ⟨ret_int (by rw [Tm.lead_hit (by omega) hk3 (by rw [HN.out]; exact hkn) hx HNO.out]), HB1.out⟩
   ·go_wp2
    go_ret
    exact ⟨ret_int (by rw [Tm.lead_none (fun m h1 h2 h3 => HNO.out m (by omega) h2 h3)]; rfl), HB.out⟩
set_option maxRecDepth 100000 in
set_option maxHeartbeats 1000000 in
theorem implicit_any (r : Int) (w : World) (hr : 0 ≤ r ∧ r ≤ 1114111) :
  Calls Tryz.prog 163 #[.int .i64 r] w fun e w' => ∃ v, e = .returned v ∧ Reads w' v 4 2 (elsCells (Tm.implicit r)) ∧ Below w.heap.size w w' := by
 obtain ⟨h1, h2⟩ := hr
 go_enter Tryz.func163, Tryz.ntmps163
 go_wp2
 go_ret
 refine ⟨_, rfl, ⟨rfl, fun g hg => ?_, _, _, rfl, ⟨Nat.le_refl _, by unfold maxLen; omega⟩, fun j u hu => ⟨w.heap.size, 0, rfl, ?_⟩⟩, (Below.refl _ _).alloc (Nat.le_refl _) _⟩
 ·simp [Value.ownBlock] at hg; subst hg; simp
 ·rw [Nat.zero_add, cell_new rfl, List.getElem?_toArray]
  exact hu
theorem elsFor_seqOf {lns : List Tm.Ln} {q : List Int} : elsFor (Tm.seqsAt lns (q.getD 0 0)) q = (Tm.seqOf lns q).getD [] := by
 unfold elsFor Tm.seqsAt Tm.seqOf
 rw [List.find?_filter]
 have e : (fun o => Tm.isHead (q.getD 0 0) o && decide (o.runes = q)) = Tm.isSeq q := by
  funext o
  unfold Tm.isHead Tm.isSeq
  by_cases h : o.runes = q
  ·subst h; simp
  ·simp [h]
 simp only [Bool.decide_and, Bool.decide_eq_true] at *
 rw [e]
 cases lns.find? (Tm.isSeq q) <;> rfl
theorem seqOf_els {lns : List Tm.Ln} (hf : ∀ o ∈ lns, Tm.Fit o) {q : List Int} {e : List Tm.El} (h : Tm.seqOf lns q = some e) : 0 < e.length ∧ e.length ≤ 4 := by
 unfold Tm.seqOf at h
 cases hq : lns.find? (Tm.isSeq q) with
 | none => rw [hq] at h; cases h
 | some o =>
  rw [hq] at h
  injection h with h
  subst h
  have h1 := hf o (List.mem_of_find?_eq_some hq)
  have h2 := List.find?_some hq
  refine ⟨List.length_pos_iff.2 ?_, h1.els⟩
  rcases h1.kinds with h3 | h3 | h3
  ·simp [Tm.isSeq, h3.1] at h2
  ·simp [Tm.isSeq, h3.1] at h2
  ·exact h3.2
set_option maxRecDepth 100000 in
set_option maxHeartbeats 1000000 in
theorem weigh_any (lns : List Tm.Ln) (bm : Nat) (vr : Value) (q : List Int) (w : World) (hrd : NodesRd w bm lns) (hr : Reads w vr 1 q.length (ints q)) (hq : 0 < q.length) (hrg : ∀ r ∈ q, 0 ≤ r ∧ r ≤ 1114111) (hl : q.length ≤ 3) (hn : lns.length ≤ 8192) (hf : ∀ o ∈ lns, Tm.Fit o) :
  Calls Tryz.prog 128 #[.map (some bm), vr] w fun e w' => ∃ v, e = .returned v ∧ Reads w' v 4 (Tm.weigh lns q).length (elsCells (Tm.weigh lns q)) ∧ Below w.heap.size w w' := by
 obtain ⟨r, rs, rfl⟩ : ∃ r rs, q = r :: rs := by
  cases q with
  | nil => simp at hq
  | cons x y => exact ⟨x, y, rfl⟩
 have hr0 := hrg r (by simp)
 obtain ⟨f, vp, vs, hmap, hfv, _, hs⟩ := hrd.at hr0.1
 obtain ⟨a, cap, rfl⟩ := hr.shape
 obtain ⟨g, off, rfl, hg, c0⟩ := hr.at (k := 0) (by simp)
 rw [Nat.add_zero] at c0
 have HMAP := hide hmap
 have HR := hide hr
 have HSQ := hide hs
 have HE := hide (elsFor_seqOf (lns := lns) (q := r :: rs))
 have hf1 := field_weighing
 have hle := seqsAt_le lns r
 have HFEW : Hid (∀ o ∈ Tm.seqsAt lns r, o.runes.length ≤ 1000000) := fun o ho => by have := (hf o (List.mem_filter.1 ho).1).few; omega
 have HEL := hide (fun e => seqOf_els hf (q := r :: rs) (e := e))
 clear hmap hr hs hrd hf
 have c0' : w.cell? ⟨g, off, none⟩ = some (.int .i64 r) := c0
 generalize hln : (r :: rs).length = ln at *
 have HLN := hide hln
 clear hln c0
 go_enter Tryz.func128, Tryz.ntmps128
 go_wp2_with (at_lookup; go_must (refine wpList_look rfl _ _ rfl bm lns.length f rfl HMAP.out r rfl (wf_rune hr0) _ hfv ?_))
 refine (of_any vs _ (Tm.seqsAt lns r) (r :: rs) _ HSQ.out (by rw [HLN.out]; exact HR.out) (by omega) HFEW.out (by rw [HLN.out]; omega)).mono ?_
 rintro e w1 ⟨v, rfl, hrd1, hb⟩
 have HB := hide hb
 have c1 : w1.cell? ⟨g, off, none⟩ = some (.int .i64 r) := by rw [hb.cell (p := ⟨g, off, none⟩) hg]; exact c0'
 have he : elsFor (Tm.seqsAt lns r) (r :: rs) = (Tm.seqOf lns (r :: rs)).getD [] := HE.out
 rw [he] at hrd1
 obtain ⟨a1, cap1, rfl⟩ := hrd1.shape
 have hz := hb.size
 cases hq : Tm.seqOf lns (r :: rs) with
 | some els =>
  rw [hq] at hrd1
  have hlen := HEL.out els hq
  have HRD1 := hide hrd1
  have hl1 : (Option.getD (some els) []).length = els.length := rfl
  have HW : Hid (Tm.weigh lns (r :: rs) = els) := by unfold Hid Tm.weigh; rw [hq]
  rw [hl1]
  rw [hl1] at HRD1
  have hp : decide (0 < (els.length : Int)) = true := by simp; omega
  clear hb hrd1 hl1
  go_wp2
  go_ret
  exact ⟨_, rfl, by rw [HW.out]; exact HRD1.out.below HB.out HRD1.out.2.1, HB.out⟩
 | none =>
  have HW : Hid (Tm.weigh lns (r :: rs) = Tm.implicit r) := by unfold Hid Tm.weigh; rw [hq]; rfl
  have hl1 : (Option.getD (none : Option (List Tm.El)) []).length = 0 := rfl
  rw [hl1]
  clear hb hrd1 hl1
  go_wp2_with fail
  refine (implicit_any r _ hr0).mono ?_
  rintro e w2 ⟨v, rfl, hrd2, hb2⟩
  have HR2 := hide hrd2
  have HB2 : Hid (Below w.heap.size w w2) := HB.out.trans (hb2.mono hz)
  obtain ⟨a2, cap2, rfl⟩ := hrd2.shape
  clear hb2 hrd2
  go_wp2
  go_ret
  exact ⟨_, rfl, by rw [HW.out]; exact HR2.out, HB2.out⟩
end Go.Proofs.YtmnjjjhmnhfapaaGreatDoor
