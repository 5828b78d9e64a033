import Derived.Test.YtmnjjjhmnhfapaaGreatDoorMAppKeep
namespace Go.Proofs.YtmnjjjhmnhfapaaGreatDoor
open Go.RowKit

theorem elsFor_seqOf {lns : List Tm.Ln} {q : List Int} : elsFor (Tm.seqsAt lns (q.getD 0 0)) q = (Tm.seqOf lns q).getD [] := by
  unfold elsFor Tm.seqsAt Tm.seqOf
  rw [List.find?_filter]
  have e : (fun o => Tm.isHead (q.getD 0 0) o && decide (o.runes = q)) = Tm.isSeq q := by
    funext o
    unfold Tm.isHead Tm.isSeq
    by_cases h : o.runes = q
    · subst h; simp
    · simp [h]
  simp only [Bool.decide_and, Bool.decide_eq_true] at *
  rw [e]
  cases lns.find? (Tm.isSeq q) <;> rfl
theorem seqOf_els {lns : List Tm.Ln} (hf : ∀ o ∈ lns, Tm.Fit o) {q : List Int} {e : List Tm.El} (h : Tm.seqOf lns q = some e) : 0 < e.length ∧ e.length ≤ 4 := by
  unfold Tm.seqOf at h
  cases hq : lns.find? (Tm.isSeq q) with
  | none => rw [hq] at h; cases h
  | some o =>
    rw [hq] at h
    injection h with h
    subst h
    have h1 := hf o (List.mem_of_find?_eq_some hq)
    have h2 := List.find?_some hq
    refine ⟨List.length_pos_iff.2 ?_, h1.els⟩
    rcases h1.kinds with h3 | h3 | h3
    · simp [Tm.isSeq, h3.1] at h2
    · simp [Tm.isSeq, h3.1] at h2
    · exact h3.2

set_option maxRecDepth 100000 in
set_option maxHeartbeats 1000000 in
theorem weigh_any (lns : List Tm.Ln) (bm : Nat) (vr : Value) (q : List Int) (w : World) (hrd : NodesRd w bm lns) (hr : Reads w vr 1 q.length (ints q)) (hq : 0 < q.length) (hrg : ∀ r ∈ q, 0 ≤ r ∧ r ≤ 1114111) (hl : q.length ≤ 3) (hn : lns.length ≤ 8192) (hf : ∀ o ∈ lns, Tm.Fit o) :
    Calls Tryz.prog 128 #[.map (some bm), vr] w fun e w' => ∃ v, e = .returned v ∧ Reads w' v 4 (Tm.weigh lns q).length (elsCells (Tm.weigh lns q)) ∧ Below w.heap.size w w' := by
  obtain ⟨r, rs, rfl⟩ : ∃ r rs, q = r :: rs := by
    cases q with
    | nil => simp at hq
    | cons x y => exact ⟨x, y, rfl⟩
  have hr0 := hrg r (by simp)
  obtain ⟨f, vp, vs, hmap, hfv, _, hs⟩ := hrd.at hr0.1
  obtain ⟨a, cap, rfl⟩ := hr.shape
  obtain ⟨g, off, rfl, hg, c0⟩ := hr.at (k := 0) (by simp)
  rw [Nat.add_zero] at c0
  have HMAP := hide hmap
  have HR := hide hr
  have HSQ := hide hs
  have HE := hide (elsFor_seqOf (lns := lns) (q := r :: rs))
  have hf1 := field_weighing
  have hle := seqsAt_le lns r
  have HFEW : Hid (∀ o ∈ Tm.seqsAt lns r, o.runes.length ≤ 1000000) := fun o ho => by have := (hf o (List.mem_filter.1 ho).1).few; omega
  have HEL := hide (fun e => seqOf_els hf (q := r :: rs) (e := e))
  clear hmap hr hs hrd hf
  have c0' : w.cell? ⟨g, off, none⟩ = some (.int .i64 r) := c0
  generalize hln : (r :: rs).length = ln at *
  have HLN := hide hln
  clear hln c0
  go_enter Tryz.func128, Tryz.ntmps128
  go_wp2_with (at_lookup; go_must (refine wpList_look rfl _ _ rfl bm lns.length f rfl HMAP.out r rfl (wf_rune hr0) _ hfv ?_))
  refine (of_any vs _ (Tm.seqsAt lns r) (r :: rs) _ HSQ.out (by rw [HLN.out]; exact HR.out) (by omega) HFEW.out (by rw [HLN.out]; omega)).mono ?_
  rintro e w1 ⟨v, rfl, hrd1, hb⟩
  have HB := hide hb
  have c1 : w1.cell? ⟨g, off, none⟩ = some (.int .i64 r) := by rw [hb.cell (p := ⟨g, off, none⟩) hg]; exact c0'
  have he : elsFor (Tm.seqsAt lns r) (r :: rs) = (Tm.seqOf lns (r :: rs)).getD [] := HE.out
  rw [he] at hrd1
  obtain ⟨a1, cap1, rfl⟩ := hrd1.shape
  have hz := hb.size
  cases hq : Tm.seqOf lns (r :: rs) with
  | some els =>
    rw [hq] at hrd1
    have hlen := HEL.out els hq
    have HRD1 := hide hrd1
    have hl1 : (Option.getD (some els) []).length = els.length := rfl
    have HW : Hid (Tm.weigh lns (r :: rs) = els) := by unfold Hid Tm.weigh; rw [hq]
    rw [hl1]
    rw [hl1] at HRD1
    have hp : decide (0 < (els.length : Int)) = true := by simp; omega
    clear hb hrd1 hl1
    go_wp2
    go_ret
    exact ⟨_, rfl, by rw [HW.out]; exact HRD1.out.below HB.out HRD1.out.2.1, HB.out⟩
  | none =>
    have HW : Hid (Tm.weigh lns (r :: rs) = Tm.implicit r) := by unfold Hid Tm.weigh; rw [hq]; rfl
    have hl1 : (Option.getD (none : Option (List Tm.El)) []).length = 0 := rfl
    rw [hl1]
    clear hb hrd1 hl1
    go_wp2_with fail
    refine (implicit_any r _ hr0).mono ?_
    rintro e w2 ⟨v, rfl, hrd2, hb2⟩
    have HR2 := hide hrd2
    have HB2 : Hid (Below w.heap.size w w2) := HB.out.trans (hb2.mono hz)
    obtain ⟨a2, cap2, rfl⟩ := hrd2.shape
    clear hb2 hrd2
    go_wp2
    go_ret
    exact ⟨_, rfl, by rw [HW.out]; exact HR2.out, HB2.out⟩
end Go.Proofs.YtmnjjjhmnhfapaaGreatDoor
