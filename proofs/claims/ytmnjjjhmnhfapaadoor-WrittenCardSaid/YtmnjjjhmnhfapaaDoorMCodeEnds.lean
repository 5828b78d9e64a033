import Derived.Test.YtmnjjjhmnhfapaaDoorMCodeHas
namespace Go.Proofs.YtmnjjjhmnhfapaaDoor
open Go.RowKit
theorem field_rank (c v u : Value) (w : World) : (Instr.field 141 (.agg #[c, v, u]) 0).run Tryd.prog w = .ok (.agg #[c]) w := by kernel_rfl
theorem field_makeup (c v u : Value) (w : World) : (Instr.field 141 (.agg #[c, v, u]) 1).run Tryd.prog w = .ok (.agg #[v]) w := by kernel_rfl
theorem field_weighing (c v u : Value) (w : World) : (Instr.field 141 (.agg #[c, v, u]) 2).run Tryd.prog w = .ok (.agg #[u]) w := by kernel_rfl
theorem field_parts (a : Option Addr) (n m : Nat) (w : World) : (Instr.field 136 (.agg #[.slice a n m]) 0).run Tryd.prog w = .ok (.slice a n m) w := by kernel_rfl
end Go.Proofs.YtmnjjjhmnhfapaaDoor
namespace Go.Proofs.YtmnjjjhmnhfapaaDoor
open Go.RowKit

/-- The map of nodes, as it is read. -/
def NodesRd (w : World) (bm : Nat) (lns : List Tm.Ln) : Prop :=
  ∃ f, MapIs w bm lns.length f ∧ ∀ r, 0 ≤ r → ∃ vp vs, f r = .agg #[.int .i64 (Tm.classOf lns r), vp, vs] ∧ Reads w vp 1 (Tm.parts lns r).length (ints (Tm.parts lns r)) ∧ SeqsRd w vs (Tm.seqsAt lns r)
theorem Nd.rd {w : World} {col : Nat → Int} {base bm : Nat} {lns : List Tm.Ln} (h : Nd w col base bm lns) : NodesRd w bm lns := by
  obtain ⟨_, _, f, hf, hok⟩ := h
  refine ⟨f, hf, fun r hr => ?_⟩
  obtain ⟨vp, vs, he, hp, hs⟩ := hok r hr
  exact ⟨vp, vs, he, hp.1, hs.rd⟩
theorem Data.kept {w w' : World} {col : Nat → Int} {base : Nat} {v : Value} {size n : Nat} {xs : List Value} (h : Data w col v size n xs) (hlow : ∀ g, g < base → col g ≠ -1) (hs : w.heap.size ≤ w'.heap.size) (hb : ∀ g, base ≤ g → g < w.heap.size → w'.heap[g]? = w.heap[g]?) : Reads w' v size n xs :=
  h.1.of_blocks hs fun g hg => hb g (by
    apply Classical.byContradiction
    intro hn
    exact hlow g (by omega) (h.2 g hg)) (h.1.2.1 g hg)
/-- The nodes are read as they were, whatever was done below the draft. -/
theorem Nd.rd_kept {w w' : World} {col : Nat → Int} {base bm : Nat} {lns : List Tm.Ln} (h : Nd w col base bm lns) (hlow : ∀ g, g < base → col g ≠ -1) (hs : w.heap.size ≤ w'.heap.size) (hb : ∀ g, base ≤ g → g < w.heap.size → w'.heap[g]? = w.heap[g]?) (hm : w'.heap[bm]? = w.heap[bm]?) : NodesRd w' bm lns := by
  obtain ⟨_, _, f, hf, hok⟩ := h
  refine ⟨f, hf.same hm, fun r hr => ?_⟩
  obtain ⟨vp, vs, he, hp, xs, hl, hrow, hsq⟩ := hok r hr
  refine ⟨vp, vs, he, hp.kept hlow hs hb, ?_⟩
  have ho := ownsRow_same (w' := w') hrow.1 (fun g hg => hb g (hrow.1.lt g hg).1 (hrow.1.lt g hg).2)
  have hrd := Reads.of_owns ho
  refine ⟨hrd.2.1, ?_⟩
  obtain ⟨_, _, a, cap, rfl, hcap, hc⟩ := hrd
  refine ⟨a, cap, rfl, hcap, fun k hk => ?_⟩
  have hk' : k < xs.length := by omega
  obtain ⟨h1, h2⟩ := hsq k hk hk'
  obtain ⟨g, off, rfl, c0⟩ := hc (k * 2) _ (by have := seqCells_get2 hl hk hk' (f := 0) (by omega); simpa using this)
  obtain ⟨g1, off1, he, c1⟩ := hc (k * 2 + 1) _ (by have := seqCells_get2 hl hk hk' (f := 1) (by omega); simpa using this)
  cases he
  exact ⟨g, off, xs[k].1, xs[k].2, rfl, c0, c1, h1.kept hlow hs hb, h2.kept hlow hs hb⟩
theorem NodesRd.below {w w' : World} {bm : Nat} {lns : List Tm.Ln} (h : NodesRd w bm lns) (hb : Below w.heap.size w w') : NodesRd w' bm lns := by
  obtain ⟨f, hf, hok⟩ := h
  refine ⟨f, hf.same (hb.block bm hf.lt), fun r hr => ?_⟩
  obtain ⟨vp, vs, he, hp, hs⟩ := hok r hr
  exact ⟨vp, vs, he, hp.below hb hp.2.1, hs.below hb⟩
theorem NodesRd.at {w : World} {bm : Nat} {lns : List Tm.Ln} (h : NodesRd w bm lns) {r : Int} (hr : 0 ≤ r) :
    ∃ f vp vs, MapIs w bm lns.length f ∧ f r = .agg #[.int .i64 (Tm.classOf lns r), vp, vs] ∧ Reads w vp 1 (Tm.parts lns r).length (ints (Tm.parts lns r)) ∧ SeqsRd w vs (Tm.seqsAt lns r) := by
  obtain ⟨f, hf, hok⟩ := h
  obtain ⟨vp, vs, he, hp, hs⟩ := hok r hr
  exact ⟨f, vp, vs, hf, he, hp, hs⟩

theorem parts_range {lns : List Tm.Ln} (hf : ∀ o ∈ lns, Tm.Fit o) (r : Int) : ∀ x ∈ Tm.parts lns r, 0 ≤ x ∧ x ≤ 1114111 := by
  intro x hx
  unfold Tm.parts at hx
  split at hx
  · rename_i o ho
    exact (hf o (List.mem_of_find?_eq_some ho)).rune x (List.mem_of_mem_tail hx)
  · cases hx
theorem parts_few {lns : List Tm.Ln} (hf : ∀ o ∈ lns, Tm.Fit o) (r : Int) : (Tm.parts lns r).length ≤ 2 := by
  unfold Tm.parts
  split
  · rename_i o ho
    have := (hf o (List.mem_of_find?_eq_some ho)).few
    simp; omega
  · simp
theorem all_more {l : List Int} {p : Int → Bool} {k : Nat} (h : (l.take k).all p = true) (hk : k < l.length) (hx : p l[k] = true) : (l.take (k + 1)).all p = true := by
  rw [List.take_succ_eq_append_getElem hk, List.all_append, h]; simp [hx]
theorem all_less {l : List Int} {p : Int → Bool} {k : Nat} (hk : k < l.length) (hx : p l[k] = false) : l.all p = false := by
  rw [List.all_eq_false]; exact ⟨l[k], List.getElem_mem hk, by simp [hx]⟩

set_option maxRecDepth 100000 in
set_option maxHeartbeats 2000000 in
theorem endsWithin_any (lns : List Tm.Ln) (hfit : ∀ o ∈ lns, Tm.Fit o) (bm : Nat) : ∀ (n : Nat) (r : Int) (w : World), n ≤ 4 → NodesRd w bm lns → 0 ≤ r ∧ r ≤ 1114111 →
    Calls Tryd.prog 88 #[.map (some bm), .int .i64 n, .int .i64 r] w fun e w' => e = .returned (.bool (Tm.ends lns n r)) ∧ w' = w := by
  intro n
  induction n with
  | zero =>
    intro r w hn4 hrd hr
    have hf1 := field_makeup
    have hf2 := field_parts
    obtain ⟨f, vp, vs, hmap, hfv, hp, _⟩ := hrd.at hr.1
    have HMAP := hide hmap
    obtain ⟨a, cap, rfl⟩ := hp.shape
    clear hmap hp hrd
    have HE : Hid (Tm.ends lns 0 r = decide ((Tm.parts lns r).length = 0)) := rfl
    by_cases h0 : (Tm.parts lns r).length = 0
    · have hb : (((Tm.parts lns r).length : Int) == 0) = true := by rw [h0]; rfl
      go_enter Tryd.func88, Tryd.ntmps88
      go_wp2_with (at_lookup; go_must (refine wpList_look rfl _ _ rfl bm lns.length f rfl HMAP.out r rfl (wf_rune hr) _ hfv ?_))
      go_ret
      exact ⟨ret_bool (by rw [HE.out]; simp [h0]), rfl⟩
    · have hb : (((Tm.parts lns r).length : Int) == 0) = false := by rw [beq_eq_false_iff_ne]; omega
      go_enter Tryd.func88, Tryd.ntmps88
      go_wp2_with (at_lookup; go_must (refine wpList_look rfl _ _ rfl bm lns.length f rfl HMAP.out r rfl (wf_rune hr) _ hfv ?_))
      go_ret
      exact ⟨ret_bool (by rw [HE.out]; simp [h0]), rfl⟩
  | succ n ih =>
    intro r w hn4 hrd hr
    have hf1 := field_makeup
    have hf2 := field_parts
    obtain ⟨f, vp, vs, hmap, hfv, hp, _⟩ := hrd.at hr.1
    have HMAP := hide hmap
    have HP := hide hp
    have HRD := hide hrd
    have HIH := hide ih
    obtain ⟨a, cap, rfl⟩ := hp.shape
    have HRG := hide (parts_range hfit r)
    have hpf := parts_few hfit r
    clear hmap hp hrd ih
    have HE : Hid (Tm.ends lns (n + 1) r = (decide ((Tm.parts lns r).length = 0) || (Tm.parts lns r).all (Tm.ends lns n))) := rfl
    by_cases h0 : (Tm.parts lns r).length = 0
    · have hb : (((Tm.parts lns r).length : Int) == 0) = true := by rw [h0]; rfl
      go_enter Tryd.func88, Tryd.ntmps88
      go_wp2_with (at_lookup; go_must (refine wpList_look rfl _ _ rfl bm lns.length f rfl HMAP.out r rfl (wf_rune hr) _ hfv ?_))
      go_ret
      exact ⟨ret_bool (by rw [HE.out]; simp [h0]), rfl⟩
    · have hb : (((Tm.parts lns r).length : Int) == 0) = false := by rw [beq_eq_false_iff_ne]; omega
      obtain ⟨m, hm⟩ : ∃ m : Int, ((n + 1 : Nat) : Int) = m := ⟨_, rfl⟩
      rw [hm]
      have HM : Hid (m - 1 = (n : Int)) := by unfold Hid; omega
      have hn0 : (m == 0) = false := by rw [beq_eq_false_iff_ne]; omega
      have hm1 : 1 ≤ m := by omega
      have hm2 : m ≤ 5 := by omega
      clear hm
      go_enter Tryd.func88, Tryd.ntmps88
      go_wp2_with (at_lookup; go_must (refine wpList_look rfl _ _ rfl bm lns.length f rfl HMAP.out r rfl (wf_rune hr) _ hfv ?_))
      go_loop [22] (fun i => ∃ k : Nat, k ≤ (Tm.parts lns r).length ∧ i = .int .i64 k ∧ ((Tm.parts lns r).take k).all (Tm.ends lns n) = true) (fun i => (Tm.parts lns r).length - (intOf i).toNat)
      case atStart => exact ⟨0, Nat.zero_le _, rfl, rfl⟩
      case round =>
        obtain ⟨k, hk, rfl, hall⟩ := hrel
        by_cases hlt : k < (Tm.parts lns r).length
        · obtain ⟨g, off, rfl, hg, hc⟩ := HP.out.at hlt
          have hx := HRG.out _ (List.getElem_mem hlt)
          have HS := hide (fun hx => all_more (p := Tm.ends lns n) hall hlt hx)
          have HF := hide (fun hx => all_less (p := Tm.ends lns n) hlt hx)
          generalize (Tm.parts lns r)[k] = x at *
          clear hall
          go_wp2_with fail
          rw [HM.out]
          refine (HIH.out x _ (by omega) HRD.out hx).mono ?_
          rintro e w' ⟨rfl, rfl⟩
          cases hex : Tm.ends lns n x
          · have HN : Hid (Tm.ends lns (n + 1) r = false) := by unfold Hid; rw [HE.out, HF.out hex]; simp [h0]
            clear hex HS HF
            go_wp2
            go_ret
            exact ⟨ret_bool HN.out.symm, rfl⟩
          · have HS' := hide (HS.out hex)
            clear hex HS HF
            go_wp2
            go_round
            case rel => exact ⟨k + 1, by omega, by go_num, HS'.out⟩
            case measure => simp [intOf]; omega
        · have HY : Hid (Tm.ends lns (n + 1) r = true) := by
            rw [List.take_of_length_le (by omega)] at hall
            unfold Hid
            rw [HE.out, hall]; simp
          clear hall
          go_wp2
          go_ret
          exact ⟨ret_bool HY.out.symm, rfl⟩
end Go.Proofs.YtmnjjjhmnhfapaaDoor
