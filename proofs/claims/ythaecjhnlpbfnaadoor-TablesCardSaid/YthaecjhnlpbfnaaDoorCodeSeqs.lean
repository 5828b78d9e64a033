import Derived.Test.YthaecjhnlpbfnaaDoorCodeEnds
import Derived.Test.YthaecjhnlpbfnaaDoorStepApp
namespace Go.Proofs.YthaecjhnlpbfnaaDoor
open Go.RowKit

theorem seqOf_some {lns : List Tm.Ln} {q : List Int} : ((Tm.seqsAt lns (q.getD 0 0)).any fun o => decide (o.runes = q)) = !(Tm.seqOf lns q).isNone := by
  unfold Tm.seqsAt Tm.seqOf
  rw [List.any_filter]
  have e : (fun o => Tm.isHead (q.getD 0 0) o && decide (o.runes = q)) = Tm.isSeq q := by
    funext o
    unfold Tm.isHead Tm.isSeq
    by_cases h : o.runes = q
    · subst h; simp
    · simp [h]
  rw [e]
  cases h : lns.find? (Tm.isSeq q) with
  | none =>
    have := List.find?_eq_none.1 h
    simp only [Option.map_none, Option.isNone_none, Bool.not_true]
    rw [List.any_eq_false]; exact this
  | some o =>
    simp only [Option.map_some, Option.isNone_some, Bool.not_false]
    exact List.any_eq_true.2 ⟨o, List.mem_of_find?_eq_some h, List.find?_some h⟩

set_option maxRecDepth 100000 in
set_option maxHeartbeats 1000000 in
theorem hasSequence_any (lns : List Tm.Ln) (bm : Nat) (vr : Value) (q : List Int) (w : World) (hrd : NodesRd w bm lns) (hr : Reads w vr 1 q.length (ints q)) (hq : 0 < q.length) (hrg : ∀ r ∈ q, 0 ≤ r ∧ r ≤ 1114111) (hl : q.length ≤ 3) (hn : lns.length ≤ 8192) (hf : ∀ o ∈ lns, Tm.Fit o) :
    Calls Tryd.prog 77 #[.map (some bm), vr] w fun e w' => e = .returned (.bool (!(Tm.seqOf lns q).isNone)) ∧ Below w.heap.size w w' := by
  obtain ⟨r, rs, rfl⟩ : ∃ r rs, q = r :: rs := by
    cases q with
    | nil => simp at hq
    | cons x y => exact ⟨x, y, rfl⟩
  have hr0 := hrg r (by simp)
  obtain ⟨f, vp, vs, hmap, hfv, _, hs⟩ := hrd.at hr0.1
  obtain ⟨a, cap, rfl⟩ := hr.shape
  obtain ⟨g, off, rfl, hg, c0⟩ := hr.at (k := 0) (by simp)
  rw [Nat.add_zero] at c0
  have HMAP := hide hmap
  have HR := hide hr
  have HSQ := hide hs
  have HE := hide (seqOf_some (lns := lns) (q := r :: rs))
  have hf1 := field_weighing
  have hle := seqsAt_le lns r
  have HFEW : Hid (∀ o ∈ Tm.seqsAt lns r, o.runes.length ≤ 1000000) := fun o ho => by have := (hf o (List.mem_filter.1 ho).1).few; omega
  have HELS := hide (seqs_els hf (r := r))
  clear hmap hr hs hrd hf
  have c0' : w.cell? ⟨g, off, none⟩ = some (.int .i64 r) := c0
  generalize hln : (r :: rs).length = ln at *
  have HLN := hide hln
  clear hln c0
  go_enter Tryd.func77, Tryd.ntmps77
  go_wp2_with (at_lookup; go_must (refine wpList_look rfl _ _ rfl bm lns.length f rfl HMAP.out r rfl (wf_rune hr0) _ hfv ?_))
  refine (has_any vs _ (Tm.seqsAt lns r) (r :: rs) _ HSQ.out (by rw [HLN.out]; exact HR.out) (by omega) HFEW.out (by rw [HLN.out]; omega) HELS.out).mono ?_
  rintro e w1 ⟨rfl, hb⟩
  have HB := hide hb
  clear hb
  go_wp2
  go_ret
  exact ⟨ret_bool HE.out, HB.out⟩
theorem Reads.two {w : World} {g off n cap : Nat} {l : List Int} (h : Reads w (.slice (some ⟨g, off, none⟩) n cap) 1 l.length (ints l)) {k : Nat} (hk : k ≤ l.length) :
    Reads w (.slice (some ⟨g, off, none⟩) k cap) 1 (l.take k).length (ints (l.take k)) := by
  obtain ⟨h1, hlt, a, cap', he, hcap, hc⟩ := h
  cases he
  have hlen : (l.take k).length = k := by simp; omega
  refine ⟨by rw [ints_length]; omega, fun g' hg' => hlt g' (by simpa [Value.ownBlock] using hg'), _, _, by rw [hlen], ⟨by omega, by omega⟩, fun j u hu => ?_⟩
  have hj : (ints l)[j]? = some u := by
    have : j < (l.take k).length := by
      by_cases e : j < (l.take k).length
      · exact e
      · rw [List.getElem?_eq_none (by rw [ints_length]; omega)] at hu; cases hu
    rw [← hu]
    simp only [ints, List.getElem?_map, List.getElem?_take]
    rw [if_pos (by omega)]
  obtain ⟨g', off', he, hcell⟩ := hc j u hj
  cases he
  exact ⟨g, off, rfl, hcell⟩

end Go.Proofs.YthaecjhnlpbfnaaDoor
