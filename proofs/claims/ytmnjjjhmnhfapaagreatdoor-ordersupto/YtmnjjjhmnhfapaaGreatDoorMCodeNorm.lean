import Derived.Test.YtmnjjjhmnhfapaaGreatDoorMLevels
import Derived.Test.YtmnjjjhmnhfapaaGreatDoorMRefRunes
import Derived.Test.YtmnjjjhmnhfapaaGreatDoorMRefNormalW
/-
  Plain facts on where a text stands.
-/
namespace Go.Proofs.YtmnjjjhmnhfapaaGreatDoor
namespace Tm

/-- No line has an element whose weights cannot be. -/
def Heavy (lns : List Ln) : Prop := ∀ o ∈ lns, ∀ e ∈ o.els, lightEl e = false
theorem readLines_heavy : ∀ (xs : List (List UInt8)) (lns l : List Ln) (n : Int), Heavy lns → readLines lns n xs = (l, none) → Heavy l
  | [], lns, l, n, h, e => by simp only [readLines, Prod.mk.injEq, and_true] at e; subst e; exact h
  | x :: r, lns, l, n, h, e => by
    unfold readLines at e
    split at e
    · exact readLines_heavy r lns l (n + 1) h e
    · split at e
      · simp at e
      · rename_i ln _
        split at e
        · simp at e
        · split at e
          · simp at e
          · rename_i h2
            refine readLines_heavy r (lns ++ [ln]) l (n + 1) (fun o ho => ?_) e
            rcases List.mem_append.1 ho with ho | ho
            · exact h o ho
            · rw [List.mem_singleton.1 ho]
              intro y hy
              cases hl : lightEl y
              · rfl
              · exact absurd (List.any_eq_true.2 ⟨y, hy, hl⟩) h2
theorem newTable_heavy {s : List UInt8} {st : Int} {lns : List Ln} (h : newTable s st = (lns, 0, 0)) : Heavy lns ∧ 1 ≤ st ∧ st ≤ 4 := by
  unfold newTable at h
  split at h
  · simp at h
  · rename_i hst
    split at h
    · simp at h
    · split at h
      · rename_i l n e heq
        simp at h
        obtain ⟨rfl, rfl, rfl⟩ := h
        -- an error is never 0
        exfalso
        revert heq
        suffices ∀ (xs : List (List UInt8)) (lns l : List Ln) (n m q : Int), readLines lns n xs = (l, some (m, q)) → q ≠ 0 by
          intro heq; exact this _ _ _ _ _ _ heq rfl
        intro xs
        induction xs with
        | nil => intro lns l n m q e; simp [readLines] at e
        | cons x r ih =>
          intro lns l n m q e
          unfold readLines at e
          split at e
          · exact ih _ _ _ _ _ e
          · split at e
            · simp at e; omega
            · split at e
              · simp at e; omega
              · split at e
                · simp at e; omega
                · exact ih _ _ _ _ _ e
      · rename_i l heq
        simp at h
        obtain ⟨rfl, _⟩ := h
        exact ⟨readLines_heavy _ _ _ _ (fun o ho => by cases ho) heq, by omega, by omega⟩

theorem weigh_var {lns : List Ln} (h : Heavy lns) (q : List Int) : ∀ x ∈ weigh lns q, x.v = true → x.p ≠ 0 := by
  intro x hx hv
  unfold weigh at hx
  split at hx
  · rename_i e he
    unfold seqOf at he
    cases hq : lns.find? (isSeq q) with
    | none => rw [hq] at he; cases he
    | some o =>
      rw [hq] at he
      injection he with he
      subst he
      have := h o (List.mem_of_find?_eq_some hq) x hx
      intro h0
      simp [lightEl, hv, h0] at this
  · simp [implicit] at hx
    rcases hx with rfl | rfl <;> cases hv
theorem elems_var {lns : List Ln} (h : Heavy lns) : ∀ (n : Nat) (l : List Int), ∀ x ∈ elems lns n l, x.v = true → x.p ≠ 0
  | 0, _, x, hx => by simp [elems] at hx
  | n + 1, l, x, hx => by
    unfold elems at hx
    split at hx
    · cases hx
    · rcases List.mem_append.1 hx with hx | hx
      · exact weigh_var h _ x hx
      · exact elems_var h n _ x hx
theorem elements_var {lns : List Ln} (h : Heavy lns) (l : List Int) : ∀ x ∈ elements lns l, x.v = true → x.p ≠ 0 := elems_var h _ l
theorem weigh_few' {lns : List Ln} (hf : ∀ o ∈ lns, Fit o) (q : List Int) : (weigh lns q).length ≤ 4 := by
  unfold weigh
  split
  · rename_i e he
    unfold seqOf at he
    cases hq : lns.find? (isSeq q) with
    | none => rw [hq] at he; cases he
    | some o =>
      rw [hq] at he
      injection he with he
      subst he
      exact (hf o (List.mem_of_find?_eq_some hq)).els
  · simp [implicit]
theorem elems_length {lns : List Ln} (hf : ∀ o ∈ lns, Fit o) : ∀ (n : Nat) (l : List Int), (elems lns n l).length ≤ 4 * n
  | 0, _ => by simp [elems]
  | n + 1, l => by
    unfold elems
    split
    · simp
    · have h1 := weigh_few' hf (grow lns (l.take (lead lns l)) [] (l.drop (lead lns l))).1
      have h2 := elems_length hf n (grow lns (l.take (lead lns l)) [] (l.drop (lead lns l))).2
      simp only [List.length_append]
      omega
theorem elements_length {lns : List Ln} (hf : ∀ o ∈ lns, Fit o) (l : List Int) : (elements lns l).length ≤ 4 * l.length := elems_length hf _ l
/-- Weights are numbers below 2^16. -/
def InW (x : El) : Prop := (0 ≤ x.p ∧ x.p ≤ 65535) ∧ (0 ≤ x.s ∧ x.s ≤ 65535) ∧ (0 ≤ x.t ∧ x.t ≤ 65535)
theorem weigh_in {lns : List Ln} (hf : ∀ o ∈ lns, Fit o) {q : List Int} (hq : 0 ≤ q.getD 0 0 ∧ q.getD 0 0 ≤ 1114111) : ∀ x ∈ weigh lns q, InW x := by
  intro x hx
  unfold weigh at hx
  split at hx
  · rename_i e he
    unfold seqOf at he
    cases hq : lns.find? (isSeq q) with
    | none => rw [hq] at he; cases he
    | some o =>
      rw [hq] at he
      injection he with he
      subst he
      exact (hf o (List.mem_of_find?_eq_some hq)).weight x hx
  · simp only [implicit, List.mem_cons, List.not_mem_nil, or_false] at hx
    rcases hx with rfl | rfl
    · refine ⟨⟨?_, ?_⟩, ⟨?_, ?_⟩, ⟨?_, ?_⟩⟩ <;> simp only <;> omega
    · refine ⟨⟨?_, ?_⟩, ⟨?_, ?_⟩, ⟨?_, ?_⟩⟩ <;> simp only <;> omega
theorem elems_in {lns : List Ln} (hf : ∀ o ∈ lns, Fit o) : ∀ (n : Nat) (l : List Int), (∀ r ∈ l, 0 ≤ r ∧ r ≤ 1114111) → ∀ x ∈ elems lns n l, InW x
  | 0, _, _, x, hx => by simp [elems] at hx
  | n + 1, l, hl, x, hx => by
    unfold elems at hx
    split at hx
    · cases hx
    · have hm := grow_mem lns (l.drop (lead lns l)) (l.take (lead lns l)) []
      rcases List.mem_append.1 hx with hx | hx
      · refine weigh_in hf ?_ x hx
        cases hg : (grow lns (l.take (lead lns l)) [] (l.drop (lead lns l))).1 with
        | nil => simp
        | cons y t =>
          have hy := (hm y).1 (by rw [hg]; simp)
          simp only [List.getD_cons_zero]
          rcases hy with hy | hy
          · exact hl y (List.mem_of_mem_take hy)
          · exact hl y (List.mem_of_mem_drop hy)
      · refine elems_in hf n _ (fun r hr => ?_) x hx
        rcases (hm r).2 hr with h | h
        · cases h
        · exact hl r (List.mem_of_mem_drop h)
theorem elements_in {lns : List Ln} (hf : ∀ o ∈ lns, Fit o) {l : List Int} (hl : ∀ r ∈ l, 0 ≤ r ∧ r ≤ 1114111) : ∀ x ∈ elements lns l, InW x := elems_in hf _ l hl
theorem nz_weights {x : Int} (h : 0 ≤ x ∧ x ≤ 65535) : Weights (nz x) := by
  intro y hy
  unfold nz at hy
  split at hy
  · cases hy
  · simp at hy; subst hy; omega
theorem lev_weights (sh : Bool) (k : Nat) : ∀ (l : List El) (bv : Bool), (∀ x ∈ l, InW x) → Weights (lev sh k bv l)
  | [], _, _ => by intro y hy; cases hy
  | e :: r, bv, h => by
    intro y hy
    rw [lev] at hy
    rcases List.mem_append.1 hy with hy | hy
    · have he := h e (by simp)
      have w1 := nz_weights he.1
      have w2 := nz_weights he.2.1
      have w3 := nz_weights he.2.2
      have w4 : Weights [65535] := by intro z hz; simp at hz; subst hz; omega
      have w0 : Weights [] := by intro z hz; cases hz
      split at hy
      · unfold shiftW at hy
        split at hy <;> split at hy
        · exact w0 y hy
        · exact w1 y hy
        · exact w0 y hy
        · exact w2 y hy
        · exact w0 y hy
        · exact w3 y hy
        · exact w1 y hy
        · split at hy
          · exact w0 y hy
          · exact w4 y hy
      · unfold plainW at hy
        split at hy
        · exact w1 y hy
        · exact w2 y hy
        · exact w3 y hy
        · exact w0 y hy
    · exact lev_weights sh k r _ (fun x hx => h x (by simp [hx])) y hy

theorem insr_mem {k : Int → Int} {x y : Int} {l : List Int} (h : y ∈ insr k x l) : y = x ∨ y ∈ l := by
  induction l with
  | nil => simp [insr] at h; exact .inl h
  | cons z r ih =>
    unfold insr at h
    split at h
    · rcases List.mem_cons.1 h with rfl | h
      · exact .inr (by simp)
      · rcases ih h with h | h
        · exact .inl h
        · exact .inr (by simp [h])
    · exact List.mem_cons.1 h
theorem ord_mem {k : Int → Int} {y : Int} : ∀ {l : List Int}, y ∈ ord k l → y ∈ l
  | [], h => h
  | x :: r, h => by
    rw [ord] at h
    rcases insr_mem h with rfl | h
    · simp
    · exact List.mem_cons_of_mem _ (ord_mem h)
end Tm

/-- Where a text stands: its levels, as many as the strength says, and its normal form. -/
def levels (lns : List Tm.Ln) (st : Int) (sh : Bool) (n : List Int) : List (List Int) := ([0, 1, 2, 3].map (Tm.level sh (Tm.elements lns n))).take st.toNat
def stands (lns : List Tm.Ln) (st : Int) (sh : Bool) (n : List Int) : List (List Int) := levels lns st sh n ++ [n]
theorem levels_length {lns : List Tm.Ln} {st : Int} {sh : Bool} {n : List Int} (h : 1 ≤ st ∧ st ≤ 4) : (levels lns st sh n).length = st.toNat := by
  unfold levels; rw [List.length_take]; simp; omega
theorem levels_weights {lns : List Tm.Ln} (hf : ∀ o ∈ lns, Tm.Fit o) {st : Int} {sh : Bool} {n : List Int} (hn : ∀ r ∈ n, 0 ≤ r ∧ r ≤ 1114111) : ∀ l ∈ levels lns st sh n, Tm.Weights l := by
  intro l hl
  have h := List.mem_of_mem_take hl
  obtain ⟨k, _, rfl⟩ := List.mem_map.1 h
  exact Tm.lev_weights sh k _ _ (Tm.elements_in hf hn)
/-- Keys stand in the order of texts. -/
theorem key_order {lns : List Tm.Ln} (hf : ∀ o ∈ lns, Tm.Fit o) {st : Int} {sh : Bool} (hst : 1 ≤ st ∧ st ≤ 4) {n m : List Int} (hn : ∀ r ∈ n, 0 ≤ r ∧ r ≤ 1114111) (hm : ∀ r ∈ m, 0 ≤ r ∧ r ≤ 1114111) :
    Tm.cmpB (Tm.keyLL (stands lns st sh n)) (Tm.keyLL (stands lns st sh m)) = Tm.cmpLL (stands lns st sh n) (stands lns st sh m) :=
  Tm.keyLL_cmp (by rw [levels_length hst, levels_length hst]) (levels_weights hf hn) (levels_weights hf hm) (fun x hx => by have := hn x hx; omega) (fun x hx => by have := hm x hx; omega)
/-- Texts stand at one place just if they have one normal form. -/
theorem stands_eq {lns : List Tm.Ln} {st : Int} {sh : Bool} {n m : List Int} : stands lns st sh n = stands lns st sh m ↔ n = m := by
  constructor
  · intro h
    have := congrArg List.getLast? h
    simpa [stands] using this
  · intro h; rw [h]
end Go.Proofs.YtmnjjjhmnhfapaaGreatDoor
namespace Go.Proofs.YtmnjjjhmnhfapaaGreatDoor
open Go.RowKit

theorem next_some {w : World} {r : Nat} {s : ByteArray} {pos : Nat} (hr : w.heap[r]? = some (.stringIter s pos)) (h : pos < s.size) :
    ∃ wn : World, (∀ ty, (Instr.next (.pointer (some ⟨r, 0, none⟩)) true ty).run Tryz.prog w = .ok (.tuple #[.bool true, .int .i64 pos, .int .i32 (Utf8.decode s pos).1]) wn) ∧ wn.heap.size = w.heap.size ∧ wn.heap[r]? = some (.stringIter s (pos + (Utf8.decode s pos).2)) ∧ (∀ k, k ≠ r → wn.heap[k]? = w.heap[k]?) ∧ wn.os = w.os ∧ wn.tape = w.tape ∧ wn.output = w.output := by
  have hlt := (Array.getElem?_eq_some_iff.1 hr).1
  refine ⟨{ w with heap := w.heap.setIfInBounds r (.stringIter s (pos + (Utf8.decode s pos).2)) }, fun ty => ?_, by simp, by simp [hlt], fun k hk => by simp only [Array.getElem?_setIfInBounds]; rw [if_neg (by omega)], rfl, rfl, rfl⟩
  simp only [Instr.next, getObj, setObj, Sem.run_bind, Sem.run, hr, Result.andThen, h, if_true]
  simp [goInt]
theorem next_none {w : World} {r : Nat} {s : ByteArray} {pos : Nat} (hr : w.heap[r]? = some (.stringIter s pos)) (h : ¬ pos < s.size) (ty : TypeId) :
    (Instr.next (.pointer (some ⟨r, 0, none⟩)) true ty).run Tryz.prog w = .ok (.tuple #[.bool false]) w := by
  simp [Instr.next, getObj, Sem.run, hr, h]

theorem flat_all {l m : List Int} {f : Int → List Int} : (l ++ m).flatMap f = l.flatMap f ++ m.flatMap f := List.flatMap_append
theorem expand_range {lns : List Tm.Ln} (hfit : ∀ o ∈ lns, Tm.Fit o) : ∀ (n : Nat) (r : Int), 0 ≤ r ∧ r ≤ 1114111 → ∀ x ∈ Tm.expand lns n r, 0 ≤ x ∧ x ≤ 1114111
  | 0, r, hr, x, hx => by simp [Tm.expand] at hx; subst hx; exact hr
  | n + 1, r, hr, x, hx => by
    rw [Tm.expand] at hx
    split at hx
    · simp at hx; subst hx; exact hr
    · obtain ⟨y, hy, hx⟩ := List.mem_flatMap.1 hx
      exact expand_range hfit n y (parts_range hfit r y hy) x hx
set_option maxRecDepth 100000 in
set_option maxHeartbeats 4000000 in
theorem normalForm_any (lns : List Tm.Ln) (hfit : ∀ o ∈ lns, Tm.Fit o) (hends : ∀ r, Tm.ends lns 4 r = true) (bm : Nat) (s : ByteArray) (w : World) (hs : s.size ≤ 64) (hrd : NodesRd w bm lns) :
    Calls Tryz.prog 86 #[.map (some bm), .string s] w fun e w' => ∃ v, e = .returned v ∧ w'.ownsRow (w.heap.size + 1) 3 1 v (normOf lns s).length (ints (normOf lns s)) ∧ Below w.heap.size w w' := by
  have HRD := hide hrd
  have HFIT := hide hfit
  have HENDS := hide hends
  clear hrd hends
  go_enter Tryz.func86, Tryz.ntmps86
  go_wp2_with fail
  have h0a : (w.iter s 0).heap[w.heap.size]? = some (.stringIter s 0) := World.iter_heap w s 0
  have h0b : Below w.heap.size w (w.iter s 0) := (Below.refl _ _).alloc (Nat.le_refl _) _
  have h0c : w.heap.size + 1 ≤ (w.iter s 0).heap.size := by simp [World.iter]
  have H0 := hide (And.intro h0a (And.intro h0b h0c))
  clear h0a h0b h0c
  have HSH := hide (Tm.flat_short (lns := lns) (fun q => parts_few hfit q) 4)
  go_loopw [5] (fun v wr => ∃ (pos : Nat) (ds : List Int), wr.heap[w.heap.size]? = some (.stringIter s pos) ∧ ds ++ runesFrom s s.size pos = runesOf s ∧ ds.length ≤ pos ∧ wr.ownsRow (w.heap.size + 1) 3 1 v (ds.flatMap (Tm.expand lns 4)).length (ints (ds.flatMap (Tm.expand lns 4))) ∧ Below w.heap.size w wr ∧ w.heap.size + 1 ≤ wr.heap.size) (fun _ wr => s.size - wr.iterPos w.heap.size)
  case atStart => exact ⟨0, [], H0.out.1, rfl, Nat.le_refl _, World.ownsRow_nil _ _ _ _, H0.out.2.1, H0.out.2.2⟩
  case round =>
    obtain ⟨pos, ds, hit, hds, hdl, hown, hb, hz⟩ := hrel
    have HIT := hide hit
    have HDS := hide hds
    have HO := hide hown
    have HB := hide hb
    have HIP : Hid (wr.iterPos w.heap.size = pos) := by unfold Hid World.iterPos; rw [hit]
    by_cases hp : pos < s.size
    · obtain ⟨wn, hnx, hnz, hnr, hno, n1, n2, n3⟩ := next_some hit hp
      have hw := decide_eq_true (p := True) trivial
      have hwd := decode_width s pos hp
      have hmost := decode_most s pos
      have HSTEP := hide (runesFrom_step hp)
      have HBn : Hid (Below w.heap.size w wn) := HB.out.trans ⟨n1, n2, n3, by omega, fun k hk => hno k (by omega)⟩
      have HOn := hide (ownsRow_same (w' := wn) HO.out (fun k hk => hno k (by have := (HO.out.lt k hk).1; omega)))
      have HNR := hide hnr
      have HNB : Hid (NB lns bm (w.heap.size + 1) wn) := ⟨w, HRD.out, HBn.out, by omega⟩
      have hlen : (ds.flatMap (Tm.expand lns 4)).length + 2 ^ 4 ≤ 100000 := by
        have h1 := HSH.out ds
        have h2 : ds.length ≤ 64 := by omega
        have h3 := Nat.mul_le_mul_right (2 ^ 4) h2
        omega
      obtain ⟨x, hx⟩ : ∃ x : Int, ((Utf8.decode s pos).1 : Int) = x := ⟨_, rfl⟩
      have hx0 : 0 ≤ x ∧ x ≤ 1114111 := by omega
      rw [hx] at hnx HSTEP
      generalize (Utf8.decode s pos).2 = wd at *
      clear hit hds hown hb hno n1 n2 n3 hnr hx hmost hw
      go_wp2_with fail
      refine (appendParts_any lns hfit bm (w.heap.size + 1) 4 x _ (ds.flatMap (Tm.expand lns 4)) wn (HENDS.out x) hx0 HNB.out HOn.out (by omega) hlen).mono ?_
      rintro e w3 ⟨v3, rfl, hown3, hb3⟩
      have hz3 := hb3.size
      have e1 : (ds ++ [x]).flatMap (Tm.expand lns 4) = ds.flatMap (Tm.expand lns 4) ++ Tm.expand lns 4 x := by rw [flat_all]; simp
      have HO3 : Hid (w3.ownsRow (w.heap.size + 1) 3 1 v3 ((ds ++ [x]).flatMap (Tm.expand lns 4)).length (ints ((ds ++ [x]).flatMap (Tm.expand lns 4)))) := by unfold Hid; rw [e1]; exact hown3
      have HIT3 : Hid (w3.heap[w.heap.size]? = some (.stringIter s (pos + wd))) := by unfold Hid; rw [hb3.block _ (by omega)]; exact HNR.out
      have HB3 : Hid (Below w.heap.size w w3) := HBn.out.trans (hb3.mono (by omega))
      have HDS3 : Hid (ds ++ [x] ++ runesFrom s s.size (pos + wd) = runesOf s) := by unfold Hid; rw [← HDS.out, HSTEP.out]; simp
      have HIP3 : Hid (w3.iterPos w.heap.size = pos + wd) := by unfold Hid World.iterPos; rw [HIT3.out]
      clear hown3 hb3 e1
      go_wp2
      go_roundw
      case rel => exact ⟨pos + wd, ds ++ [x], HIT3.out, HDS3.out, by simp; omega, HO3.out, HB3.out, by omega⟩
      case measure => rw [HIP3.out, HIP.out]; omega
    · have HE : Hid (ds = runesOf s) := by have h := hds; rw [runesFrom_end (by omega), List.append_nil] at h; exact h
      have hnx := fun ty => next_none hit hp ty
      have HNB : Hid (NB lns bm (w.heap.size + 1) wr) := ⟨w, HRD.out, HB.out, by omega⟩
      obtain ⟨xs, hxs⟩ : ∃ xs, ds.flatMap (Tm.expand lns 4) = xs := ⟨_, rfl⟩
      rw [hxs] at HO
      have HNO : Hid (normOf lns s = Tm.ord (Tm.classOf lns) xs) := by unfold Hid normOf; rw [← HE.out, hxs]
      have HXR : Hid (∀ x ∈ xs, 0 ≤ x ∧ x ≤ 1114111) := fun x hx => by
        rw [← hxs, HE.out] at hx
        obtain ⟨y, hy, hx⟩ := List.mem_flatMap.1 hx
        exact expand_range hfit 4 y (runesFrom_range y hy) x hx
      have hxl : xs.length ≤ 100000 := by
        have h1 := HSH.out ds
        have h2 : ds.length ≤ 64 := by have h := congrArg List.length hds; have h3 := runesFrom_short (s := s) (f := s.size) (pos := 0); simp [runesOf] at h; omega
        have h3 := Nat.mul_le_mul_right (2 ^ 4) h2
        rw [← hxs]; omega
      have hol := HO.out.2
      clear hit hds hown hb hxs
      rcases hol with ⟨hnil, hx0⟩ | ⟨g, cap, cur, hsl, _⟩
      · subst hnil
        have hxe : xs = [] := List.eq_nil_of_length_eq_zero hx0
        subst hxe
        have HN0 : Hid (normOf lns s = []) := HNO.out
        go_wp2_with fail
        refine (arrange_none bm _).mono ?_
        rintro e w3 ⟨rfl, rfl⟩
        go_wp2
        go_ret
        refine ⟨_, rfl, ?_, HB.out⟩
        rw [HN0.out]
        exact World.ownsRow_nil _ _ _ _
      · subst hsl
        go_wp2_with fail
        refine (arrange_any lns hfit bm (w.heap.size + 1) g cap xs _ HXR.out HNB.out HO.out hz hxl).mono ?_
        rintro e w3 ⟨rfl, hown3, hb3⟩
        have HF : Hid (w3.ownsRow (w.heap.size + 1) 3 1 (.slice (some ⟨g, 0, none⟩) xs.length cap) (normOf lns s).length (ints (normOf lns s))) := by unfold Hid; rw [HNO.out, Tm.ord_length]; exact hown3
        have HB3 : Hid (Below w.heap.size w w3) := HB.out.trans (hb3.mono (by omega))
        clear hown3 hb3
        go_wp2
        go_ret
        exact ⟨_, rfl, HF.out, HB3.out⟩

/-- What Normal answers. -/
def normAns (lns : List Tm.Ln) (s : ByteArray) (w : World) (e : Ending) (w' : World) : Prop :=
  if s.size ≤ 64 then ∃ v, e = .returned (.tuple #[v, .int .i64 0]) ∧ w'.ownsRow (w.heap.size + 1) 3 1 v (normOf lns s).length (ints (normOf lns s)) ∧ Below w.heap.size w w' else e = .returned (.tuple #[.slice none 0 0, .int .i64 7]) ∧ w' = w
set_option maxRecDepth 100000 in
theorem isLong_any (s : ByteArray) (w : World) : Calls Tryz.prog 84 #[.string s] w fun e w' => e = .returned (.bool (decide (64 < (s.size : Int)))) ∧ w' = w := by
  go_enter Tryz.func84, Tryz.ntmps84
  go_wp2
  go_ret
  exact ⟨rfl, rfl⟩
end Go.Proofs.YtmnjjjhmnhfapaaGreatDoor
