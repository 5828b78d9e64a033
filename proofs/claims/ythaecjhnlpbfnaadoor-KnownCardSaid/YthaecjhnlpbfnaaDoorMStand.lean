import Derived.Laws.RangeAny
import Derived.Test.YthaecjhnlpbfnaaDoorMOrder
import Derived.Test.YthaecjhnlpbfnaaDoorMLevels
/-
  The runes of a text, and its normal form, as plain functions.
-/
namespace Go.Proofs.YthaecjhnlpbfnaaDoor

theorem decode_width (s : ByteArray) (pos : Nat) (h : pos < s.size) : 1 ≤ (Utf8.decode s pos).2 := by
  by_cases ha : (s[pos]'h).toNat < 128
  · rw [decode_ascii s pos h ha]; exact Nat.le_refl _
  · exact (decode_high s pos h (by omega)).2
theorem decode_most (s : ByteArray) (pos : Nat) : (Utf8.decode s pos).1 ≤ 1114111 := by
  have hb : ∀ k, (s.get! (pos + k)).toNat < 256 := fun k => (s.get! (pos + k)).toNat_lt
  have h0 := hb 0; have h1 := hb 1; have h2 := hb 2; have h3 := hb 3
  simp only [Utf8.decode]
  repeat' split
  all_goals simp_all [Utf8.runeError, Utf8.valid]
  all_goals omega

/-- The runes of a text from a byte on. -/
def runesFrom (s : ByteArray) : Nat → Nat → List Int
  | 0, _ => []
  | f + 1, pos => if pos < s.size then ((Utf8.decode s pos).1 : Int) :: runesFrom s f (pos + (Utf8.decode s pos).2) else []
/-- The runes of a text. -/
def runesOf (s : ByteArray) : List Int := runesFrom s s.size 0
theorem runesFrom_end {s : ByteArray} {f pos : Nat} (h : s.size ≤ pos) : runesFrom s f pos = [] := by
  cases f with
  | zero => rfl
  | succ f => rw [runesFrom, if_neg (by omega)]
theorem runesFrom_fuel {s : ByteArray} : ∀ {f f' pos : Nat}, s.size ≤ pos + f → s.size ≤ pos + f' → runesFrom s f pos = runesFrom s f' pos
  | 0, f', pos, h, _ => by rw [runesFrom_end (by omega), runesFrom_end (by omega)]
  | f + 1, 0, pos, _, h' => by rw [runesFrom_end (by omega), runesFrom_end (by omega)]
  | f + 1, f' + 1, pos, h, h' => by
    rw [runesFrom, runesFrom]
    split
    · rename_i hp
      have := decode_width s pos hp
      rw [runesFrom_fuel (f := f) (f' := f') (by omega) (by omega)]
    · rfl
theorem runesFrom_step {s : ByteArray} {pos : Nat} (h : pos < s.size) : runesFrom s s.size pos = ((Utf8.decode s pos).1 : Int) :: runesFrom s s.size (pos + (Utf8.decode s pos).2) := by
  have e : runesFrom s s.size pos = runesFrom s (s.size + 1) pos := runesFrom_fuel (by omega) (by omega)
  rw [e, runesFrom, if_pos h]

theorem runesFrom_short {s : ByteArray} : ∀ {f pos : Nat}, (runesFrom s f pos).length ≤ s.size - pos
  | 0, pos => by simp [runesFrom]
  | f + 1, pos => by
    rw [runesFrom]
    split
    · rename_i h
      have h1 := decode_width s pos h
      have h2 := runesFrom_short (s := s) (f := f) (pos := pos + (Utf8.decode s pos).2)
      rw [List.length_cons]; omega
    · simp
theorem runesFrom_range {s : ByteArray} : ∀ {f pos : Nat}, ∀ x ∈ runesFrom s f pos, 0 ≤ x ∧ x ≤ 1114111
  | 0, pos, x, hx => by simp [runesFrom] at hx
  | f + 1, pos, x, hx => by
    rw [runesFrom] at hx
    split at hx
    · rcases List.mem_cons.1 hx with rfl | hx
      · have := decode_most s pos; omega
      · exact runesFrom_range x hx
    · cases hx

/-- The normal form of a text. -/
def normOf (lns : List Tm.Ln) (s : ByteArray) : List Int := Tm.ord (Tm.classOf lns) ((runesOf s).flatMap (Tm.expand lns 4))
end Go.Proofs.YthaecjhnlpbfnaaDoor
/-
  Plain facts on where a text stands.
-/
namespace Go.Proofs.YthaecjhnlpbfnaaDoor
namespace Tm

/-- No line has an element whose weights cannot be. -/
def Heavy (lns : List Ln) : Prop := ∀ o ∈ lns, ∀ e ∈ o.els, lightEl e = false
theorem readLines_heavy : ∀ (xs : List (List UInt8)) (lns l : List Ln) (n : Int), Heavy lns → readLines lns n xs = (l, none) → Heavy l
  | [], lns, l, n, h, e => by simp only [readLines, Prod.mk.injEq, and_true] at e; subst e; exact h
  | x :: r, lns, l, n, h, e => by
    unfold readLines at e
    split at e
    · exact readLines_heavy r lns l (n + 1) h e
    · split at e
      · simp at e
      · rename_i ln _
        split at e
        · simp at e
        · split at e
          · simp at e
          · rename_i h2
            refine readLines_heavy r (lns ++ [ln]) l (n + 1) (fun o ho => ?_) e
            rcases List.mem_append.1 ho with ho | ho
            · exact h o ho
            · rw [List.mem_singleton.1 ho]
              intro y hy
              cases hl : lightEl y
              · rfl
              · exact absurd (List.any_eq_true.2 ⟨y, hy, hl⟩) h2
theorem newTable_heavy {s : List UInt8} {st : Int} {lns : List Ln} (h : newTable s st = (lns, 0, 0)) : Heavy lns ∧ 1 ≤ st ∧ st ≤ 4 := by
  unfold newTable at h
  split at h
  · simp at h
  · rename_i hst
    split at h
    · simp at h
    · split at h
      · rename_i l n e heq
        simp at h
        obtain ⟨rfl, rfl, rfl⟩ := h
        -- an error is never 0
        exfalso
        revert heq
        suffices ∀ (xs : List (List UInt8)) (lns l : List Ln) (n m q : Int), readLines lns n xs = (l, some (m, q)) → q ≠ 0 by
          intro heq; exact this _ _ _ _ _ _ heq rfl
        intro xs
        induction xs with
        | nil => intro lns l n m q e; simp [readLines] at e
        | cons x r ih =>
          intro lns l n m q e
          unfold readLines at e
          split at e
          · exact ih _ _ _ _ _ e
          · split at e
            · simp at e; omega
            · split at e
              · simp at e; omega
              · split at e
                · simp at e; omega
                · exact ih _ _ _ _ _ e
      · rename_i l heq
        simp at h
        obtain ⟨rfl, _⟩ := h
        exact ⟨readLines_heavy _ _ _ _ (fun o ho => by cases ho) heq, by omega, by omega⟩

theorem weigh_var {lns : List Ln} (h : Heavy lns) (q : List Int) : ∀ x ∈ weigh lns q, x.v = true → x.p ≠ 0 := by
  intro x hx hv
  unfold weigh at hx
  split at hx
  · rename_i e he
    unfold seqOf at he
    cases hq : lns.find? (isSeq q) with
    | none => rw [hq] at he; cases he
    | some o =>
      rw [hq] at he
      injection he with he
      subst he
      have := h o (List.mem_of_find?_eq_some hq) x hx
      intro h0
      simp [lightEl, hv, h0] at this
  · simp [implicit] at hx
    rcases hx with rfl | rfl <;> cases hv
theorem elems_var {lns : List Ln} (h : Heavy lns) : ∀ (n : Nat) (l : List Int), ∀ x ∈ elems lns n l, x.v = true → x.p ≠ 0
  | 0, _, x, hx => by simp [elems] at hx
  | n + 1, l, x, hx => by
    unfold elems at hx
    split at hx
    · cases hx
    · rcases List.mem_append.1 hx with hx | hx
      · exact weigh_var h _ x hx
      · exact elems_var h n _ x hx
theorem elements_var {lns : List Ln} (h : Heavy lns) (l : List Int) : ∀ x ∈ elements lns l, x.v = true → x.p ≠ 0 := elems_var h _ l
theorem weigh_few' {lns : List Ln} (hf : ∀ o ∈ lns, Fit o) (q : List Int) : (weigh lns q).length ≤ 4 := by
  unfold weigh
  split
  · rename_i e he
    unfold seqOf at he
    cases hq : lns.find? (isSeq q) with
    | none => rw [hq] at he; cases he
    | some o =>
      rw [hq] at he
      injection he with he
      subst he
      exact (hf o (List.mem_of_find?_eq_some hq)).els
  · simp [implicit]
theorem elems_length {lns : List Ln} (hf : ∀ o ∈ lns, Fit o) : ∀ (n : Nat) (l : List Int), (elems lns n l).length ≤ 4 * n
  | 0, _ => by simp [elems]
  | n + 1, l => by
    unfold elems
    split
    · simp
    · have h1 := weigh_few' hf (grow lns (l.take (lead lns l)) [] (l.drop (lead lns l))).1
      have h2 := elems_length hf n (grow lns (l.take (lead lns l)) [] (l.drop (lead lns l))).2
      simp only [List.length_append]
      omega
theorem elements_length {lns : List Ln} (hf : ∀ o ∈ lns, Fit o) (l : List Int) : (elements lns l).length ≤ 4 * l.length := elems_length hf _ l
/-- Weights are numbers below 2^16. -/
def InW (x : El) : Prop := (0 ≤ x.p ∧ x.p ≤ 65535) ∧ (0 ≤ x.s ∧ x.s ≤ 65535) ∧ (0 ≤ x.t ∧ x.t ≤ 65535)
theorem weigh_in {lns : List Ln} (hf : ∀ o ∈ lns, Fit o) {q : List Int} (hq : 0 ≤ q.getD 0 0 ∧ q.getD 0 0 ≤ 1114111) : ∀ x ∈ weigh lns q, InW x := by
  intro x hx
  unfold weigh at hx
  split at hx
  · rename_i e he
    unfold seqOf at he
    cases hq : lns.find? (isSeq q) with
    | none => rw [hq] at he; cases he
    | some o =>
      rw [hq] at he
      injection he with he
      subst he
      exact (hf o (List.mem_of_find?_eq_some hq)).weight x hx
  · simp only [implicit, List.mem_cons, List.not_mem_nil, or_false] at hx
    rcases hx with rfl | rfl
    · refine ⟨⟨?_, ?_⟩, ⟨?_, ?_⟩, ⟨?_, ?_⟩⟩ <;> simp only <;> omega
    · refine ⟨⟨?_, ?_⟩, ⟨?_, ?_⟩, ⟨?_, ?_⟩⟩ <;> simp only <;> omega
theorem elems_in {lns : List Ln} (hf : ∀ o ∈ lns, Fit o) : ∀ (n : Nat) (l : List Int), (∀ r ∈ l, 0 ≤ r ∧ r ≤ 1114111) → ∀ x ∈ elems lns n l, InW x
  | 0, _, _, x, hx => by simp [elems] at hx
  | n + 1, l, hl, x, hx => by
    unfold elems at hx
    split at hx
    · cases hx
    · have hm := grow_mem lns (l.drop (lead lns l)) (l.take (lead lns l)) []
      rcases List.mem_append.1 hx with hx | hx
      · refine weigh_in hf ?_ x hx
        cases hg : (grow lns (l.take (lead lns l)) [] (l.drop (lead lns l))).1 with
        | nil => simp
        | cons y t =>
          have hy := (hm y).1 (by rw [hg]; simp)
          simp only [List.getD_cons_zero]
          rcases hy with hy | hy
          · exact hl y (List.mem_of_mem_take hy)
          · exact hl y (List.mem_of_mem_drop hy)
      · refine elems_in hf n _ (fun r hr => ?_) x hx
        rcases (hm r).2 hr with h | h
        · cases h
        · exact hl r (List.mem_of_mem_drop h)
theorem elements_in {lns : List Ln} (hf : ∀ o ∈ lns, Fit o) {l : List Int} (hl : ∀ r ∈ l, 0 ≤ r ∧ r ≤ 1114111) : ∀ x ∈ elements lns l, InW x := elems_in hf _ l hl
theorem nz_weights {x : Int} (h : 0 ≤ x ∧ x ≤ 65535) : Weights (nz x) := by
  intro y hy
  unfold nz at hy
  split at hy
  · cases hy
  · simp at hy; subst hy; omega
theorem lev_weights (sh : Bool) (k : Nat) : ∀ (l : List El) (bv : Bool), (∀ x ∈ l, InW x) → Weights (lev sh k bv l)
  | [], _, _ => by intro y hy; cases hy
  | e :: r, bv, h => by
    intro y hy
    rw [lev] at hy
    rcases List.mem_append.1 hy with hy | hy
    · have he := h e (by simp)
      have w1 := nz_weights he.1
      have w2 := nz_weights he.2.1
      have w3 := nz_weights he.2.2
      have w4 : Weights [65535] := by intro z hz; simp at hz; subst hz; omega
      have w0 : Weights [] := by intro z hz; cases hz
      split at hy
      · unfold shiftW at hy
        split at hy <;> split at hy
        · exact w0 y hy
        · exact w1 y hy
        · exact w0 y hy
        · exact w2 y hy
        · exact w0 y hy
        · exact w3 y hy
        · exact w1 y hy
        · split at hy
          · exact w0 y hy
          · exact w4 y hy
      · unfold plainW at hy
        split at hy
        · exact w1 y hy
        · exact w2 y hy
        · exact w3 y hy
        · exact w0 y hy
    · exact lev_weights sh k r _ (fun x hx => h x (by simp [hx])) y hy

theorem insr_mem {k : Int → Int} {x y : Int} {l : List Int} (h : y ∈ insr k x l) : y = x ∨ y ∈ l := by
  induction l with
  | nil => simp [insr] at h; exact .inl h
  | cons z r ih =>
    unfold insr at h
    split at h
    · rcases List.mem_cons.1 h with rfl | h
      · exact .inr (by simp)
      · rcases ih h with h | h
        · exact .inl h
        · exact .inr (by simp [h])
    · exact List.mem_cons.1 h
theorem ord_mem {k : Int → Int} {y : Int} : ∀ {l : List Int}, y ∈ ord k l → y ∈ l
  | [], h => h
  | x :: r, h => by
    rw [ord] at h
    rcases insr_mem h with rfl | h
    · simp
    · exact List.mem_cons_of_mem _ (ord_mem h)
end Tm

/-- Where a text stands: its levels, as many as the strength says, and its normal form. -/
def levels (lns : List Tm.Ln) (st : Int) (sh : Bool) (n : List Int) : List (List Int) := ([0, 1, 2, 3].map (Tm.level sh (Tm.elements lns n))).take st.toNat
def stands (lns : List Tm.Ln) (st : Int) (sh : Bool) (n : List Int) : List (List Int) := levels lns st sh n ++ [n]
theorem levels_length {lns : List Tm.Ln} {st : Int} {sh : Bool} {n : List Int} (h : 1 ≤ st ∧ st ≤ 4) : (levels lns st sh n).length = st.toNat := by
  unfold levels; rw [List.length_take]; simp; omega
theorem levels_weights {lns : List Tm.Ln} (hf : ∀ o ∈ lns, Tm.Fit o) {st : Int} {sh : Bool} {n : List Int} (hn : ∀ r ∈ n, 0 ≤ r ∧ r ≤ 1114111) : ∀ l ∈ levels lns st sh n, Tm.Weights l := by
  intro l hl
  have h := List.mem_of_mem_take hl
  obtain ⟨k, _, rfl⟩ := List.mem_map.1 h
  exact Tm.lev_weights sh k _ _ (Tm.elements_in hf hn)
/-- Keys stand in the order of texts. -/
theorem key_order {lns : List Tm.Ln} (hf : ∀ o ∈ lns, Tm.Fit o) {st : Int} {sh : Bool} (hst : 1 ≤ st ∧ st ≤ 4) {n m : List Int} (hn : ∀ r ∈ n, 0 ≤ r ∧ r ≤ 1114111) (hm : ∀ r ∈ m, 0 ≤ r ∧ r ≤ 1114111) :
    Tm.cmpB (Tm.keyLL (stands lns st sh n)) (Tm.keyLL (stands lns st sh m)) = Tm.cmpLL (stands lns st sh n) (stands lns st sh m) :=
  Tm.keyLL_cmp (by rw [levels_length hst, levels_length hst]) (levels_weights hf hn) (levels_weights hf hm) (fun x hx => by have := hn x hx; omega) (fun x hx => by have := hm x hx; omega)
/-- Texts stand at one place just if they have one normal form. -/
theorem stands_eq {lns : List Tm.Ln} {st : Int} {sh : Bool} {n m : List Int} : stands lns st sh n = stands lns st sh m ↔ n = m := by
  constructor
  · intro h
    have := congrArg List.getLast? h
    simpa [stands] using this
  · intro h; rw [h]
end Go.Proofs.YthaecjhnlpbfnaaDoor
