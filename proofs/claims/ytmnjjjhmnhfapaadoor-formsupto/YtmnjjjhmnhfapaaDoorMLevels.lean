import Derived.Test.YtmnjjjhmnhfapaaDoorMPlain
/-
  Plain facts on lists sorted by a key, equals in their order.
-/
namespace Go.Proofs.YtmnjjjhmnhfapaaDoor
namespace Tm

/-- Sorted by a key. -/
def Up (k : Int → Int) (l : List Int) : Prop := l.Pairwise fun a b => k a ≤ k b
/-- Of each key the same members, in the same order. -/
def Same (k : Int → Int) (l l' : List Int) : Prop := ∀ c, l.filter (fun x => k x == c) = l'.filter (fun x => k x == c)

theorem Same.refl (k : Int → Int) (l : List Int) : Same k l l := fun _ => rfl
theorem Same.symm {k : Int → Int} {l l' : List Int} (h : Same k l l') : Same k l' l := fun c => (h c).symm
theorem Same.trans {k : Int → Int} {a b c : List Int} (h : Same k a b) (h' : Same k b c) : Same k a c := fun x => (h x).trans (h' x)
theorem Same.append {k : Int → Int} {a a' b b' : List Int} (h : Same k a a') (h' : Same k b b') : Same k (a ++ b) (a' ++ b') := fun c => by
  rw [List.filter_append, List.filter_append, h c, h' c]
theorem Same.count {k : Int → Int} {l l' : List Int} (h : Same k l l') (x : Int) : l.count x = l'.count x := by
  have e : ∀ m : List Int, m.count x = (m.filter fun y => k y == k x).count x := fun m => by
    rw [List.count_filter (by simp)]
  rw [e l, e l', h]
theorem Same.perm {k : Int → Int} {l l' : List Int} (h : Same k l l') : l.Perm l' := List.perm_iff_count.2 h.count
theorem Same.length {k : Int → Int} {l l' : List Int} (h : Same k l l') : l.length = l'.length := h.perm.length_eq
theorem Same.mem {k : Int → Int} {l l' : List Int} (h : Same k l l') {x : Int} : x ∈ l ↔ x ∈ l' := h.perm.mem_iff

/-- One order alone. -/
theorem Up.unique {k : Int → Int} : ∀ {l l' : List Int}, Up k l → Up k l' → Same k l l' → l = l'
  | [], l', _, _, h => by
    have := h.length
    cases l' with
    | nil => rfl
    | cons b r => simp at this
  | a :: r, l', h1, h2, h => by
    cases l' with
    | nil => have := h.length; simp at this
    | cons b r' =>
      have h1' := List.pairwise_cons.1 h1
      have h2' := List.pairwise_cons.1 h2
      have hab : k a ≤ k b := by
        rcases List.mem_cons.1 (h.mem.2 (List.mem_cons_self (a := b) (l := r'))) with e | e
        · rw [e]; exact Int.le_refl _
        · exact h1'.1 b e
      have hba : k b ≤ k a := by
        rcases List.mem_cons.1 (h.mem.1 (List.mem_cons_self (a := a) (l := r))) with e | e
        · rw [e]; exact Int.le_refl _
        · exact h2'.1 a e
      have hk : k a = k b := by omega
      have hc := h (k a)
      rw [List.filter_cons, List.filter_cons, if_pos (by simp), if_pos (by simp [hk])] at hc
      have e := (List.cons.inj hc).1
      subst e
      congr 1
      refine Up.unique h1'.2 h2'.2 fun c => ?_
      have hc' := h c
      rw [List.filter_cons, List.filter_cons] at hc'
      split at hc'
      · exact (List.cons.inj hc').2
      · exact hc'

/-- Two parts that share no key may change places. -/
theorem Same.comm {k : Int → Int} {u v : List Int} (h : ∀ x ∈ u, ∀ y ∈ v, k x ≠ k y) : Same k (u ++ v) (v ++ u) := fun c => by
  rw [List.filter_append, List.filter_append]
  by_cases hu : u.filter (fun x => k x == c) = []
  · rw [hu]; simp
  · have hv : v.filter (fun x => k x == c) = [] := by
      rw [List.filter_eq_nil_iff]
      intro y hy hyc
      obtain ⟨x, hx⟩ := List.exists_mem_of_ne_nil _ hu
      obtain ⟨hxu, hxc⟩ := List.mem_filter.1 hx
      exact h x hxu y hy ((by simpa using hxc : k x = c).trans (by simpa using hyc : k y = c).symm)
    rw [hv]; simp
theorem Same.swap {k : Int → Int} {p q : List Int} {x y : Int} (h : k x ≠ k y) : Same k (p ++ x :: y :: q) (p ++ y :: x :: q) := by
  refine Same.append (Same.refl k p) ?_
  have := Same.append (Same.comm (k := k) (u := [x]) (v := [y]) (by simpa using h)) (Same.refl k q)
  simpa using this

theorem Up.append {k : Int → Int} {u v : List Int} : Up k (u ++ v) ↔ Up k u ∧ Up k v ∧ ∀ x ∈ u, ∀ y ∈ v, k x ≤ k y := by
  unfold Up; rw [List.pairwise_append]
theorem Up.same {k : Int → Int} {u u' v v' : List Int} (hu : Up k u') (hv : Up k v') (su : Same k u u') (sv : Same k v v') (h : ∀ x ∈ u, ∀ y ∈ v, k x ≤ k y) : Up k (u' ++ v') :=
  Up.append.2 ⟨hu, hv, fun x hx y hy => h x (su.mem.2 hx) y (sv.mem.2 hy)⟩

/-- What a sort, or a merge, makes of the middle of a list. -/
def Sorts (k : Int → Int) (s s' : List Int) : Prop := Up k s' ∧ Same k s s'
theorem Sorts.of_up {k : Int → Int} {s : List Int} (h : Up k s) : Sorts k s s := ⟨h, Same.refl _ _⟩

/-- Four parts: the two halves of a merge. -/
theorem Sorts.merge {k : Int → Int} {u1 u2 v1 v2 l r : List Int} (hl : Sorts k (u1 ++ v1) l) (hr : Sorts k (u2 ++ v2) r) (hu : Up k (u1 ++ u2)) (hv : Up k (v1 ++ v2)) (h1 : ∀ x ∈ v1, ∀ y ∈ u2, k x < k y) (h2 : ∀ x ∈ u1, ∀ y ∈ v2, k x ≤ k y) :
    Sorts k ((u1 ++ u2) ++ (v1 ++ v2)) (l ++ r) := by
  have hu' := Up.append.1 hu
  have hv' := Up.append.1 hv
  constructor
  · refine Up.same hl.1 hr.1 hl.2 hr.2 ?_
    intro x hx y hy
    rcases List.mem_append.1 hx with hx | hx <;> rcases List.mem_append.1 hy with hy | hy
    · exact hu'.2.2 x hx y hy
    · exact h2 x hx y hy
    · exact Int.le_of_lt (h1 x hx y hy)
    · exact hv'.2.2 x hx y hy
  · have e : Same k (u2 ++ v1) (v1 ++ u2) := Same.comm fun x hx y hy => by have := h1 y hy x hx; omega
    have e2 : Same k ((u1 ++ u2) ++ (v1 ++ v2)) ((u1 ++ v1) ++ (u2 ++ v2)) := by
      have := Same.append (Same.append (Same.refl k u1) e) (Same.refl k v2)
      simpa [List.append_assoc] using this
    exact e2.trans (hl.2.append hr.2)
end Tm
end Go.Proofs.YtmnjjjhmnhfapaaDoor
namespace Go.Proofs.YtmnjjjhmnhfapaaDoor
namespace Tm
/-- One more, put in its place. -/
theorem Sorts.insert {k : Int → Int} {t s q1 q2 : List Int} {x : Int} (h : Sorts k t s) (hs : s = q1 ++ q2) (h1 : ∀ y ∈ q1, k y ≤ k x) (h2 : ∀ y ∈ q2, k x < k y) : Sorts k (t ++ [x]) (q1 ++ x :: q2) := by
  subst hs
  have hu := Up.append.1 h.1
  constructor
  · refine Up.append.2 ⟨hu.1, List.pairwise_cons.2 ⟨fun y hy => Int.le_of_lt (h2 y hy), hu.2.1⟩, fun a ha b hb => ?_⟩
    rcases List.mem_cons.1 hb with rfl | hb
    · exact h1 a ha
    · exact hu.2.2 a ha b hb
  · have e : Same k (t ++ [x]) ((q1 ++ q2) ++ [x]) := h.2.append (Same.refl _ _)
    have e2 : Same k (q2 ++ [x]) ([x] ++ q2) := Same.comm fun a ha b hb => by
      simp at hb; subst hb
      have := h2 a ha; omega
    refine e.trans ?_
    have := Same.append (Same.refl k q1) e2
    simpa [List.append_assoc] using this
/-- What lies ahead of a place is not above what the last of it is not above. -/
theorem Up.last_le {k : Int → Int} {q : List Int} {y x : Int} (h : Up k (q ++ [y])) (hy : k y ≤ k x) : ∀ z ∈ q ++ [y], k z ≤ k x := by
  intro z hz
  have hu := Up.append.1 h
  rcases List.mem_append.1 hz with hz | hz
  · have := hu.2.2 z hz y (by simp); omega
  · simp at hz; subst hz; exact hy
end Tm
end Go.Proofs.YtmnjjjhmnhfapaaDoor
namespace Go.Proofs.YtmnjjjhmnhfapaaDoor
namespace Tm
theorem Up.take_lt {k : Int → Int} {v : List Int} {i : Nat} {x : Int} (h : Up k v) (hi : i < v.length) (hx : k v[i] < k x) : ∀ y ∈ v.take (i + 1), k y < k x := by
  intro y hy
  rw [List.take_succ_eq_append_getElem hi] at hy
  rcases List.mem_append.1 hy with hy | hy
  · have hu : Up k (v.take i ++ v.drop i) := by rw [List.take_append_drop]; exact h
    have := (Up.append.1 hu).2.2 y hy v[i] (by rw [List.drop_eq_getElem_cons hi]; exact List.mem_cons_self)
    omega
  · simp at hy; subst hy; exact hx
theorem Up.take_le {k : Int → Int} {v : List Int} {i : Nat} {x : Int} (h : Up k v) (hi : i < v.length) (hx : k v[i] ≤ k x) : ∀ y ∈ v.take (i + 1), k y ≤ k x := by
  intro y hy
  rw [List.take_succ_eq_append_getElem hi] at hy
  rcases List.mem_append.1 hy with hy | hy
  · have hu : Up k (v.take i ++ v.drop i) := by rw [List.take_append_drop]; exact h
    have := (Up.append.1 hu).2.2 y hy v[i] (by rw [List.drop_eq_getElem_cons hi]; exact List.mem_cons_self)
    omega
  · simp at hy; subst hy; exact hx
theorem Up.drop_le {k : Int → Int} {v : List Int} {i : Nat} {x : Int} (h : Up k v) (hi : i < v.length) (hx : k x ≤ k v[i]) : ∀ y ∈ v.drop i, k x ≤ k y := by
  intro y hy
  rw [List.drop_eq_getElem_cons hi] at hy
  rcases List.mem_cons.1 hy with rfl | hy
  · exact hx
  · have hu : Up k (v.take i ++ v.drop i) := by rw [List.take_append_drop]; exact h
    have hd := (Up.append.1 hu).2.1
    rw [List.drop_eq_getElem_cons hi] at hd
    have := (List.pairwise_cons.1 hd).1 y hy
    omega
theorem Up.drop_lt {k : Int → Int} {v : List Int} {i : Nat} {x : Int} (h : Up k v) (hi : i < v.length) (hx : k x < k v[i]) : ∀ y ∈ v.drop i, k x < k y := by
  intro y hy
  have := h.drop_le (x := v[i]) hi (Int.le_refl _) y hy
  omega
end Tm
end Go.Proofs.YtmnjjjhmnhfapaaDoor
namespace Go.Proofs.YtmnjjjhmnhfapaaDoor
namespace Tm
/-- Where two sorted lists are parted so that no member of the left halves is above one of the right ones. -/
theorem Up.split {k : Int → Int} {u v : List Int} {T E : Nat} (hu : Up k u) (hv : Up k v) (h1 : T < u.length → 0 < E → E ≤ v.length → k (v.getD (E - 1) 0) < k (u.getD T 0)) (h2 : 0 < T → T ≤ u.length → E < v.length → k (u.getD (T - 1) 0) ≤ k (v.getD E 0)) (hT : T ≤ u.length) (hE : E ≤ v.length) :
    (∀ x ∈ v.take E, ∀ y ∈ u.drop T, k x < k y) ∧ (∀ x ∈ u.take T, ∀ y ∈ v.drop E, k x ≤ k y) := by
  constructor
  · intro x hx y hy
    have hE0 : 0 < E := by
      cases E with
      | zero => simp at hx
      | succ n => omega
    have hTu : T < u.length := by
      apply Classical.byContradiction
      intro hn
      rw [List.drop_eq_nil_of_le (by omega)] at hy
      cases hy
    have h := h1 hTu hE0 hE
    have hE1 : E - 1 < v.length := by omega
    rw [List.getD_eq_getElem?_getD, List.getD_eq_getElem?_getD, List.getElem?_eq_getElem hE1, List.getElem?_eq_getElem hTu] at h
    simp only [Option.getD_some] at h
    have a1 := hv.take_le (x := v[E - 1]) hE1 (Int.le_refl _) x (by rw [show E - 1 + 1 = E from by omega]; exact hx)
    have a2 := hu.drop_le (x := u[T]) hTu (Int.le_refl _) y hy
    omega
  · intro x hx y hy
    have hT0 : 0 < T := by
      cases T with
      | zero => simp at hx
      | succ n => omega
    have hEv : E < v.length := by
      apply Classical.byContradiction
      intro hn
      rw [List.drop_eq_nil_of_le (by omega)] at hy
      cases hy
    have h := h2 hT0 hT hEv
    have hT1 : T - 1 < u.length := by omega
    rw [List.getD_eq_getElem?_getD, List.getD_eq_getElem?_getD, List.getElem?_eq_getElem hT1, List.getElem?_eq_getElem hEv] at h
    simp only [Option.getD_some] at h
    have a1 := hu.take_le (x := u[T - 1]) hT1 (Int.le_refl _) x (by rw [show T - 1 + 1 = T from by omega]; exact hx)
    have a2 := hv.drop_le (x := v[E]) hEv (Int.le_refl _) y hy
    omega
end Tm
end Go.Proofs.YtmnjjjhmnhfapaaDoor
/-
  Plain facts on the order of marks, and on the parts of runes.
-/
namespace Go.Proofs.YtmnjjjhmnhfapaaDoor
namespace Tm

/-- A rune put ahead of others: it passes each mark whose class is smaller. -/
def insr (k : Int → Int) (x : Int) : List Int → List Int
  | [] => [x]
  | y :: t => if k y ≠ 0 ∧ k y < k x then y :: insr k x t else x :: y :: t
/-- The marks in the order of their classes. -/
def ord (k : Int → Int) : List Int → List Int
  | [] => []
  | x :: r => insr k x (ord k r)
theorem insr_length (k : Int → Int) (x : Int) (l : List Int) : (insr k x l).length = l.length + 1 := by
  induction l with
  | nil => rfl
  | cons y t ih => unfold insr; split <;> simp [ih]
theorem ord_length (k : Int → Int) (l : List Int) : (ord k l).length = l.length := by
  induction l with
  | nil => rfl
  | cons x r ih => rw [ord, insr_length, ih]; rfl

/-- Two neighbours that stand in the wrong order may change places. -/
theorem insr_comm {k : Int → Int} {a b : Int} (hb : k b ≠ 0) (hab : k b < k a) (l : List Int) : insr k a (insr k b l) = insr k b (insr k a l) := by
  induction l with
  | nil =>
    simp only [insr]
    rw [if_pos ⟨hb, hab⟩, if_neg (by omega)]
  | cons y t ih =>
    by_cases h1 : k y ≠ 0 ∧ k y < k b
    · have h2 : k y ≠ 0 ∧ k y < k a := ⟨h1.1, by omega⟩
      rw [insr, if_pos h1, insr, if_pos h2, insr, if_pos h2, insr, if_pos h1, ih]
    · rw [insr, if_neg h1, insr, if_pos ⟨hb, hab⟩]
      by_cases h2 : k y ≠ 0 ∧ k y < k a
      · rw [insr, if_pos h2, insr, if_neg h1]
      · rw [insr, if_neg h2, insr, if_neg (by omega)]
theorem ord_swap {k : Int → Int} {a b : Int} (hb : k b ≠ 0) (hab : k b < k a) (p q : List Int) : ord k (p ++ a :: b :: q) = ord k (p ++ b :: a :: q) := by
  induction p with
  | nil => simp only [List.nil_append, ord]; exact insr_comm hb hab _
  | cons x r ih => simp only [List.cons_append, ord, ih]
/-- No two neighbours in the wrong order. -/
def Calm (k : Int → Int) : List Int → Prop
  | [] => True
  | [_] => True
  | a :: b :: r => ¬ (k b ≠ 0 ∧ k b < k a) ∧ Calm k (b :: r)
theorem ord_calm {k : Int → Int} : ∀ {l : List Int}, Calm k l → ord k l = l
  | [], _ => rfl
  | [_], _ => rfl
  | a :: b :: r, h => by
    rw [ord, ord_calm h.2, insr, if_neg h.1]

/-- A rune of class 0 is passed by none, and passes none. -/
theorem insr_stop {k : Int → Int} {z : Int} (hz : k z = 0) (x : Int) (s t : List Int) : insr k x (s ++ z :: t) = insr k x s ++ z :: t := by
  induction s with
  | nil => simp [insr, hz]
  | cons y r ih =>
    simp only [List.cons_append]
    rw [insr, insr]
    split
    · rw [ih]; rfl
    · rfl
theorem ord_stop {k : Int → Int} (hk : ∀ x, 0 ≤ k x) {z : Int} (hz : k z = 0) (s t : List Int) : ord k (s ++ z :: t) = ord k s ++ z :: ord k t := by
  induction s with
  | nil =>
    simp only [List.nil_append, ord]
    cases h : ord k t with
    | nil => rfl
    | cons y r =>
      rw [insr, if_neg (by have := hk y; omega)]
  | cons x r ih => rw [List.cons_append, ord, ih, insr_stop hz]; rfl
/-- Marks alone: they are sorted. -/
theorem insr_sorts {k : Int → Int} {x : Int} : ∀ {l : List Int}, Up k l → (∀ y ∈ l, k y ≠ 0) → ∃ q1 q2, l = q1 ++ q2 ∧ insr k x l = q1 ++ x :: q2 ∧ (∀ y ∈ q1, k y < k x) ∧ (∀ y ∈ q2, k x ≤ k y)
  | [], _, _ => ⟨[], [], rfl, rfl, by simp, by simp⟩
  | y :: t, hu, hm => by
    have hu' := List.pairwise_cons.1 hu
    by_cases h : k y ≠ 0 ∧ k y < k x
    · obtain ⟨q1, q2, h1, h2, h3, h4⟩ := insr_sorts (x := x) hu'.2 (fun z hz => hm z (by simp [hz]))
      refine ⟨y :: q1, q2, by rw [h1]; rfl, by rw [insr, if_pos h, h2]; rfl, ?_, h4⟩
      intro z hz
      rcases List.mem_cons.1 hz with rfl | hz
      · exact h.2
      · exact h3 z hz
    · refine ⟨[], y :: t, rfl, by rw [insr, if_neg h]; rfl, by simp, ?_⟩
      have hy := hm y (by simp)
      intro z hz
      rcases List.mem_cons.1 hz with rfl | hz
      · omega
      · have := hu'.1 z hz; omega
theorem ord_sorts {k : Int → Int} : ∀ {l : List Int}, (∀ y ∈ l, k y ≠ 0) → Sorts k l (ord k l)
  | [], _ => ⟨List.Pairwise.nil, Same.refl _ _⟩
  | x :: r, hm => by
    have ih := ord_sorts (l := r) (fun y hy => hm y (by simp [hy]))
    have hm' : ∀ y ∈ ord k r, k y ≠ 0 := fun y hy => hm y (by simp [ih.2.mem.2 hy])
    obtain ⟨q1, q2, h1, h2, h3, h4⟩ := insr_sorts (x := x) ih.1 hm'
    rw [ord, h2]
    have hu := ih.1
    rw [h1] at hu
    have hu' := Up.append.1 hu
    constructor
    · refine Up.append.2 ⟨hu'.1, List.pairwise_cons.2 ⟨h4, hu'.2.1⟩, fun a ha b hb => ?_⟩
      rcases List.mem_cons.1 hb with rfl | hb
      · exact Int.le_of_lt (h3 a ha)
      · exact hu'.2.2 a ha b hb
    · have e1 : Same k ([x] ++ r) ([x] ++ (q1 ++ q2)) := Same.append (Same.refl _ _) (by rw [← h1]; exact ih.2)
      have e2 : Same k ([x] ++ q1) (q1 ++ [x]) := Same.comm fun a ha b hb => by
        simp at ha; subst ha
        have := h3 b hb; omega
      have e3 := Same.append e2 (Same.refl k q2)
      refine e1.trans ?_
      simpa [List.append_assoc] using e3
/-- Whatever sorts marks stably sorts them so. -/
theorem Sorts.ord_eq {k : Int → Int} {l s : List Int} (hm : ∀ y ∈ l, k y ≠ 0) (h : Sorts k l s) : s = ord k l :=
  Up.unique h.1 (ord_sorts hm).1 (h.2.symm.trans (ord_sorts hm).2)

/-- A rune, replaced by its parts down to runes without any. -/
def expand (lns : List Ln) : Nat → Int → List Int
  | 0, r => [r]
  | n + 1, r => if (parts lns r).length = 0 then [r] else (parts lns r).flatMap (expand lns n)
theorem expand_leaf {lns : List Ln} {n : Nat} {r : Int} (h : (parts lns r).length = 0) : expand lns n r = [r] := by
  cases n with
  | zero => rfl
  | succ n => rw [expand, if_pos h]
theorem expand_more {lns : List Ln} : ∀ {n : Nat} {r : Int}, ends lns n r = true → expand lns (n + 1) r = expand lns n r
  | 0, r, h => by
    have h0 : (parts lns r).length = 0 := by simpa [ends] using h
    rw [expand_leaf h0, expand_leaf h0]
  | n + 1, r, h => by
    by_cases h0 : (parts lns r).length = 0
    · rw [expand_leaf h0, expand_leaf h0]
    · rw [expand, if_neg h0, expand, if_neg h0]
      have hall : (parts lns r).all (ends lns n) = true := by
        rw [ends] at h
        simpa [h0] using h
      have hl : ∀ l : List Int, l.all (ends lns n) = true → l.flatMap (expand lns (n + 1)) = l.flatMap (expand lns n) := by
        intro l hl
        induction l with
        | nil => rfl
        | cons a q ih =>
          simp only [List.all_cons, Bool.and_eq_true] at hl
          rw [List.flatMap_cons, List.flatMap_cons, expand_more hl.1, ih hl.2]
      exact hl _ hall
theorem classOf_nonneg {lns : List Ln} (hf : ∀ o ∈ lns, Fit o) (r : Int) : 0 ≤ classOf lns r := by
  unfold classOf
  split
  · rename_i o ho
    have hm := List.mem_of_find?_eq_some ho
    have hp := List.find?_some ho
    simp only [isClass, Bool.and_eq_true, decide_eq_true_eq] at hp
    rcases (hf o hm).kinds with ⟨_, _, h, _⟩ | ⟨h, _⟩ | ⟨h, _⟩
    · omega
    · rw [hp.1] at h; simp at h
    · rw [hp.1] at h; simp at h
  · exact Int.le_refl _
end Tm
end Go.Proofs.YtmnjjjhmnhfapaaDoor
namespace Go.Proofs.YtmnjjjhmnhfapaaDoor
namespace Tm
theorem expand_length {lns : List Ln} (hp : ∀ r, (parts lns r).length ≤ 2) : ∀ (n : Nat) (r : Int), (expand lns n r).length ≤ 2 ^ n
  | 0, r => by simp [expand]
  | n + 1, r => by
    rw [expand]
    split
    · have := Nat.one_le_two_pow (n := n + 1); simpa using this
    · have h : ∀ l : List Int, (l.flatMap (expand lns n)).length ≤ l.length * 2 ^ n := by
        intro l
        induction l with
        | nil => simp
        | cons a q ih =>
          rw [List.flatMap_cons, List.length_append, List.length_cons, Nat.add_mul]
          have := expand_length hp n a
          omega
      have h1 := h (parts lns r)
      have h2 := Nat.mul_le_mul_right (2 ^ n) (hp r)
      rw [Nat.pow_succ]
      omega
theorem expand_part {lns : List Ln} {n : Nat} {r : Int} (h : ¬ (parts lns r).length = 0) : expand lns (n + 1) r = (parts lns r).flatMap (expand lns n) := by rw [expand, if_neg h]
theorem flat_snoc {l : List Int} {f : Int → List Int} {k : Nat} (h : k < l.length) : (l.take (k + 1)).flatMap f = (l.take k).flatMap f ++ f l[k] := by
  rw [List.take_succ_eq_append_getElem h, List.flatMap_append]; simp
theorem flat_short {lns : List Ln} (hp : ∀ r, (parts lns r).length ≤ 2) (n : Nat) (l : List Int) : (l.flatMap (expand lns n)).length ≤ l.length * 2 ^ n := by
  induction l with
  | nil => simp
  | cons a q ih =>
    rw [List.flatMap_cons, List.length_append, List.length_cons, Nat.add_mul]
    have := expand_length hp n a
    omega
end Tm
end Go.Proofs.YtmnjjjhmnhfapaaDoor
/-
  Plain facts on the elements of a normal form.
-/
namespace Go.Proofs.YtmnjjjhmnhfapaaDoor
namespace Tm

/-- Is it a sequence of the table? -/
def isS (lns : List Ln) (q : List Int) : Bool := !(seqOf lns q).isNone
/-- How many runes the sequence at the left end has; a rune that is none is taken alone. -/
def lead (lns : List Ln) (l : List Int) : Nat := if 3 ≤ l.length ∧ isS lns (l.take 3) = true then 3 else if 2 ≤ l.length ∧ isS lns (l.take 2) = true then 2 else 1
/-- A sequence that grows by free marks: it, and what is left. -/
def grow (lns : List Ln) : List Int → List Int → List Int → List Int × List Int
  | seq, pas, [] => (seq, pas)
  | seq, pas, c :: r => if classOf lns c = 0 then (seq, pas ++ c :: r) else if isS lns (seq ++ [c]) = true ∧ (∀ y ∈ pas, classOf lns y < classOf lns c) then grow lns (seq ++ [c]) pas r else grow lns seq (pas ++ [c]) r
/-- The elements of a rune that the table does not weigh. -/
def implicit (r : Int) : List El := [⟨64320 + r / 32768, 32, 2, false⟩, ⟨32768 + r % 32768, 0, 0, false⟩]
def weigh (lns : List Ln) (s : List Int) : List El := match seqOf lns s with
  | some e => e
  | none => implicit (s.getD 0 0)
/-- The elements, by at most n sequences. -/
def elems (lns : List Ln) : Nat → List Int → List El
  | 0, _ => []
  | n + 1, l => if l = [] then [] else weigh lns (grow lns (l.take (lead lns l)) [] (l.drop (lead lns l))).1 ++ elems lns n (grow lns (l.take (lead lns l)) [] (l.drop (lead lns l))).2
def elements (lns : List Ln) (l : List Int) : List El := elems lns l.length l

theorem lead_pos (lns : List Ln) (l : List Int) : 1 ≤ lead lns l := by
  unfold lead
  split
  · omega
  · split <;> omega
theorem lead_le {lns : List Ln} {l : List Int} (h : l ≠ []) : lead lns l ≤ l.length := by
  have h1 : 1 ≤ l.length := List.length_pos_iff.2 h
  unfold lead
  split
  · rename_i h; exact h.1
  · split
    · rename_i h; exact h.1
    · exact h1
theorem lead_three (lns : List Ln) (l : List Int) : lead lns l ≤ 3 := by
  unfold lead
  split
  · omega
  · split <;> omega

theorem grow_length (lns : List Ln) : ∀ (r s p : List Int), (grow lns s p r).1.length + (grow lns s p r).2.length = s.length + p.length + r.length
  | [], s, p => by simp [grow]
  | c :: r, s, p => by
    unfold grow
    split
    · simp; omega
    · split
      · have := grow_length lns r (s ++ [c]) p; simp at this; simp; omega
      · have := grow_length lns r s (p ++ [c]); simp at this; simp; omega
theorem grow_left (lns : List Ln) : ∀ (r s p : List Int), s.length ≤ (grow lns s p r).1.length
  | [], s, p => by simp [grow]
  | c :: r, s, p => by
    unfold grow
    split
    · simp
    · split
      · have := grow_left lns r (s ++ [c]) p; simp at this; omega
      · exact grow_left lns r s (p ++ [c])
/-- The first rune of a sequence that grows stays. -/
theorem grow_head (lns : List Ln) (x : Int) : ∀ (r s p : List Int), ∃ t, (grow lns (x :: s) p r).1 = x :: t
  | [], s, p => ⟨s, by simp [grow]⟩
  | c :: r, s, p => by
    unfold grow
    split
    · exact ⟨s, rfl⟩
    · split
      · exact grow_head lns x r (s ++ [c]) p
      · exact grow_head lns x r s (p ++ [c])
theorem grow_mem (lns : List Ln) : ∀ (r s p : List Int) (x : Int), (x ∈ (grow lns s p r).1 → x ∈ s ∨ x ∈ r) ∧ (x ∈ (grow lns s p r).2 → x ∈ p ∨ x ∈ r)
  | [], s, p, x => ⟨fun h => .inl h, fun h => .inl h⟩
  | c :: r, s, p, x => by
    unfold grow
    split
    · exact ⟨fun h => .inl h, fun h => List.mem_append.1 h⟩
    · split
      · obtain ⟨h1, h2⟩ := grow_mem lns r (s ++ [c]) p x
        refine ⟨fun h => ?_, fun h => ?_⟩
        · rcases h1 h with h | h
          · rcases List.mem_append.1 h with h | h
            · exact .inl h
            · exact .inr (by rw [List.mem_singleton.1 h]; exact List.mem_cons_self)
          · exact .inr (List.mem_cons_of_mem _ h)
        · rcases h2 h with h | h
          · exact .inl h
          · exact .inr (List.mem_cons_of_mem _ h)
      · obtain ⟨h1, h2⟩ := grow_mem lns r s (p ++ [c]) x
        refine ⟨fun h => ?_, fun h => ?_⟩
        · rcases h1 h with h | h
          · exact .inl h
          · exact .inr (List.mem_cons_of_mem _ h)
        · rcases h2 h with h | h
          · rcases List.mem_append.1 h with h | h
            · exact .inl h
            · exact .inr (by rw [List.mem_singleton.1 h]; exact List.mem_cons_self)
          · exact .inr (List.mem_cons_of_mem _ h)

/-- Enough sequences are enough. -/
theorem elems_more (lns : List Ln) : ∀ (n m : Nat) (l : List Int), l.length ≤ n → l.length ≤ m → elems lns n l = elems lns m l
  | 0, m, l, h, _ => by
    have : l = [] := List.eq_nil_of_length_eq_zero (by omega)
    subst this
    cases m <;> simp [elems]
  | n + 1, 0, l, _, h => by
    have : l = [] := List.eq_nil_of_length_eq_zero (by omega)
    subst this
    simp [elems]
  | n + 1, m + 1, l, h, h' => by
    unfold elems
    by_cases e : l = []
    · simp [e]
    · rw [if_neg e, if_neg e]
      have h1 := grow_length lns (l.drop (lead lns l)) (l.take (lead lns l)) []
      have h2 := grow_left lns (l.drop (lead lns l)) (l.take (lead lns l)) []
      have h3 := lead_pos lns l
      have h4 := lead_le (lns := lns) e
      simp at h1 h2
      rw [elems_more lns n m _ (by omega) (by omega)]
theorem elements_step {lns : List Ln} {l : List Int} (h : l ≠ []) : elements lns l = weigh lns (grow lns (l.take (lead lns l)) [] (l.drop (lead lns l))).1 ++ elements lns (grow lns (l.take (lead lns l)) [] (l.drop (lead lns l))).2 := by
  have h1 := grow_length lns (l.drop (lead lns l)) (l.take (lead lns l)) []
  have h2 := grow_left lns (l.drop (lead lns l)) (l.take (lead lns l)) []
  have h3 := lead_pos lns l
  have h4 := lead_le (lns := lns) h
  simp at h1 h2
  unfold elements
  obtain ⟨n, hn⟩ : ∃ n, l.length = n + 1 := ⟨l.length - 1, by omega⟩
  rw [hn]
  conv => lhs; unfold elems
  rw [if_neg h, elems_more lns n _ _ (by omega) (Nat.le_refl _)]
theorem elements_nil (lns : List Ln) : elements lns [] = [] := rfl

/-- A sequence of three runes does not grow, nor does a longer one. -/
theorem isS_long {lns : List Ln} (hf : ∀ o ∈ lns, Fit o) {q : List Int} (h : 3 < q.length) : isS lns q = false := by
  unfold isS seqOf
  cases hq : lns.find? (isSeq q) with
  | none => rfl
  | some o =>
    have h1 := (hf o (List.mem_of_find?_eq_some hq)).few
    have h2 := List.find?_some hq
    have h3 : o.runes = q := by simp [isSeq] at h2; exact h2.2
    rw [h3] at h1; omega
theorem grow_full {lns : List Ln} (hf : ∀ o ∈ lns, Fit o) : ∀ (r s p : List Int), 3 ≤ s.length → grow lns s p r = (s, p ++ r)
  | [], s, p, _ => by simp [grow]
  | c :: r, s, p, h => by
    unfold grow
    split
    · rfl
    · rw [if_neg (by rw [isS_long hf (by simp; omega)]; simp), grow_full hf r s (p ++ [c]) h]
      simp

/-- In a calm run the mark that was passed last has the greatest class. -/
def top (k : Int → Int) (p : List Int) : Int := match p.getLast? with
  | some x => k x
  | none => 0
theorem top_snoc (k : Int → Int) (p : List Int) (c : Int) : top k (p ++ [c]) = k c := by simp [top]
theorem top_nil (k : Int → Int) : top k [] = 0 := rfl
theorem calm_tail {k : Int → Int} {x : Int} {l : List Int} (h : Calm k (x :: l)) : Calm k l := by
  cases l with
  | nil => trivial
  | cons y r => exact h.2
theorem calm_append {k : Int → Int} : ∀ {a b : List Int}, Calm k (a ++ b) → Calm k a ∧ Calm k b
  | [], b, h => ⟨trivial, h⟩
  | [x], b, h => ⟨trivial, calm_tail h⟩
  | x :: y :: a, b, h => by
    have := calm_append (a := y :: a) (b := b) h.2
    exact ⟨⟨h.1, this.1⟩, this.2⟩
theorem calm_drop {k : Int → Int} {l : List Int} (h : Calm k l) (n : Nat) : Calm k (l.drop n) := by
  rw [← List.take_append_drop n l] at h
  exact (calm_append h).2
/-- Marks that stand calmly ahead of a mark: none has a greater class. -/
theorem calm_le {k : Int → Int} {c : Int} {r : List Int} (hc : k c ≠ 0) : ∀ {p : List Int}, Calm k (p ++ c :: r) → (∀ y ∈ p, k y ≠ 0) → ∀ y ∈ p, k y ≤ k c
  | [], _, _, y, hy => by cases hy
  | [x], h, _, y, hy => by
    simp at hy; subst hy
    have := h.1
    omega
  | x :: z :: p, h, hm, y, hy => by
    have ih := calm_le hc (p := z :: p) h.2 (fun y hy => hm y (List.mem_cons_of_mem _ hy))
    rcases List.mem_cons.1 hy with rfl | hy
    · have h1 := ih z (by simp)
      have h2 := h.1
      have h3 := hm z (by simp)
      omega
    · exact ih y hy
theorem free_top {k : Int → Int} (hk : ∀ x, 0 ≤ k x) {c : Int} {p r : List Int} (hc : k c ≠ 0) (h : Calm k (p ++ c :: r)) (hm : ∀ y ∈ p, k y ≠ 0) : (∀ y ∈ p, k y < k c) ↔ top k p < k c := by
  rcases List.eq_nil_or_concat p with rfl | ⟨q, x, rfl⟩
  · simp [top]
    have := hk c; omega
  · rw [List.concat_eq_append] at h hm ⊢
    rw [top_snoc]
    constructor
    · intro h'; exact h' x (by simp)
    · intro hx y hy
      rcases List.mem_append.1 hy with hy | hy
      · have hq : Calm k (q ++ x :: c :: r) := by simpa using h
        have := calm_le (hm x (by simp)) hq (fun y hy => hm y (by simp [hy])) y hy
        omega
      · simp at hy; subst hy; exact hx
/-- A mark may be taken out of a calm run. -/
theorem calm_out {k : Int → Int} {c : Int} {r : List Int} (hc : k c ≠ 0) : ∀ {p : List Int}, Calm k (p ++ c :: r) → Calm k (p ++ r)
  | [], h => calm_tail h
  | [x], h => by
    cases r with
    | nil => trivial
    | cons y r =>
      refine ⟨?_, h.2.2⟩
      have h1 := h.1
      have h2 := h.2.1
      omega
  | x :: z :: p, h => ⟨h.1, calm_out hc (p := z :: p) h.2⟩
theorem grow_calm {lns : List Ln} : ∀ (r s p : List Int), Calm (classOf lns) (p ++ r) → Calm (classOf lns) (grow lns s p r).2
  | [], s, p, h => by simpa [grow] using h
  | c :: r, s, p, h => by
    unfold grow
    split
    · exact h
    · rename_i hc
      split
      · exact grow_calm r _ _ (calm_out hc h)
      · exact grow_calm r _ _ (by simpa using h)
theorem ord_is_calm {k : Int → Int} (l : List Int) : Calm k (ord k l) := by
  induction l with
  | nil => trivial
  | cons x r ih =>
    rw [ord]
    generalize ord k r = m at *
    clear r
    induction m with
    | nil => trivial
    | cons y t ih2 =>
      unfold insr
      split
      · rename_i h
        have h1 := ih2 (calm_tail ih)
        cases t with
        | nil => exact ⟨by omega, trivial⟩
        | cons z u =>
          have h2 := ih.1
          unfold insr at h1 ⊢
          split
          · rename_i h3
            rw [if_pos h3] at h1
            exact ⟨h2, h1⟩
          · rename_i h3
            rw [if_neg h3] at h1
            exact ⟨by omega, h1⟩
      · rename_i h
        exact ⟨h, ih⟩
end Tm
end Go.Proofs.YtmnjjjhmnhfapaaDoor
/-
  Plain facts on levels, the order of texts, and keys.
-/
namespace Go.Proofs.YtmnjjjhmnhfapaaDoor
namespace Tm

/-- The number, unless it is 0. -/
def nz (x : Int) : List Int := if x = 0 then [] else [x]
/-- What an element gives to a level (0 to 3), not shifted. -/
def plainW (e : El) : Nat → List Int
  | 0 => nz e.p
  | 1 => nz e.s
  | 2 => nz e.t
  | _ => []
/-- Is what stands here behind a variable element? -/
def behind (bv : Bool) (e : El) : Bool := if e.p = 0 then bv else e.v
def empty (e : El) : Bool := e.p == 0 && e.s == 0 && e.t == 0
/-- What an element gives to a level (0 to 3), shifted; b: it is, or stands behind, a variable one. -/
def shiftW (b : Bool) (e : El) : Nat → List Int
  | 0 => if b then [] else nz e.p
  | 1 => if b then [] else nz e.s
  | 2 => if b then [] else nz e.t
  | _ => if b then nz e.p else if empty e then [] else [65535]
def lev (sh : Bool) (k : Nat) : Bool → List El → List Int
  | _, [] => []
  | bv, e :: r => (if sh then shiftW (behind bv e) e k else plainW e k) ++ lev sh k (behind bv e) r
/-- A level of elements (0 to 3). -/
def level (sh : Bool) (els : List El) (k : Nat) : List Int := lev sh k false els

def lastB : Bool → List El → Bool
  | bv, [] => bv
  | bv, e :: r => lastB (behind bv e) r
theorem lastB_snoc (e : El) : ∀ (l : List El) (bv : Bool), lastB bv (l ++ [e]) = behind (lastB bv l) e
  | [], _ => rfl
  | _ :: r, _ => lastB_snoc e r _
theorem lev_snoc (sh : Bool) (k : Nat) (e : El) : ∀ (l : List El) (bv : Bool), lev sh k bv (l ++ [e]) = lev sh k bv l ++ (if sh then shiftW (behind (lastB bv l) e) e k else plainW e k)
  | [], bv => by simp [lev, lastB]
  | x :: r, bv => by simp only [List.cons_append, lev, lastB]; rw [lev_snoc sh k e r]; simp
theorem level_snoc (sh : Bool) (k : Nat) (e : El) (l : List El) : level sh (l ++ [e]) k = level sh l k ++ (if sh then shiftW (behind (lastB false l) e) e k else plainW e k) := lev_snoc sh k e l false
theorem nz_length (x : Int) : (nz x).length ≤ 1 := by unfold nz; split <;> simp
theorem plainW_length (e : El) (k : Nat) : (plainW e k).length ≤ 1 := by
  unfold plainW; split <;> first | exact nz_length _ | simp
theorem shiftW_length (b : Bool) (e : El) (k : Nat) : (shiftW b e k).length ≤ 1 := by
  unfold shiftW
  split <;> split <;> first | exact nz_length _ | exact Nat.zero_le _ | (split <;> simp)
theorem lev_length (sh : Bool) (k : Nat) : ∀ (l : List El) (bv : Bool), (lev sh k bv l).length ≤ l.length
  | [], _ => by simp [lev]
  | e :: r, bv => by
    have := lev_length sh k r (behind bv e)
    have h1 := shiftW_length (behind bv e) e k
    have h2 := plainW_length e k
    simp only [lev, List.length_append, List.length_cons]
    split <;> omega

/-- The order of lists of numbers. -/
def cmpL : List Int → List Int → Int
  | [], [] => 0
  | [], _ :: _ => -1
  | _ :: _, [] => 1
  | a :: r, b :: t => if a < b then -1 else if b < a then 1 else cmpL r t
/-- The order of lists of lists. -/
def cmpLL : List (List Int) → List (List Int) → Int
  | [], [] => 0
  | [], _ :: _ => -1
  | _ :: _, [] => 1
  | a :: r, b :: t => if cmpL a b = 0 then cmpLL r t else cmpL a b
theorem cmpL_range : ∀ (a b : List Int), cmpL a b = -1 ∨ cmpL a b = 0 ∨ cmpL a b = 1
  | [], [] => by simp [cmpL]
  | [], _ :: _ => by simp [cmpL]
  | _ :: _, [] => by simp [cmpL]
  | a :: r, b :: t => by
    unfold cmpL
    split
    · simp
    · split
      · simp
      · exact cmpL_range r t
theorem cmpL_self : ∀ (a : List Int), cmpL a a = 0
  | [] => rfl
  | a :: r => by simp [cmpL, cmpL_self r]
theorem cmpL_zero : ∀ {a b : List Int}, cmpL a b = 0 → a = b
  | [], [], _ => rfl
  | [], _ :: _, h => by simp [cmpL] at h
  | _ :: _, [], h => by simp [cmpL] at h
  | a :: r, b :: t, h => by
    unfold cmpL at h
    split at h
    · simp at h
    · split at h
      · simp at h
      · rw [cmpL_zero h, show a = b by omega]
theorem cmpL_eq_zero (a b : List Int) : cmpL a b = 0 ↔ a = b := ⟨cmpL_zero, fun h => by rw [h]; exact cmpL_self b⟩
theorem cmpL_neg : ∀ (a b : List Int), cmpL b a = - cmpL a b
  | [], [] => rfl
  | [], _ :: _ => rfl
  | _ :: _, [] => rfl
  | a :: r, b :: t => by
    have ih := cmpL_neg r t
    simp only [cmpL]
    by_cases h1 : a < b
    · rw [if_neg (by omega), if_pos h1, if_pos h1]; rfl
    · by_cases h2 : b < a
      · rw [if_pos h2, if_neg h1, if_pos h2]
      · rw [if_neg h2, if_neg h1, if_neg h1, if_neg h2, ih]
/-- Less: transitive, with equals on either side. -/
theorem cmpL_trans : ∀ {a b c : List Int}, cmpL a b ≤ 0 → cmpL b c ≤ 0 → cmpL a c ≤ 0
  | [], _, [], _, _ => by simp [cmpL]
  | [], _, _ :: _, _, _ => by simp [cmpL]
  | _ :: _, [], _, h, _ => by simp [cmpL] at h
  | _ :: _, _ :: _, [], _, h => by simp [cmpL] at h
  | a :: r, b :: t, c :: u, h, k => by
    unfold cmpL at h k ⊢
    by_cases h1 : a < b
    · by_cases k1 : b < c
      · rw [if_pos (by omega)]; decide
      · rw [if_neg k1] at k
        by_cases k2 : c < b
        · rw [if_pos k2] at k; simp at k
        · rw [if_pos (by omega)]; decide
    · rw [if_neg h1] at h
      by_cases h2 : b < a
      · rw [if_pos h2] at h; simp at h
      · rw [if_neg h2] at h
        by_cases k1 : b < c
        · rw [if_pos (by omega)]; decide
        · rw [if_neg k1] at k
          by_cases k2 : c < b
          · rw [if_pos k2] at k; simp at k
          · rw [if_neg k2] at k
            rw [if_neg (by omega), if_neg (by omega)]
            exact cmpL_trans h k
theorem cmpLL_range : ∀ (a b : List (List Int)), cmpLL a b = -1 ∨ cmpLL a b = 0 ∨ cmpLL a b = 1
  | [], [] => by simp [cmpLL]
  | [], _ :: _ => by simp [cmpLL]
  | _ :: _, [] => by simp [cmpLL]
  | a :: r, b :: t => by
    unfold cmpLL
    split
    · exact cmpLL_range r t
    · exact cmpL_range a b
theorem cmpLL_zero : ∀ {a b : List (List Int)}, cmpLL a b = 0 → a = b
  | [], [], _ => rfl
  | [], _ :: _, h => by simp [cmpLL] at h
  | _ :: _, [], h => by simp [cmpLL] at h
  | a :: r, b :: t, h => by
    unfold cmpLL at h
    split at h
    · rename_i h1; rw [cmpL_zero h1, cmpLL_zero h]
    · rename_i h1; exact absurd h h1
theorem cmpLL_self : ∀ (a : List (List Int)), cmpLL a a = 0
  | [] => rfl
  | a :: r => by rw [cmpLL, if_pos (cmpL_self a)]; exact cmpLL_self r
theorem cmpLL_neg : ∀ (a b : List (List Int)), cmpLL b a = - cmpLL a b
  | [], [] => rfl
  | [], _ :: _ => rfl
  | _ :: _, [] => rfl
  | a :: r, b :: t => by
    have ih := cmpLL_neg r t
    have h := cmpL_neg a b
    simp only [cmpLL]
    by_cases h1 : cmpL a b = 0
    · rw [if_pos (by omega), if_pos h1, ih]
    · rw [if_neg (by omega), if_neg h1, h]
theorem cmpLL_trans : ∀ {a b c : List (List Int)}, cmpLL a b ≤ 0 → cmpLL b c ≤ 0 → cmpLL a c ≤ 0
  | [], _, [], _, _ => by simp [cmpLL]
  | [], _, _ :: _, _, _ => by simp [cmpLL]
  | _ :: _, [], _, h, _ => by simp [cmpLL] at h
  | _ :: _, _ :: _, [], _, h => by simp [cmpLL] at h
  | a :: r, b :: t, c :: u, h, k => by
    unfold cmpLL at h k ⊢
    by_cases h1 : cmpL a b = 0
    · have e := cmpL_zero h1
      subst e
      rw [if_pos h1] at h
      by_cases k1 : cmpL a c = 0
      · rw [if_pos k1] at k ⊢
        exact cmpLL_trans h k
      · rw [if_neg k1] at k ⊢
        exact k
    · rw [if_neg h1] at h
      by_cases k1 : cmpL b c = 0
      · have e := cmpL_zero k1
        subst e
        rw [if_neg h1]
        exact h
      · rw [if_neg k1] at k
        have h2 := cmpL_trans h k
        have h3 : cmpL a c ≠ 0 := fun e => by
          have e := cmpL_zero e
          subst e
          have := cmpL_neg a b
          omega
        rw [if_neg h3]
        exact h2

/-- The bytes of a number below 2^24, the greatest first. -/
def num3 (x : Int) : List UInt8 := [UInt8.ofNat (x.toNat / 65536), UInt8.ofNat (x.toNat / 256), UInt8.ofNat x.toNat]
def keyL (l : List Int) : List UInt8 := l.flatMap num3 ++ num3 0
def keyLL (l : List (List Int)) : List UInt8 := l.flatMap keyL

/-- The order of bytes. -/
def lessB : List UInt8 → List UInt8 → Bool
  | [], [] => false
  | [], _ :: _ => true
  | _ :: _, [] => false
  | a :: r, b :: t => if a < b then true else if b < a then false else lessB r t
def cmpB (a b : List UInt8) : Int := if lessB a b then -1 else if lessB b a then 1 else 0
theorem lessB_same (p a b : List UInt8) : lessB (p ++ a) (p ++ b) = lessB a b := by
  induction p with
  | nil => rfl
  | cons x r ih => simp only [List.cons_append, lessB]; rw [if_neg (by exact UInt8.lt_irrefl x), if_neg (by exact UInt8.lt_irrefl x), ih]
theorem lessB_self (a : List UInt8) : lessB a a = false := by
  have := lessB_same a [] []
  simpa [lessB] using this
theorem num3_less {x y : Int} (hx : 0 ≤ x ∧ x < 16777216) (hy : 0 ≤ y ∧ y < 16777216) (h : x < y) (a b : List UInt8) : lessB (num3 x ++ a) (num3 y ++ b) = true ∧ lessB (num3 y ++ b) (num3 x ++ a) = false := by
  obtain ⟨n, rfl⟩ : ∃ n : Nat, x = n := ⟨x.toNat, by omega⟩
  obtain ⟨m, rfl⟩ : ∃ m : Nat, y = m := ⟨y.toNat, by omega⟩
  have hn : n < 16777216 := by omega
  have hm : m < 16777216 := by omega
  have hl : n < m := by omega
  have q1 : ∀ k : Nat, k < 256 → (UInt8.ofNat k).toNat = k := fun k hk => by simp [UInt8.toNat_ofNat']; omega
  have q2 : ∀ k : Nat, (UInt8.ofNat k).toNat = k % 256 := fun k => by simp [UInt8.toNat_ofNat']
  simp only [num3, List.cons_append, List.nil_append, lessB, Int.toNat_natCast, UInt8.lt_iff_toNat_lt, q2]
  have e1 : n / 65536 % 256 = n / 65536 := Nat.mod_eq_of_lt (by omega)
  have e2 : m / 65536 % 256 = m / 65536 := Nat.mod_eq_of_lt (by omega)
  rw [e1, e2]
  by_cases h1 : n / 65536 < m / 65536
  · simp [h1, Nat.not_lt.2 (Nat.le_of_lt h1)]
  · have h1' : n / 65536 = m / 65536 := by omega
    rw [h1']
    simp only [Nat.lt_irrefl, if_false]
    by_cases h2 : n / 256 % 256 < m / 256 % 256
    · simp [h2, Nat.not_lt.2 (Nat.le_of_lt h2)]
    · have h2' : n / 256 % 256 = m / 256 % 256 := by omega
      rw [h2']
      simp only [Nat.lt_irrefl, if_false]
      have h3 : n % 256 < m % 256 := by omega
      simp [h3, Nat.not_lt.2 (Nat.le_of_lt h3)]
def Small (l : List Int) : Prop := ∀ x ∈ l, 0 ≤ x ∧ x < 16777216
def Weights (l : List Int) : Prop := ∀ x ∈ l, 0 < x ∧ x < 16777216
theorem Weights.small {l : List Int} (h : Weights l) : Small l := fun x hx => by have := h x hx; omega
/-- Keys of levels, with whatever behind them. -/
theorem keyL_less : ∀ {l m : List Int}, Weights l → Weights m → cmpL l m = -1 → ∀ a b, lessB (keyL l ++ a) (keyL m ++ b) = true ∧ lessB (keyL m ++ b) (keyL l ++ a) = false
  | [], [], _, _, h, _, _ => by simp [cmpL] at h
  | [], y :: m, _, hm, _, a, b => by
    simp only [keyL, List.flatMap_nil, List.nil_append, List.flatMap_cons, List.append_assoc]
    exact num3_less ⟨by omega, by omega⟩ ⟨by have := hm y (by simp); omega, (hm y (by simp)).2⟩ (hm y (by simp)).1 _ _
  | _ :: _, [], _, _, h, _, _ => by simp [cmpL] at h
  | x :: l, y :: m, hl, hm, h, a, b => by
    have hx := hl x (by simp)
    have hy := hm y (by simp)
    simp only [keyL, List.flatMap_cons, List.append_assoc]
    unfold cmpL at h
    by_cases h1 : x < y
    · exact num3_less ⟨by omega, hx.2⟩ ⟨by omega, hy.2⟩ h1 _ _
    · rw [if_neg h1] at h
      by_cases h2 : y < x
      · rw [if_pos h2] at h; simp at h
      · rw [if_neg h2] at h
        rw [show x = y by omega, lessB_same, lessB_same]
        have := keyL_less (fun z hz => hl z (by simp [hz])) (fun z hz => hm z (by simp [hz])) h a b
        simpa [keyL] using this
/-- Keys of the last list, with nothing behind them. -/
theorem keyL_last : ∀ {l m : List Int}, Small l → Small m → cmpL l m = -1 → lessB (keyL l) (keyL m) = true ∧ lessB (keyL m) (keyL l) = false
  | [], [], _, _, h => by simp [cmpL] at h
  | [], y :: m, _, hm, _ => by
    have hy := hm y (by simp)
    by_cases h0 : y = 0
    · subst h0
      simp only [keyL, List.flatMap_nil, List.nil_append, List.flatMap_cons, List.append_assoc]
      have e : num3 0 = num3 0 ++ [] := by simp
      constructor
      · conv => lhs; lhs; rw [e]
        rw [lessB_same]
        cases hq : m.flatMap num3 ++ num3 0 with
        | nil => simp [num3] at hq
        | cons z r => rfl
      · conv => lhs; rhs; rw [e]
        rw [lessB_same]
        cases hq : m.flatMap num3 ++ num3 0 with
        | nil => simp [num3] at hq
        | cons z r => rfl
    · simp only [keyL, List.flatMap_nil, List.nil_append, List.flatMap_cons, List.append_assoc]
      have := num3_less (x := 0) ⟨by omega, by omega⟩ hy (by omega) [] (m.flatMap num3 ++ num3 0)
      simpa using this
  | _ :: _, [], _, _, h => by simp [cmpL] at h
  | x :: l, y :: m, hl, hm, h => by
    have hx := hl x (by simp)
    have hy := hm y (by simp)
    simp only [keyL, List.flatMap_cons, List.append_assoc]
    unfold cmpL at h
    by_cases h1 : x < y
    · exact num3_less hx hy h1 _ _
    · rw [if_neg h1] at h
      by_cases h2 : y < x
      · rw [if_pos h2] at h; simp at h
      · rw [if_neg h2] at h
        rw [show x = y by omega, lessB_same, lessB_same]
        have := keyL_last (fun z hz => hl z (by simp [hz])) (fun z hz => hm z (by simp [hz])) h
        simpa [keyL] using this
theorem keyLL_less : ∀ {a b : List (List Int)} {x y : List Int}, a.length = b.length → (∀ l ∈ a, Weights l) → (∀ l ∈ b, Weights l) → Small x → Small y → cmpLL (a ++ [x]) (b ++ [y]) = -1 → lessB (keyLL (a ++ [x])) (keyLL (b ++ [y])) = true ∧ lessB (keyLL (b ++ [y])) (keyLL (a ++ [x])) = false
  | [], [], x, y, _, _, _, hx, hy, h => by
    simp only [List.nil_append, cmpLL] at h
    split at h
    · simp at h
    · have := keyL_last hx hy h
      simpa [keyLL] using this
  | l :: a, m :: b, x, y, hab, ha, hb, hx, hy, h => by
    simp only [List.cons_append, cmpLL] at h
    simp only [List.cons_append, keyLL, List.flatMap_cons]
    split at h
    · rename_i h0
      rw [cmpL_zero h0, lessB_same, lessB_same]
      exact keyLL_less (by simpa using hab) (fun q hq => ha q (by simp [hq])) (fun q hq => hb q (by simp [hq])) hx hy h
    · exact keyL_less (ha l (by simp)) (hb m (by simp)) h _ _
  | [], _ :: _, _, _, h, _, _, _, _, _ => by simp at h
  | _ :: _, [], _, _, h, _, _, _, _, _ => by simp at h
/-- Keys stand in the order of what they are made of. -/
theorem keyLL_cmp {a b : List (List Int)} {x y : List Int} (hab : a.length = b.length) (ha : ∀ l ∈ a, Weights l) (hb : ∀ l ∈ b, Weights l) (hx : Small x) (hy : Small y) : cmpB (keyLL (a ++ [x])) (keyLL (b ++ [y])) = cmpLL (a ++ [x]) (b ++ [y]) := by
  unfold cmpB
  rcases cmpLL_range (a ++ [x]) (b ++ [y]) with h | h | h
  · have := keyLL_less hab ha hb hx hy h
    rw [this.1, h]; rfl
  · have e := cmpLL_zero h
    rw [e, lessB_self, cmpLL_self]; rfl
  · have h' := cmpLL_neg (a ++ [x]) (b ++ [y])
    have := keyLL_less hab.symm hb ha hy hx (by omega)
    rw [this.1, this.2, h]; rfl
end Tm
end Go.Proofs.YtmnjjjhmnhfapaaDoor
