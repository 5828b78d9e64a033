import Derived.Test.YtmnjjjhmnhfapaaGreatDoorMPlain
/-
  Plain facts on lists sorted by a key, equals in their order.
-/
namespace Go.Proofs.YtmnjjjhmnhfapaaGreatDoor
namespace Tm

/-- Sorted by a key. -/
def Up (k : Int → Int) (l : List Int) : Prop := l.Pairwise fun a b => k a ≤ k b
/-- Of each key the same members, in the same order. -/
def Same (k : Int → Int) (l l' : List Int) : Prop := ∀ c, l.filter (fun x => k x == c) = l'.filter (fun x => k x == c)

theorem Same.refl (k : Int → Int) (l : List Int) : Same k l l := fun _ => rfl
theorem Same.symm {k : Int → Int} {l l' : List Int} (h : Same k l l') : Same k l' l := fun c => (h c).symm
theorem Same.trans {k : Int → Int} {a b c : List Int} (h : Same k a b) (h' : Same k b c) : Same k a c := fun x => (h x).trans (h' x)
theorem Same.append {k : Int → Int} {a a' b b' : List Int} (h : Same k a a') (h' : Same k b b') : Same k (a ++ b) (a' ++ b') := fun c => by
  rw [List.filter_append, List.filter_append, h c, h' c]
theorem Same.count {k : Int → Int} {l l' : List Int} (h : Same k l l') (x : Int) : l.count x = l'.count x := by
  have e : ∀ m : List Int, m.count x = (m.filter fun y => k y == k x).count x := fun m => by
    rw [List.count_filter (by simp)]
  rw [e l, e l', h]
theorem Same.perm {k : Int → Int} {l l' : List Int} (h : Same k l l') : l.Perm l' := List.perm_iff_count.2 h.count
theorem Same.length {k : Int → Int} {l l' : List Int} (h : Same k l l') : l.length = l'.length := h.perm.length_eq
theorem Same.mem {k : Int → Int} {l l' : List Int} (h : Same k l l') {x : Int} : x ∈ l ↔ x ∈ l' := h.perm.mem_iff

/-- One order alone. -/
theorem Up.unique {k : Int → Int} : ∀ {l l' : List Int}, Up k l → Up k l' → Same k l l' → l = l'
  | [], l', _, _, h => by
    have := h.length
    cases l' with
    | nil => rfl
    | cons b r => simp at this
  | a :: r, l', h1, h2, h => by
    cases l' with
    | nil => have := h.length; simp at this
    | cons b r' =>
      have h1' := List.pairwise_cons.1 h1
      have h2' := List.pairwise_cons.1 h2
      have hab : k a ≤ k b := by
        rcases List.mem_cons.1 (h.mem.2 (List.mem_cons_self (a := b) (l := r'))) with e | e
        · rw [e]; exact Int.le_refl _
        · exact h1'.1 b e
      have hba : k b ≤ k a := by
        rcases List.mem_cons.1 (h.mem.1 (List.mem_cons_self (a := a) (l := r))) with e | e
        · rw [e]; exact Int.le_refl _
        · exact h2'.1 a e
      have hk : k a = k b := by omega
      have hc := h (k a)
      rw [List.filter_cons, List.filter_cons, if_pos (by simp), if_pos (by simp [hk])] at hc
      have e := (List.cons.inj hc).1
      subst e
      congr 1
      refine Up.unique h1'.2 h2'.2 fun c => ?_
      have hc' := h c
      rw [List.filter_cons, List.filter_cons] at hc'
      split at hc'
      · exact (List.cons.inj hc').2
      · exact hc'

/-- Two parts that share no key may change places. -/
theorem Same.comm {k : Int → Int} {u v : List Int} (h : ∀ x ∈ u, ∀ y ∈ v, k x ≠ k y) : Same k (u ++ v) (v ++ u) := fun c => by
  rw [List.filter_append, List.filter_append]
  by_cases hu : u.filter (fun x => k x == c) = []
  · rw [hu]; simp
  · have hv : v.filter (fun x => k x == c) = [] := by
      rw [List.filter_eq_nil_iff]
      intro y hy hyc
      obtain ⟨x, hx⟩ := List.exists_mem_of_ne_nil _ hu
      obtain ⟨hxu, hxc⟩ := List.mem_filter.1 hx
      exact h x hxu y hy ((by simpa using hxc : k x = c).trans (by simpa using hyc : k y = c).symm)
    rw [hv]; simp
theorem Same.swap {k : Int → Int} {p q : List Int} {x y : Int} (h : k x ≠ k y) : Same k (p ++ x :: y :: q) (p ++ y :: x :: q) := by
  refine Same.append (Same.refl k p) ?_
  have := Same.append (Same.comm (k := k) (u := [x]) (v := [y]) (by simpa using h)) (Same.refl k q)
  simpa using this

theorem Up.append {k : Int → Int} {u v : List Int} : Up k (u ++ v) ↔ Up k u ∧ Up k v ∧ ∀ x ∈ u, ∀ y ∈ v, k x ≤ k y := by
  unfold Up; rw [List.pairwise_append]
theorem Up.same {k : Int → Int} {u u' v v' : List Int} (hu : Up k u') (hv : Up k v') (su : Same k u u') (sv : Same k v v') (h : ∀ x ∈ u, ∀ y ∈ v, k x ≤ k y) : Up k (u' ++ v') :=
  Up.append.2 ⟨hu, hv, fun x hx y hy => h x (su.mem.2 hx) y (sv.mem.2 hy)⟩

/-- What a sort, or a merge, makes of the middle of a list. -/
def Sorts (k : Int → Int) (s s' : List Int) : Prop := Up k s' ∧ Same k s s'
theorem Sorts.of_up {k : Int → Int} {s : List Int} (h : Up k s) : Sorts k s s := ⟨h, Same.refl _ _⟩

/-- Four parts: the two halves of a merge. -/
theorem Sorts.merge {k : Int → Int} {u1 u2 v1 v2 l r : List Int} (hl : Sorts k (u1 ++ v1) l) (hr : Sorts k (u2 ++ v2) r) (hu : Up k (u1 ++ u2)) (hv : Up k (v1 ++ v2)) (h1 : ∀ x ∈ v1, ∀ y ∈ u2, k x < k y) (h2 : ∀ x ∈ u1, ∀ y ∈ v2, k x ≤ k y) :
    Sorts k ((u1 ++ u2) ++ (v1 ++ v2)) (l ++ r) := by
  have hu' := Up.append.1 hu
  have hv' := Up.append.1 hv
  constructor
  · refine Up.same hl.1 hr.1 hl.2 hr.2 ?_
    intro x hx y hy
    rcases List.mem_append.1 hx with hx | hx <;> rcases List.mem_append.1 hy with hy | hy
    · exact hu'.2.2 x hx y hy
    · exact h2 x hx y hy
    · exact Int.le_of_lt (h1 x hx y hy)
    · exact hv'.2.2 x hx y hy
  · have e : Same k (u2 ++ v1) (v1 ++ u2) := Same.comm fun x hx y hy => by have := h1 y hy x hx; omega
    have e2 : Same k ((u1 ++ u2) ++ (v1 ++ v2)) ((u1 ++ v1) ++ (u2 ++ v2)) := by
      have := Same.append (Same.append (Same.refl k u1) e) (Same.refl k v2)
      simpa [List.append_assoc] using this
    exact e2.trans (hl.2.append hr.2)
end Tm
end Go.Proofs.YtmnjjjhmnhfapaaGreatDoor
namespace Go.Proofs.YtmnjjjhmnhfapaaGreatDoor
namespace Tm
/-- One more, put in its place. -/
theorem Sorts.insert {k : Int → Int} {t s q1 q2 : List Int} {x : Int} (h : Sorts k t s) (hs : s = q1 ++ q2) (h1 : ∀ y ∈ q1, k y ≤ k x) (h2 : ∀ y ∈ q2, k x < k y) : Sorts k (t ++ [x]) (q1 ++ x :: q2) := by
  subst hs
  have hu := Up.append.1 h.1
  constructor
  · refine Up.append.2 ⟨hu.1, List.pairwise_cons.2 ⟨fun y hy => Int.le_of_lt (h2 y hy), hu.2.1⟩, fun a ha b hb => ?_⟩
    rcases List.mem_cons.1 hb with rfl | hb
    · exact h1 a ha
    · exact hu.2.2 a ha b hb
  · have e : Same k (t ++ [x]) ((q1 ++ q2) ++ [x]) := h.2.append (Same.refl _ _)
    have e2 : Same k (q2 ++ [x]) ([x] ++ q2) := Same.comm fun a ha b hb => by
      simp at hb; subst hb
      have := h2 a ha; omega
    refine e.trans ?_
    have := Same.append (Same.refl k q1) e2
    simpa [List.append_assoc] using this
/-- What lies ahead of a place is not above what the last of it is not above. -/
theorem Up.last_le {k : Int → Int} {q : List Int} {y x : Int} (h : Up k (q ++ [y])) (hy : k y ≤ k x) : ∀ z ∈ q ++ [y], k z ≤ k x := by
  intro z hz
  have hu := Up.append.1 h
  rcases List.mem_append.1 hz with hz | hz
  · have := hu.2.2 z hz y (by simp); omega
  · simp at hz; subst hz; exact hy
end Tm
end Go.Proofs.YtmnjjjhmnhfapaaGreatDoor
namespace Go.Proofs.YtmnjjjhmnhfapaaGreatDoor
namespace Tm
theorem Up.take_lt {k : Int → Int} {v : List Int} {i : Nat} {x : Int} (h : Up k v) (hi : i < v.length) (hx : k v[i] < k x) : ∀ y ∈ v.take (i + 1), k y < k x := by
  intro y hy
  rw [List.take_succ_eq_append_getElem hi] at hy
  rcases List.mem_append.1 hy with hy | hy
  · have hu : Up k (v.take i ++ v.drop i) := by rw [List.take_append_drop]; exact h
    have := (Up.append.1 hu).2.2 y hy v[i] (by rw [List.drop_eq_getElem_cons hi]; exact List.mem_cons_self)
    omega
  · simp at hy; subst hy; exact hx
theorem Up.take_le {k : Int → Int} {v : List Int} {i : Nat} {x : Int} (h : Up k v) (hi : i < v.length) (hx : k v[i] ≤ k x) : ∀ y ∈ v.take (i + 1), k y ≤ k x := by
  intro y hy
  rw [List.take_succ_eq_append_getElem hi] at hy
  rcases List.mem_append.1 hy with hy | hy
  · have hu : Up k (v.take i ++ v.drop i) := by rw [List.take_append_drop]; exact h
    have := (Up.append.1 hu).2.2 y hy v[i] (by rw [List.drop_eq_getElem_cons hi]; exact List.mem_cons_self)
    omega
  · simp at hy; subst hy; exact hx
theorem Up.drop_le {k : Int → Int} {v : List Int} {i : Nat} {x : Int} (h : Up k v) (hi : i < v.length) (hx : k x ≤ k v[i]) : ∀ y ∈ v.drop i, k x ≤ k y := by
  intro y hy
  rw [List.drop_eq_getElem_cons hi] at hy
  rcases List.mem_cons.1 hy with rfl | hy
  · exact hx
  · have hu : Up k (v.take i ++ v.drop i) := by rw [List.take_append_drop]; exact h
    have hd := (Up.append.1 hu).2.1
    rw [List.drop_eq_getElem_cons hi] at hd
    have := (List.pairwise_cons.1 hd).1 y hy
    omega
theorem Up.drop_lt {k : Int → Int} {v : List Int} {i : Nat} {x : Int} (h : Up k v) (hi : i < v.length) (hx : k x < k v[i]) : ∀ y ∈ v.drop i, k x < k y := by
  intro y hy
  have := h.drop_le (x := v[i]) hi (Int.le_refl _) y hy
  omega
end Tm
end Go.Proofs.YtmnjjjhmnhfapaaGreatDoor
namespace Go.Proofs.YtmnjjjhmnhfapaaGreatDoor
namespace Tm
/-- Where two sorted lists are parted so that no member of the left halves is above one of the right ones. -/
theorem Up.split {k : Int → Int} {u v : List Int} {T E : Nat} (hu : Up k u) (hv : Up k v) (h1 : T < u.length → 0 < E → E ≤ v.length → k (v.getD (E - 1) 0) < k (u.getD T 0)) (h2 : 0 < T → T ≤ u.length → E < v.length → k (u.getD (T - 1) 0) ≤ k (v.getD E 0)) (hT : T ≤ u.length) (hE : E ≤ v.length) :
    (∀ x ∈ v.take E, ∀ y ∈ u.drop T, k x < k y) ∧ (∀ x ∈ u.take T, ∀ y ∈ v.drop E, k x ≤ k y) := by
  constructor
  · intro x hx y hy
    have hE0 : 0 < E := by
      cases E with
      | zero => simp at hx
      | succ n => omega
    have hTu : T < u.length := by
      apply Classical.byContradiction
      intro hn
      rw [List.drop_eq_nil_of_le (by omega)] at hy
      cases hy
    have h := h1 hTu hE0 hE
    have hE1 : E - 1 < v.length := by omega
    rw [List.getD_eq_getElem?_getD, List.getD_eq_getElem?_getD, List.getElem?_eq_getElem hE1, List.getElem?_eq_getElem hTu] at h
    simp only [Option.getD_some] at h
    have a1 := hv.take_le (x := v[E - 1]) hE1 (Int.le_refl _) x (by rw [show E - 1 + 1 = E from by omega]; exact hx)
    have a2 := hu.drop_le (x := u[T]) hTu (Int.le_refl _) y hy
    omega
  · intro x hx y hy
    have hT0 : 0 < T := by
      cases T with
      | zero => simp at hx
      | succ n => omega
    have hEv : E < v.length := by
      apply Classical.byContradiction
      intro hn
      rw [List.drop_eq_nil_of_le (by omega)] at hy
      cases hy
    have h := h2 hT0 hT hEv
    have hT1 : T - 1 < u.length := by omega
    rw [List.getD_eq_getElem?_getD, List.getD_eq_getElem?_getD, List.getElem?_eq_getElem hT1, List.getElem?_eq_getElem hEv] at h
    simp only [Option.getD_some] at h
    have a1 := hu.take_le (x := u[T - 1]) hT1 (Int.le_refl _) x (by rw [show T - 1 + 1 = T from by omega]; exact hx)
    have a2 := hv.drop_le (x := v[E]) hEv (Int.le_refl _) y hy
    omega
end Tm
end Go.Proofs.YtmnjjjhmnhfapaaGreatDoor
/-
  Plain facts on the order of marks, and on the parts of runes.
-/
namespace Go.Proofs.YtmnjjjhmnhfapaaGreatDoor
namespace Tm

/-- A rune put ahead of others: it passes each mark whose class is smaller. -/
def insr (k : Int → Int) (x : Int) : List Int → List Int
  | [] => [x]
  | y :: t => if k y ≠ 0 ∧ k y < k x then y :: insr k x t else x :: y :: t
/-- The marks in the order of their classes. -/
def ord (k : Int → Int) : List Int → List Int
  | [] => []
  | x :: r => insr k x (ord k r)
theorem insr_length (k : Int → Int) (x : Int) (l : List Int) : (insr k x l).length = l.length + 1 := by
  induction l with
  | nil => rfl
  | cons y t ih => unfold insr; split <;> simp [ih]
theorem ord_length (k : Int → Int) (l : List Int) : (ord k l).length = l.length := by
  induction l with
  | nil => rfl
  | cons x r ih => rw [ord, insr_length, ih]; rfl

/-- Two neighbours that stand in the wrong order may change places. -/
theorem insr_comm {k : Int → Int} {a b : Int} (hb : k b ≠ 0) (hab : k b < k a) (l : List Int) : insr k a (insr k b l) = insr k b (insr k a l) := by
  induction l with
  | nil =>
    simp only [insr]
    rw [if_pos ⟨hb, hab⟩, if_neg (by omega)]
  | cons y t ih =>
    by_cases h1 : k y ≠ 0 ∧ k y < k b
    · have h2 : k y ≠ 0 ∧ k y < k a := ⟨h1.1, by omega⟩
      rw [insr, if_pos h1, insr, if_pos h2, insr, if_pos h2, insr, if_pos h1, ih]
    · rw [insr, if_neg h1, insr, if_pos ⟨hb, hab⟩]
      by_cases h2 : k y ≠ 0 ∧ k y < k a
      · rw [insr, if_pos h2, insr, if_neg h1]
      · rw [insr, if_neg h2, insr, if_neg (by omega)]
theorem ord_swap {k : Int → Int} {a b : Int} (hb : k b ≠ 0) (hab : k b < k a) (p q : List Int) : ord k (p ++ a :: b :: q) = ord k (p ++ b :: a :: q) := by
  induction p with
  | nil => simp only [List.nil_append, ord]; exact insr_comm hb hab _
  | cons x r ih => simp only [List.cons_append, ord, ih]
/-- No two neighbours in the wrong order. -/
def Calm (k : Int → Int) : List Int → Prop
  | [] => True
  | [_] => True
  | a :: b :: r => ¬ (k b ≠ 0 ∧ k b < k a) ∧ Calm k (b :: r)
theorem ord_calm {k : Int → Int} : ∀ {l : List Int}, Calm k l → ord k l = l
  | [], _ => rfl
  | [_], _ => rfl
  | a :: b :: r, h => by
    rw [ord, ord_calm h.2, insr, if_neg h.1]

/-- A rune of class 0 is passed by none, and passes none. -/
theorem insr_stop {k : Int → Int} {z : Int} (hz : k z = 0) (x : Int) (s t : List Int) : insr k x (s ++ z :: t) = insr k x s ++ z :: t := by
  induction s with
  | nil => simp [insr, hz]
  | cons y r ih =>
    simp only [List.cons_append]
    rw [insr, insr]
    split
    · rw [ih]; rfl
    · rfl
theorem ord_stop {k : Int → Int} (hk : ∀ x, 0 ≤ k x) {z : Int} (hz : k z = 0) (s t : List Int) : ord k (s ++ z :: t) = ord k s ++ z :: ord k t := by
  induction s with
  | nil =>
    simp only [List.nil_append, ord]
    cases h : ord k t with
    | nil => rfl
    | cons y r =>
      rw [insr, if_neg (by have := hk y; omega)]
  | cons x r ih => rw [List.cons_append, ord, ih, insr_stop hz]; rfl
/-- Marks alone: they are sorted. -/
theorem insr_sorts {k : Int → Int} {x : Int} : ∀ {l : List Int}, Up k l → (∀ y ∈ l, k y ≠ 0) → ∃ q1 q2, l = q1 ++ q2 ∧ insr k x l = q1 ++ x :: q2 ∧ (∀ y ∈ q1, k y < k x) ∧ (∀ y ∈ q2, k x ≤ k y)
  | [], _, _ => ⟨[], [], rfl, rfl, by simp, by simp⟩
  | y :: t, hu, hm => by
    have hu' := List.pairwise_cons.1 hu
    by_cases h : k y ≠ 0 ∧ k y < k x
    · obtain ⟨q1, q2, h1, h2, h3, h4⟩ := insr_sorts (x := x) hu'.2 (fun z hz => hm z (by simp [hz]))
      refine ⟨y :: q1, q2, by rw [h1]; rfl, by rw [insr, if_pos h, h2]; rfl, ?_, h4⟩
      intro z hz
      rcases List.mem_cons.1 hz with rfl | hz
      · exact h.2
      · exact h3 z hz
    · refine ⟨[], y :: t, rfl, by rw [insr, if_neg h]; rfl, by simp, ?_⟩
      have hy := hm y (by simp)
      intro z hz
      rcases List.mem_cons.1 hz with rfl | hz
      · omega
      · have := hu'.1 z hz; omega
theorem ord_sorts {k : Int → Int} : ∀ {l : List Int}, (∀ y ∈ l, k y ≠ 0) → Sorts k l (ord k l)
  | [], _ => ⟨List.Pairwise.nil, Same.refl _ _⟩
  | x :: r, hm => by
    have ih := ord_sorts (l := r) (fun y hy => hm y (by simp [hy]))
    have hm' : ∀ y ∈ ord k r, k y ≠ 0 := fun y hy => hm y (by simp [ih.2.mem.2 hy])
    obtain ⟨q1, q2, h1, h2, h3, h4⟩ := insr_sorts (x := x) ih.1 hm'
    rw [ord, h2]
    have hu := ih.1
    rw [h1] at hu
    have hu' := Up.append.1 hu
    constructor
    · refine Up.append.2 ⟨hu'.1, List.pairwise_cons.2 ⟨h4, hu'.2.1⟩, fun a ha b hb => ?_⟩
      rcases List.mem_cons.1 hb with rfl | hb
      · exact Int.le_of_lt (h3 a ha)
      · exact hu'.2.2 a ha b hb
    · have e1 : Same k ([x] ++ r) ([x] ++ (q1 ++ q2)) := Same.append (Same.refl _ _) (by rw [← h1]; exact ih.2)
      have e2 : Same k ([x] ++ q1) (q1 ++ [x]) := Same.comm fun a ha b hb => by
        simp at ha; subst ha
        have := h3 b hb; omega
      have e3 := Same.append e2 (Same.refl k q2)
      refine e1.trans ?_
      simpa [List.append_assoc] using e3
/-- Whatever sorts marks stably sorts them so. -/
theorem Sorts.ord_eq {k : Int → Int} {l s : List Int} (hm : ∀ y ∈ l, k y ≠ 0) (h : Sorts k l s) : s = ord k l :=
  Up.unique h.1 (ord_sorts hm).1 (h.2.symm.trans (ord_sorts hm).2)

/-- A rune, replaced by its parts down to runes without any. -/
def expand (lns : List Ln) : Nat → Int → List Int
  | 0, r => [r]
  | n + 1, r => if (parts lns r).length = 0 then [r] else (parts lns r).flatMap (expand lns n)
theorem expand_leaf {lns : List Ln} {n : Nat} {r : Int} (h : (parts lns r).length = 0) : expand lns n r = [r] := by
  cases n with
  | zero => rfl
  | succ n => rw [expand, if_pos h]
theorem expand_more {lns : List Ln} : ∀ {n : Nat} {r : Int}, ends lns n r = true → expand lns (n + 1) r = expand lns n r
  | 0, r, h => by
    have h0 : (parts lns r).length = 0 := by simpa [ends] using h
    rw [expand_leaf h0, expand_leaf h0]
  | n + 1, r, h => by
    by_cases h0 : (parts lns r).length = 0
    · rw [expand_leaf h0, expand_leaf h0]
    · rw [expand, if_neg h0, expand, if_neg h0]
      have hall : (parts lns r).all (ends lns n) = true := by
        rw [ends] at h
        simpa [h0] using h
      have hl : ∀ l : List Int, l.all (ends lns n) = true → l.flatMap (expand lns (n + 1)) = l.flatMap (expand lns n) := by
        intro l hl
        induction l with
        | nil => rfl
        | cons a q ih =>
          simp only [List.all_cons, Bool.and_eq_true] at hl
          rw [List.flatMap_cons, List.flatMap_cons, expand_more hl.1, ih hl.2]
      exact hl _ hall
theorem classOf_nonneg {lns : List Ln} (hf : ∀ o ∈ lns, Fit o) (r : Int) : 0 ≤ classOf lns r := by
  unfold classOf
  split
  · rename_i o ho
    have hm := List.mem_of_find?_eq_some ho
    have hp := List.find?_some ho
    simp only [isClass, Bool.and_eq_true, decide_eq_true_eq] at hp
    rcases (hf o hm).kinds with ⟨_, _, h, _⟩ | ⟨h, _⟩ | ⟨h, _⟩
    · omega
    · rw [hp.1] at h; simp at h
    · rw [hp.1] at h; simp at h
  · exact Int.le_refl _
end Tm
end Go.Proofs.YtmnjjjhmnhfapaaGreatDoor
namespace Go.Proofs.YtmnjjjhmnhfapaaGreatDoor
namespace Tm
theorem expand_length {lns : List Ln} (hp : ∀ r, (parts lns r).length ≤ 2) : ∀ (n : Nat) (r : Int), (expand lns n r).length ≤ 2 ^ n
  | 0, r => by simp [expand]
  | n + 1, r => by
    rw [expand]
    split
    · have := Nat.one_le_two_pow (n := n + 1); simpa using this
    · have h : ∀ l : List Int, (l.flatMap (expand lns n)).length ≤ l.length * 2 ^ n := by
        intro l
        induction l with
        | nil => simp
        | cons a q ih =>
          rw [List.flatMap_cons, List.length_append, List.length_cons, Nat.add_mul]
          have := expand_length hp n a
          omega
      have h1 := h (parts lns r)
      have h2 := Nat.mul_le_mul_right (2 ^ n) (hp r)
      rw [Nat.pow_succ]
      omega
theorem expand_part {lns : List Ln} {n : Nat} {r : Int} (h : ¬ (parts lns r).length = 0) : expand lns (n + 1) r = (parts lns r).flatMap (expand lns n) := by rw [expand, if_neg h]
theorem flat_snoc {l : List Int} {f : Int → List Int} {k : Nat} (h : k < l.length) : (l.take (k + 1)).flatMap f = (l.take k).flatMap f ++ f l[k] := by
  rw [List.take_succ_eq_append_getElem h, List.flatMap_append]; simp
theorem flat_short {lns : List Ln} (hp : ∀ r, (parts lns r).length ≤ 2) (n : Nat) (l : List Int) : (l.flatMap (expand lns n)).length ≤ l.length * 2 ^ n := by
  induction l with
  | nil => simp
  | cons a q ih =>
    rw [List.flatMap_cons, List.length_append, List.length_cons, Nat.add_mul]
    have := expand_length hp n a
    omega
end Tm
end Go.Proofs.YtmnjjjhmnhfapaaGreatDoor
/-
  Plain facts on the elements of a normal form.
-/
namespace Go.Proofs.YtmnjjjhmnhfapaaGreatDoor
namespace Tm

/-- Is it a sequence of the table? -/
def isS (lns : List Ln) (q : List Int) : Bool := !(seqOf lns q).isNone
/-- How many runes the sequence at the left end has; a rune that is none is taken alone. -/
def lead (lns : List Ln) (l : List Int) : Nat := if 3 ≤ l.length ∧ isS lns (l.take 3) = true then 3 else if 2 ≤ l.length ∧ isS lns (l.take 2) = true then 2 else 1
/-- A sequence that grows by free marks: it, and what is left. -/
def grow (lns : List Ln) : List Int → List Int → List Int → List Int × List Int
  | seq, pas, [] => (seq, pas)
  | seq, pas, c :: r => if classOf lns c = 0 then (seq, pas ++ c :: r) else if isS lns (seq ++ [c]) = true ∧ (∀ y ∈ pas, classOf lns y < classOf lns c) then grow lns (seq ++ [c]) pas r else grow lns seq (pas ++ [c]) r
/-- The elements of a rune that the table does not weigh. -/
def implicit (r : Int) : List El := [⟨64320 + r / 32768, 32, 2, false⟩, ⟨32768 + r % 32768, 0, 0, false⟩]
def weigh (lns : List Ln) (s : List Int) : List El := match seqOf lns s with
  | some e => e
  | none => implicit (s.getD 0 0)
/-- The elements, by at most n sequences. -/
def elems (lns : List Ln) : Nat → List Int → List El
  | 0, _ => []
  | n + 1, l => if l = [] then [] else weigh lns (grow lns (l.take (lead lns l)) [] (l.drop (lead lns l))).1 ++ elems lns n (grow lns (l.take (lead lns l)) [] (l.drop (lead lns l))).2
def elements (lns : List Ln) (l : List Int) : List El := elems lns l.length l

theorem lead_pos (lns : List Ln) (l : List Int) : 1 ≤ lead lns l := by
  unfold lead
  split
  · omega
  · split <;> omega
theorem lead_le {lns : List Ln} {l : List Int} (h : l ≠ []) : lead lns l ≤ l.length := by
  have h1 : 1 ≤ l.length := List.length_pos_iff.2 h
  unfold lead
  split
  · rename_i h; exact h.1
  · split
    · rename_i h; exact h.1
    · exact h1
theorem lead_three (lns : List Ln) (l : List Int) : lead lns l ≤ 3 := by
  unfold lead
  split
  · omega
  · split <;> omega

theorem grow_length (lns : List Ln) : ∀ (r s p : List Int), (grow lns s p r).1.length + (grow lns s p r).2.length = s.length + p.length + r.length
  | [], s, p => by simp [grow]
  | c :: r, s, p => by
    unfold grow
    split
    · simp; omega
    · split
      · have := grow_length lns r (s ++ [c]) p; simp at this; simp; omega
      · have := grow_length lns r s (p ++ [c]); simp at this; simp; omega
theorem grow_left (lns : List Ln) : ∀ (r s p : List Int), s.length ≤ (grow lns s p r).1.length
  | [], s, p => by simp [grow]
  | c :: r, s, p => by
    unfold grow
    split
    · simp
    · split
      · have := grow_left lns r (s ++ [c]) p; simp at this; omega
      · exact grow_left lns r s (p ++ [c])
/-- The first rune of a sequence that grows stays. -/
theorem grow_head (lns : List Ln) (x : Int) : ∀ (r s p : List Int), ∃ t, (grow lns (x :: s) p r).1 = x :: t
  | [], s, p => ⟨s, by simp [grow]⟩
  | c :: r, s, p => by
    unfold grow
    split
    · exact ⟨s, rfl⟩
    · split
      · exact grow_head lns x r (s ++ [c]) p
      · exact grow_head lns x r s (p ++ [c])
theorem grow_mem (lns : List Ln) : ∀ (r s p : List Int) (x : Int), (x ∈ (grow lns s p r).1 → x ∈ s ∨ x ∈ r) ∧ (x ∈ (grow lns s p r).2 → x ∈ p ∨ x ∈ r)
  | [], s, p, x => ⟨fun h => .inl h, fun h => .inl h⟩
  | c :: r, s, p, x => by
    unfold grow
    split
    · exact ⟨fun h => .inl h, fun h => List.mem_append.1 h⟩
    · split
      · obtain ⟨h1, h2⟩ := grow_mem lns r (s ++ [c]) p x
        refine ⟨fun h => ?_, fun h => ?_⟩
        · rcases h1 h with h | h
          · rcases List.mem_append.1 h with h | h
            · exact .inl h
            · exact .inr (by rw [List.mem_singleton.1 h]; exact List.mem_cons_self)
          · exact .inr (List.mem_cons_of_mem _ h)
        · rcases h2 h with h | h
          · exact .inl h
          · exact .inr (List.mem_cons_of_mem _ h)
      · obtain ⟨h1, h2⟩ := grow_mem lns r s (p ++ [c]) x
        refine ⟨fun h => ?_, fun h => ?_⟩
        · rcases h1 h with h | h
          · exact .inl h
          · exact .inr (List.mem_cons_of_mem _ h)
        · rcases h2 h with h | h
          · rcases List.mem_append.1 h with h | h
            · exact .inl h
            · exact .inr (by rw [List.mem_singleton.1 h]; exact List.mem_cons_self)
          · exact .inr (List.mem_cons_of_mem _ h)

/-- Enough sequences are enough. -/
theorem elems_more (lns : List Ln) : ∀ (n m : Nat) (l : List Int), l.length ≤ n → l.length ≤ m → elems lns n l = elems lns m l
  | 0, m, l, h, _ => by
    have : l = [] := List.eq_nil_of_length_eq_zero (by omega)
    subst this
    cases m <;> simp [elems]
  | n + 1, 0, l, _, h => by
    have : l = [] := List.eq_nil_of_length_eq_zero (by omega)
    subst this
    simp [elems]
  | n + 1, m + 1, l, h, h' => by
    unfold elems
    by_cases e : l = []
    · simp [e]
    · rw [if_neg e, if_neg e]
      have h1 := grow_length lns (l.drop (lead lns l)) (l.take (lead lns l)) []
      have h2 := grow_left lns (l.drop (lead lns l)) (l.take (lead lns l)) []
      have h3 := lead_pos lns l
      have h4 := lead_le (lns := lns) e
      simp at h1 h2
      rw [elems_more lns n m _ (by omega) (by omega)]
theorem elements_step {lns : List Ln} {l : List Int} (h : l ≠ []) : elements lns l = weigh lns (grow lns (l.take (lead lns l)) [] (l.drop (lead lns l))).1 ++ elements lns (grow lns (l.take (lead lns l)) [] (l.drop (lead lns l))).2 := by
  have h1 := grow_length lns (l.drop (lead lns l)) (l.take (lead lns l)) []
  have h2 := grow_left lns (l.drop (lead lns l)) (l.take (lead lns l)) []
  have h3 := lead_pos lns l
  have h4 := lead_le (lns := lns) h
  simp at h1 h2
  unfold elements
  obtain ⟨n, hn⟩ : ∃ n, l.length = n + 1 := ⟨l.length - 1, by omega⟩
  rw [hn]
  conv => lhs; unfold elems
  rw [if_neg h, elems_more lns n _ _ (by omega) (Nat.le_refl _)]
theorem elements_nil (lns : List Ln) : elements lns [] = [] := rfl

/-- A sequence of three runes does not grow, nor does a longer one. -/
theorem isS_long {lns : List Ln} (hf : ∀ o ∈ lns, Fit o) {q : List Int} (h : 3 < q.length) : isS lns q = false := by
  unfold isS seqOf
  cases hq : lns.find? (isSeq q) with
  | none => rfl
  | some o =>
    have h1 := (hf o (List.mem_of_find?_eq_some hq)).few
    have h2 := List.find?_some hq
    have h3 : o.runes = q := by simp [isSeq] at h2; exact h2.2
    rw [h3] at h1; omega
theorem grow_full {lns : List Ln} (hf : ∀ o ∈ lns, Fit o) : ∀ (r s p : List Int), 3 ≤ s.length → grow lns s p r = (s, p ++ r)
  | [], s, p, _ => by simp [grow]
  | c :: r, s, p, h => by
    unfold grow
    split
    · rfl
    · rw [if_neg (by rw [isS_long hf (by simp; omega)]; simp), grow_full hf r s (p ++ [c]) h]
      simp

/-- In a calm run the mark that was passed last has the greatest class. -/
def top (k : Int → Int) (p : List Int) : Int := match p.getLast? with
  | some x => k x
  | none => 0
theorem top_snoc (k : Int → Int) (p : List Int) (c : Int) : top k (p ++ [c]) = k c := by simp [top]
theorem top_nil (k : Int → Int) : top k [] = 0 := rfl
theorem calm_tail {k : Int → Int} {x : Int} {l : List Int} (h : Calm k (x :: l)) : Calm k l := by
  cases l with
  | nil => trivial
  | cons y r => exact h.2
theorem calm_append {k : Int → Int} : ∀ {a b : List Int}, Calm k (a ++ b) → Calm k a ∧ Calm k b
  | [], b, h => ⟨trivial, h⟩
  | [x], b, h => ⟨trivial, calm_tail h⟩
  | x :: y :: a, b, h => by
    have := calm_append (a := y :: a) (b := b) h.2
    exact ⟨⟨h.1, this.1⟩, this.2⟩
theorem calm_drop {k : Int → Int} {l : List Int} (h : Calm k l) (n : Nat) : Calm k (l.drop n) := by
  rw [← List.take_append_drop n l] at h
  exact (calm_append h).2
/-- Marks that stand calmly ahead of a mark: none has a greater class. -/
theorem calm_le {k : Int → Int} {c : Int} {r : List Int} (hc : k c ≠ 0) : ∀ {p : List Int}, Calm k (p ++ c :: r) → (∀ y ∈ p, k y ≠ 0) → ∀ y ∈ p, k y ≤ k c
  | [], _, _, y, hy => by cases hy
  | [x], h, _, y, hy => by
    simp at hy; subst hy
    have := h.1
    omega
  | x :: z :: p, h, hm, y, hy => by
    have ih := calm_le hc (p := z :: p) h.2 (fun y hy => hm y (List.mem_cons_of_mem _ hy))
    rcases List.mem_cons.1 hy with rfl | hy
    · have h1 := ih z (by simp)
      have h2 := h.1
      have h3 := hm z (by simp)
      omega
    · exact ih y hy
theorem free_top {k : Int → Int} (hk : ∀ x, 0 ≤ k x) {c : Int} {p r : List Int} (hc : k c ≠ 0) (h : Calm k (p ++ c :: r)) (hm : ∀ y ∈ p, k y ≠ 0) : (∀ y ∈ p, k y < k c) ↔ top k p < k c := by
  rcases List.eq_nil_or_concat p with rfl | ⟨q, x, rfl⟩
  · simp [top]
    have := hk c; omega
  · rw [List.concat_eq_append] at h hm ⊢
    rw [top_snoc]
    constructor
    · intro h'; exact h' x (by simp)
    · intro hx y hy
      rcases List.mem_append.1 hy with hy | hy
      · have hq : Calm k (q ++ x :: c :: r) := by simpa using h
        have := calm_le (hm x (by simp)) hq (fun y hy => hm y (by simp [hy])) y hy
        omega
      · simp at hy; subst hy; exact hx
/-- A mark may be taken out of a calm run. -/
theorem calm_out {k : Int → Int} {c : Int} {r : List Int} (hc : k c ≠ 0) : ∀ {p : List Int}, Calm k (p ++ c :: r) → Calm k (p ++ r)
  | [], h => calm_tail h
  | [x], h => by
    cases r with
    | nil => trivial
    | cons y r =>
      refine ⟨?_, h.2.2⟩
      have h1 := h.1
      have h2 := h.2.1
      omega
  | x :: z :: p, h => ⟨h.1, calm_out hc (p := z :: p) h.2⟩
theorem grow_calm {lns : List Ln} : ∀ (r s p : List Int), Calm (classOf lns) (p ++ r) → Calm (classOf lns) (grow lns s p r).2
  | [], s, p, h => by simpa [grow] using h
  | c :: r, s, p, h => by
    unfold grow
    split
    · exact h
    · rename_i hc
      split
      · exact grow_calm r _ _ (calm_out hc h)
      · exact grow_calm r _ _ (by simpa using h)
theorem ord_is_calm {k : Int → Int} (l : List Int) : Calm k (ord k l) := by
  induction l with
  | nil => trivial
  | cons x r ih =>
    rw [ord]
    generalize ord k r = m at *
    clear r
    induction m with
    | nil => trivial
    | cons y t ih2 =>
      unfold insr
      split
      · rename_i h
        have h1 := ih2 (calm_tail ih)
        cases t with
        | nil => exact ⟨by omega, trivial⟩
        | cons z u =>
          have h2 := ih.1
          unfold insr at h1 ⊢
          split
          · rename_i h3
            rw [if_pos h3] at h1
            exact ⟨h2, h1⟩
          · rename_i h3
            rw [if_neg h3] at h1
            exact ⟨by omega, h1⟩
      · rename_i h
        exact ⟨h, ih⟩
end Tm
end Go.Proofs.YtmnjjjhmnhfapaaGreatDoor
