import Derived.Deep.RegionWith
import Derived.Laws.RangeAny
import Derived.Test.YtmnjjjhmnhfapaaGreatDoorMRefTwice
import Derived.Test.YtmnjjjhmnhfapaaGreatDoorMRefParse
import Derived.Test.YtmnjjjhmnhfapaaGreatDoorMPlain
import Derived.Test.YtmnjjjhmnhfapaaGreatDoorMRefFirst
namespace Go.Proofs.YtmnjjjhmnhfapaaGreatDoor
open Go.RowKit

theorem stepAll_snoc {lns : List Tm.Ln} {l : List Int} {k : Nat} (hk : k < l.length) : Tm.stepAll lns (l.take (k + 1)) = Tm.stepAll lns (l.take k) ++ Tm.step1 lns l[k] := by
  unfold Tm.stepAll
  rw [List.take_succ_eq_append_getElem hk, List.flatMap_append]
  simp
theorem hasParts_snoc {lns : List Tm.Ln} {l : List Int} {k : Nat} (hk : k < l.length) : Tm.hasParts lns (l.take (k + 1)) = (Tm.hasParts lns (l.take k) || !decide ((Tm.parts lns l[k]).length = 0)) := by
  unfold Tm.hasParts
  rw [List.take_succ_eq_append_getElem hk, List.any_append]
  simp
theorem parts_short {lns : List Tm.Ln} (h : ∀ o ∈ lns, o.runes.length ≤ 3) (r : Int) : (Tm.parts lns r).length ≤ 2 := by
  unfold Tm.parts
  cases hf : lns.find? (Tm.isParts r) with
  | none => simp
  | some o => have := h o (List.mem_of_find?_eq_some hf); simp; omega
theorem stepAll_short {lns : List Tm.Ln} (h : ∀ o ∈ lns, o.runes.length ≤ 3) (l : List Int) : (Tm.stepAll lns l).length ≤ 2 * l.length := by
  unfold Tm.stepAll
  induction l with
  | nil => simp
  | cons a r ih =>
    have h1 : (Tm.step1 lns a).length ≤ 2 := by
      unfold Tm.step1
      split
      · simp
      · exact parts_short h a
    simp only [List.flatMap_cons, List.length_append, List.length_cons]
    omega

theorem news_at {w : World} {g off : Nat} {xs : List Value} (h : ∀ j u, xs[j]? = some u → w.cell? ⟨g, off + j, none⟩ = some u) : ∀ j u, xs[j]? = some u → w.cell? ((⟨g, off, none⟩ : Addr).add j) = some u := by
  intro j u hu
  have hadd : (⟨g, off, none⟩ : Addr).add j = ⟨g, off + j, none⟩ := by unfold Addr.add; split <;> simp_all
  rw [hadd]
  exact h j u hu
theorem ints_one {l : List Int} : ∀ u ∈ ints l, u.oneCell' = true := by
  intro u hu
  obtain ⟨x, _, rfl⟩ := List.mem_map.1 hu
  rfl
theorem owns_mono {w : World} {base base' : Nat} {e : TypeId} {size : Nat} {v : Value} {n : Nat} {xs : List Value} (h : w.ownsRow base e size v n xs) (hb : base' ≤ base) : w.ownsRow base' e size v n xs := by
  refine ⟨h.1, ?_⟩
  rcases h.2 with h2 | ⟨g, cap, cur, hv, hg, r⟩
  · exact .inl h2
  · exact .inr ⟨g, cap, cur, hv, by omega, r⟩

set_option maxRecDepth 100000 in
set_option maxHeartbeats 2000000 in
theorem steps_any (vl : Value) (st : Int) (sh : Bool) (vs : Value) (l : List Int) (lns : List Tm.Ln) (w : World) (ht : TableRd w vl lns) (hs : Reads w vs 1 l.length (ints l)) (hl : lns.length ≤ 1000000) (hl2 : l.length ≤ 1000000) (hl3 : ∀ o ∈ lns, o.runes.length ≤ 3) (hne : ∀ o ∈ lns, o.runes ≠ []) :
    Calls Tryz.prog 81 #[.agg #[vl, .int .i64 st, .bool sh], vs] w fun e w' => ∃ v, e = .returned (.tuple #[v, .bool (Tm.hasParts lns l)]) ∧ w'.ownsRow w.heap.size 3 1 v (Tm.stepAll lns l).length (ints (Tm.stepAll lns l)) ∧ Below w.heap.size w w' := by
  obtain ⟨a, cap, rfl⟩ := ht.shape
  obtain ⟨i0, hi, hz0, hz1, hz2⟩ := info_parts Tryz.infoInt
  have HT := hide ht
  have HS := hide hs
  have HL3 := hide hl3
  have HNE := hide hne
  obtain ⟨as0, caps, rfl⟩ := hs.shape
  clear ht hs hl3 hne
  go_enter Tryz.func81, Tryz.ntmps81
  go_wp2
  go_loopw [6, 7, 8] (fun o y i wr => ∃ k : Nat, k ≤ l.length ∧ i = .int .i64 k ∧ y = .bool (Tm.hasParts lns (l.take k)) ∧ wr.ownsRow (w.heap.size + 1) 3 1 o (Tm.stepAll lns (l.take k)).length (ints (Tm.stepAll lns (l.take k))) ∧ Below (w.heap.size + 1) (w.alloc (.cells #[.slice a lns.length cap, .int .i64 st, .bool sh] 29)) wr) (fun _ _ i _ => l.length - (intOf i).toNat)
  case atStart => exact ⟨0, Nat.zero_le _, rfl, rfl, World.ownsRow_nil _ _ _ _, Below.refl _ _⟩
  case round =>
    obtain ⟨k, hk, rfl, rfl, hown, hb⟩ := hrel
    have hb0 : Below w.heap.size w wr := ((Below.refl _ _).alloc (Nat.le_refl _) _).trans (hb.mono (by omega))
    have HB := hide hb0
    have HBB := hide hb
    have b0 : wr.cell? ⟨w.heap.size, 0, none⟩ = some (.slice a lns.length cap) := by rw [hb.cell (by simp)]; simp
    have b1 : wr.cell? ⟨w.heap.size, 1, none⟩ = some (.int .i64 st) := by rw [hb.cell (by simp)]; simp
    have b2 : wr.cell? ⟨w.heap.size, 2, none⟩ = some (.bool sh) := by rw [hb.cell (by simp)]; simp
    have hzr : w.heap.size + 1 ≤ wr.heap.size := by have := hb.size; simpa using this
    by_cases hlt : k < l.length
    · obtain ⟨gs, offs, rfl, hgs, cs⟩ := (HS.out.below hb0 HS.out.2.1).at hlt
      have HS1 := hide (stepAll_snoc (lns := lns) hlt)
      have HP1 := hide (hasParts_snoc (lns := lns) hlt)
      have hsh := stepAll_short HL3.out (l.take k)
      have hsh2 : (l.take k).length ≤ k := List.length_take_le _ _
      have hps := parts_short HL3.out l[k]
      have htw := HT.out.below hb0
      have i1 : (0 : Int) ≤ (k : Int) := by omega
      have i2 : (k : Int) < (l.length : Int) := by omega
      generalize hx : l[k] = x at *
      clear hb hb0 hx
      go_upto_region 6 with fail
      go_cut [9] from 16 to 21 (fun t wx => Reads wr t 1 (Tm.parts lns x).length (ints (Tm.parts lns x)) ∧ Below wr.heap.size wr wx)
      case first =>
        go_region_with (go_at_call 124; refine (Parts_any _ st sh x lns _ (by exact htw.below (Below.refl _ _).drew) HNE.out hl).mono ?_; rintro e w2 ⟨v, rfl, hrd, hbp⟩)
        all_goals (go_wp2_with fail; go_meet; exact ⟨hrd, ((Below.refl _ _).drew).trans hbp⟩)
      case rest =>
        obtain ⟨hrd, hbp⟩ := hcut
        have hownc := owns_below hown hbp
        have hrdc := hrd.below hbp hrd.2.1
        have HBC : Hid (Below (w.heap.size + 1) (w.alloc (.cells #[.slice a lns.length cap, .int .i64 st, .bool sh] 29)) wc) := HBB.out.trans (hbp.mono hzr)
        have hzc : wr.heap.size ≤ wc.heap.size := hbp.size
        have cs' : wc.cell? ⟨gs, offs + k, none⟩ = some (.int .i64 x) := by rw [hbp.cell (by simpa using hgs)]; exact cs
        obtain ⟨ap, capp, rfl⟩ := hrd.shape
        obtain ⟨ao, capo, rfl⟩ := (Reads.of_owns hownc).shape
        have HST : Hid (Tm.step1 lns x = if (Tm.parts lns x).length = 0 then [x] else Tm.parts lns x) := rfl
        clear hown hbp hrd
        generalize Tm.parts lns x = ps at *
        by_cases hp0 : ps.length = 0
        · have hpb : ((ps.length : Int) == 0) = true := by rw [beq_iff_eq]; omega
          have HSX := hide (HST.out.trans (if_pos hp0))
          clear hp0
          go_wp2_with (at_builtin; refine wpList_append_own _ rfl _ _ 83 rfl (w.heap.size + 1) 3 i0 (.int .i64 0) 1 8 Tryz.underlying83 hi hz0 hz1 hz2 rfl (by decide) _ _ _ rfl (hownc.alloc _) ⟨wc.heap.size, 0, none⟩ 1 1 [.int .i64 x] rfl rfl news_one (by intro u hu; simp at hu; subst hu; rfl) (by unfold maxLen; omega) (by omega) (by simp; omega) ?_)
          intro v' w3 hown' hgrow _
          have hown2 : w3.ownsRow (w.heap.size + 1) 3 1 v' (Tm.stepAll lns (l.take (k + 1))).length (ints (Tm.stepAll lns (l.take (k + 1)))) := by
            rw [HS1.out, HSX.out]; simpa [ints] using hown'
          have hb3 : Hid (Below (w.heap.size + 1) (w.alloc (.cells #[.slice a lns.length cap, .int .i64 st, .bool sh] 29)) w3) := (HBC.out.alloc (by omega) _).grown hgrow (by simp; omega) (fun k hk => (hownc.lt k hk).1)
          have HH : Hid (Tm.hasParts lns (l.take (k + 1)) = Tm.hasParts lns (l.take k)) := by
            unfold Hid
            rw [HP1.out]
            have : decide (ps.length = 0) = true := by simp at hpb; simp [hpb]
            rw [this]; simp
          clear hown' hgrow hownc hrdc
          go_wp2
          go_roundw
          case rel => exact ⟨k + 1, by omega, by go_num, by rw [HH.out], hown2, hb3.out⟩
          case measure => simp [intOf]; omega
        · have hpb : ((ps.length : Int) == 0) = false := by rw [beq_eq_false_iff_ne]; omega
          have HSX := hide (HST.out.trans (if_neg hp0))
          obtain ⟨gp, offp, cp, he, hgp, hcp⟩ := hrdc.form (by rw [ints_length]; omega)
          cases he
          have hpp : 0 < ps.length := by omega
          have HH : Hid (Tm.hasParts lns (l.take (k + 1)) = true) := by
            unfold Hid
            rw [HP1.out]
            simp [hp0]
          clear hp0
          go_wp2_with (at_builtin; go_must (refine wpList_append_own _ rfl _ _ 83 rfl (w.heap.size + 1) 3 i0 (.int .i64 0) 1 8 Tryz.underlying83 hi hz0 hz1 hz2 rfl (by decide) _ _ _ rfl hownc ⟨gp, offp, none⟩ ps.length _ (ints ps) rfl (by simp [ints]) (by exact news_at hcp) ints_one (by unfold maxLen; omega) (by omega) (by omega) ?_))
          intro v' w3 hown' hgrow _
          have hown2 : w3.ownsRow (w.heap.size + 1) 3 1 v' (Tm.stepAll lns (l.take (k + 1))).length (ints (Tm.stepAll lns (l.take (k + 1)))) := by
            rw [HS1.out, HSX.out]; simpa [ints] using hown'
          have hb3 : Hid (Below (w.heap.size + 1) (w.alloc (.cells #[.slice a lns.length cap, .int .i64 st, .bool sh] 29)) w3) := HBC.out.grown hgrow (by omega) (fun k hk => (hownc.lt k hk).1)
          clear hown' hgrow hownc hrdc
          go_wp2
          go_roundw
          case rel => exact ⟨k + 1, by omega, by go_num, by rw [HH.out], hown2, hb3.out⟩
          case measure => simp [intOf]; omega
    · have e1 : l.take k = l := List.take_of_length_le (by omega)
      rw [e1] at hown
      have HE := hide e1
      obtain ⟨ao, capo, rfl⟩ := (Reads.of_owns hown).shape
      have HO := hide hown
      clear e1 hown hb hb0
      go_wp2
      go_ret2
      exact ⟨.slice ao (Tm.stepAll lns l).length capo, by rw [HE.out]; rfl, owns_mono HO.out (by omega), HB.out⟩
end Go.Proofs.YtmnjjjhmnhfapaaGreatDoor
/-
  Plain facts on lists sorted by a key, equals in their order.
-/
namespace Go.Proofs.YtmnjjjhmnhfapaaGreatDoor
namespace Tm

/-- Sorted by a key. -/
def Up (k : Int → Int) (l : List Int) : Prop := l.Pairwise fun a b => k a ≤ k b
/-- Of each key the same members, in the same order. -/
def Same (k : Int → Int) (l l' : List Int) : Prop := ∀ c, l.filter (fun x => k x == c) = l'.filter (fun x => k x == c)

theorem Same.refl (k : Int → Int) (l : List Int) : Same k l l := fun _ => rfl
theorem Same.symm {k : Int → Int} {l l' : List Int} (h : Same k l l') : Same k l' l := fun c => (h c).symm
theorem Same.trans {k : Int → Int} {a b c : List Int} (h : Same k a b) (h' : Same k b c) : Same k a c := fun x => (h x).trans (h' x)
theorem Same.append {k : Int → Int} {a a' b b' : List Int} (h : Same k a a') (h' : Same k b b') : Same k (a ++ b) (a' ++ b') := fun c => by
  rw [List.filter_append, List.filter_append, h c, h' c]
theorem Same.count {k : Int → Int} {l l' : List Int} (h : Same k l l') (x : Int) : l.count x = l'.count x := by
  have e : ∀ m : List Int, m.count x = (m.filter fun y => k y == k x).count x := fun m => by
    rw [List.count_filter (by simp)]
  rw [e l, e l', h]
theorem Same.perm {k : Int → Int} {l l' : List Int} (h : Same k l l') : l.Perm l' := List.perm_iff_count.2 h.count
theorem Same.length {k : Int → Int} {l l' : List Int} (h : Same k l l') : l.length = l'.length := h.perm.length_eq
theorem Same.mem {k : Int → Int} {l l' : List Int} (h : Same k l l') {x : Int} : x ∈ l ↔ x ∈ l' := h.perm.mem_iff

/-- One order alone. -/
theorem Up.unique {k : Int → Int} : ∀ {l l' : List Int}, Up k l → Up k l' → Same k l l' → l = l'
  | [], l', _, _, h => by
    have := h.length
    cases l' with
    | nil => rfl
    | cons b r => simp at this
  | a :: r, l', h1, h2, h => by
    cases l' with
    | nil => have := h.length; simp at this
    | cons b r' =>
      have h1' := List.pairwise_cons.1 h1
      have h2' := List.pairwise_cons.1 h2
      have hab : k a ≤ k b := by
        rcases List.mem_cons.1 (h.mem.2 (List.mem_cons_self (a := b) (l := r'))) with e | e
        · rw [e]; exact Int.le_refl _
        · exact h1'.1 b e
      have hba : k b ≤ k a := by
        rcases List.mem_cons.1 (h.mem.1 (List.mem_cons_self (a := a) (l := r))) with e | e
        · rw [e]; exact Int.le_refl _
        · exact h2'.1 a e
      have hk : k a = k b := by omega
      have hc := h (k a)
      rw [List.filter_cons, List.filter_cons, if_pos (by simp), if_pos (by simp [hk])] at hc
      have e := (List.cons.inj hc).1
      subst e
      congr 1
      refine Up.unique h1'.2 h2'.2 fun c => ?_
      have hc' := h c
      rw [List.filter_cons, List.filter_cons] at hc'
      split at hc'
      · exact (List.cons.inj hc').2
      · exact hc'

/-- Two parts that share no key may change places. -/
theorem Same.comm {k : Int → Int} {u v : List Int} (h : ∀ x ∈ u, ∀ y ∈ v, k x ≠ k y) : Same k (u ++ v) (v ++ u) := fun c => by
  rw [List.filter_append, List.filter_append]
  by_cases hu : u.filter (fun x => k x == c) = []
  · rw [hu]; simp
  · have hv : v.filter (fun x => k x == c) = [] := by
      rw [List.filter_eq_nil_iff]
      intro y hy hyc
      obtain ⟨x, hx⟩ := List.exists_mem_of_ne_nil _ hu
      obtain ⟨hxu, hxc⟩ := List.mem_filter.1 hx
      exact h x hxu y hy ((by simpa using hxc : k x = c).trans (by simpa using hyc : k y = c).symm)
    rw [hv]; simp
theorem Same.swap {k : Int → Int} {p q : List Int} {x y : Int} (h : k x ≠ k y) : Same k (p ++ x :: y :: q) (p ++ y :: x :: q) := by
  refine Same.append (Same.refl k p) ?_
  have := Same.append (Same.comm (k := k) (u := [x]) (v := [y]) (by simpa using h)) (Same.refl k q)
  simpa using this

theorem Up.append {k : Int → Int} {u v : List Int} : Up k (u ++ v) ↔ Up k u ∧ Up k v ∧ ∀ x ∈ u, ∀ y ∈ v, k x ≤ k y := by
  unfold Up; rw [List.pairwise_append]
theorem Up.same {k : Int → Int} {u u' v v' : List Int} (hu : Up k u') (hv : Up k v') (su : Same k u u') (sv : Same k v v') (h : ∀ x ∈ u, ∀ y ∈ v, k x ≤ k y) : Up k (u' ++ v') :=
  Up.append.2 ⟨hu, hv, fun x hx y hy => h x (su.mem.2 hx) y (sv.mem.2 hy)⟩

/-- What a sort, or a merge, makes of the middle of a list. -/
def Sorts (k : Int → Int) (s s' : List Int) : Prop := Up k s' ∧ Same k s s'
theorem Sorts.of_up {k : Int → Int} {s : List Int} (h : Up k s) : Sorts k s s := ⟨h, Same.refl _ _⟩

/-- Four parts: the two halves of a merge. -/
theorem Sorts.merge {k : Int → Int} {u1 u2 v1 v2 l r : List Int} (hl : Sorts k (u1 ++ v1) l) (hr : Sorts k (u2 ++ v2) r) (hu : Up k (u1 ++ u2)) (hv : Up k (v1 ++ v2)) (h1 : ∀ x ∈ v1, ∀ y ∈ u2, k x < k y) (h2 : ∀ x ∈ u1, ∀ y ∈ v2, k x ≤ k y) :
    Sorts k ((u1 ++ u2) ++ (v1 ++ v2)) (l ++ r) := by
  have hu' := Up.append.1 hu
  have hv' := Up.append.1 hv
  constructor
  · refine Up.same hl.1 hr.1 hl.2 hr.2 ?_
    intro x hx y hy
    rcases List.mem_append.1 hx with hx | hx <;> rcases List.mem_append.1 hy with hy | hy
    · exact hu'.2.2 x hx y hy
    · exact h2 x hx y hy
    · exact Int.le_of_lt (h1 x hx y hy)
    · exact hv'.2.2 x hx y hy
  · have e : Same k (u2 ++ v1) (v1 ++ u2) := Same.comm fun x hx y hy => by have := h1 y hy x hx; omega
    have e2 : Same k ((u1 ++ u2) ++ (v1 ++ v2)) ((u1 ++ v1) ++ (u2 ++ v2)) := by
      have := Same.append (Same.append (Same.refl k u1) e) (Same.refl k v2)
      simpa [List.append_assoc] using this
    exact e2.trans (hl.2.append hr.2)
end Tm
end Go.Proofs.YtmnjjjhmnhfapaaGreatDoor
namespace Go.Proofs.YtmnjjjhmnhfapaaGreatDoor
namespace Tm
/-- One more, put in its place. -/
theorem Sorts.insert {k : Int → Int} {t s q1 q2 : List Int} {x : Int} (h : Sorts k t s) (hs : s = q1 ++ q2) (h1 : ∀ y ∈ q1, k y ≤ k x) (h2 : ∀ y ∈ q2, k x < k y) : Sorts k (t ++ [x]) (q1 ++ x :: q2) := by
  subst hs
  have hu := Up.append.1 h.1
  constructor
  · refine Up.append.2 ⟨hu.1, List.pairwise_cons.2 ⟨fun y hy => Int.le_of_lt (h2 y hy), hu.2.1⟩, fun a ha b hb => ?_⟩
    rcases List.mem_cons.1 hb with rfl | hb
    · exact h1 a ha
    · exact hu.2.2 a ha b hb
  · have e : Same k (t ++ [x]) ((q1 ++ q2) ++ [x]) := h.2.append (Same.refl _ _)
    have e2 : Same k (q2 ++ [x]) ([x] ++ q2) := Same.comm fun a ha b hb => by
      simp at hb; subst hb
      have := h2 a ha; omega
    refine e.trans ?_
    have := Same.append (Same.refl k q1) e2
    simpa [List.append_assoc] using this
/-- What lies ahead of a place is not above what the last of it is not above. -/
theorem Up.last_le {k : Int → Int} {q : List Int} {y x : Int} (h : Up k (q ++ [y])) (hy : k y ≤ k x) : ∀ z ∈ q ++ [y], k z ≤ k x := by
  intro z hz
  have hu := Up.append.1 h
  rcases List.mem_append.1 hz with hz | hz
  · have := hu.2.2 z hz y (by simp); omega
  · simp at hz; subst hz; exact hy
end Tm
end Go.Proofs.YtmnjjjhmnhfapaaGreatDoor
namespace Go.Proofs.YtmnjjjhmnhfapaaGreatDoor
namespace Tm
theorem Up.take_lt {k : Int → Int} {v : List Int} {i : Nat} {x : Int} (h : Up k v) (hi : i < v.length) (hx : k v[i] < k x) : ∀ y ∈ v.take (i + 1), k y < k x := by
  intro y hy
  rw [List.take_succ_eq_append_getElem hi] at hy
  rcases List.mem_append.1 hy with hy | hy
  · have hu : Up k (v.take i ++ v.drop i) := by rw [List.take_append_drop]; exact h
    have := (Up.append.1 hu).2.2 y hy v[i] (by rw [List.drop_eq_getElem_cons hi]; exact List.mem_cons_self)
    omega
  · simp at hy; subst hy; exact hx
theorem Up.take_le {k : Int → Int} {v : List Int} {i : Nat} {x : Int} (h : Up k v) (hi : i < v.length) (hx : k v[i] ≤ k x) : ∀ y ∈ v.take (i + 1), k y ≤ k x := by
  intro y hy
  rw [List.take_succ_eq_append_getElem hi] at hy
  rcases List.mem_append.1 hy with hy | hy
  · have hu : Up k (v.take i ++ v.drop i) := by rw [List.take_append_drop]; exact h
    have := (Up.append.1 hu).2.2 y hy v[i] (by rw [List.drop_eq_getElem_cons hi]; exact List.mem_cons_self)
    omega
  · simp at hy; subst hy; exact hx
theorem Up.drop_le {k : Int → Int} {v : List Int} {i : Nat} {x : Int} (h : Up k v) (hi : i < v.length) (hx : k x ≤ k v[i]) : ∀ y ∈ v.drop i, k x ≤ k y := by
  intro y hy
  rw [List.drop_eq_getElem_cons hi] at hy
  rcases List.mem_cons.1 hy with rfl | hy
  · exact hx
  · have hu : Up k (v.take i ++ v.drop i) := by rw [List.take_append_drop]; exact h
    have hd := (Up.append.1 hu).2.1
    rw [List.drop_eq_getElem_cons hi] at hd
    have := (List.pairwise_cons.1 hd).1 y hy
    omega
theorem Up.drop_lt {k : Int → Int} {v : List Int} {i : Nat} {x : Int} (h : Up k v) (hi : i < v.length) (hx : k x < k v[i]) : ∀ y ∈ v.drop i, k x < k y := by
  intro y hy
  have := h.drop_le (x := v[i]) hi (Int.le_refl _) y hy
  omega
end Tm
end Go.Proofs.YtmnjjjhmnhfapaaGreatDoor
namespace Go.Proofs.YtmnjjjhmnhfapaaGreatDoor
namespace Tm
/-- Where two sorted lists are parted so that no member of the left halves is above one of the right ones. -/
theorem Up.split {k : Int → Int} {u v : List Int} {T E : Nat} (hu : Up k u) (hv : Up k v) (h1 : T < u.length → 0 < E → E ≤ v.length → k (v.getD (E - 1) 0) < k (u.getD T 0)) (h2 : 0 < T → T ≤ u.length → E < v.length → k (u.getD (T - 1) 0) ≤ k (v.getD E 0)) (hT : T ≤ u.length) (hE : E ≤ v.length) :
    (∀ x ∈ v.take E, ∀ y ∈ u.drop T, k x < k y) ∧ (∀ x ∈ u.take T, ∀ y ∈ v.drop E, k x ≤ k y) := by
  constructor
  · intro x hx y hy
    have hE0 : 0 < E := by
      cases E with
      | zero => simp at hx
      | succ n => omega
    have hTu : T < u.length := by
      apply Classical.byContradiction
      intro hn
      rw [List.drop_eq_nil_of_le (by omega)] at hy
      cases hy
    have h := h1 hTu hE0 hE
    have hE1 : E - 1 < v.length := by omega
    rw [List.getD_eq_getElem?_getD, List.getD_eq_getElem?_getD, List.getElem?_eq_getElem hE1, List.getElem?_eq_getElem hTu] at h
    simp only [Option.getD_some] at h
    have a1 := hv.take_le (x := v[E - 1]) hE1 (Int.le_refl _) x (by rw [show E - 1 + 1 = E from by omega]; exact hx)
    have a2 := hu.drop_le (x := u[T]) hTu (Int.le_refl _) y hy
    omega
  · intro x hx y hy
    have hT0 : 0 < T := by
      cases T with
      | zero => simp at hx
      | succ n => omega
    have hEv : E < v.length := by
      apply Classical.byContradiction
      intro hn
      rw [List.drop_eq_nil_of_le (by omega)] at hy
      cases hy
    have h := h2 hT0 hT hEv
    have hT1 : T - 1 < u.length := by omega
    rw [List.getD_eq_getElem?_getD, List.getD_eq_getElem?_getD, List.getElem?_eq_getElem hT1, List.getElem?_eq_getElem hEv] at h
    simp only [Option.getD_some] at h
    have a1 := hu.take_le (x := u[T - 1]) hT1 (Int.le_refl _) x (by rw [show T - 1 + 1 = T from by omega]; exact hx)
    have a2 := hv.drop_le (x := v[E]) hEv (Int.le_refl _) y hy
    omega
end Tm
end Go.Proofs.YtmnjjjhmnhfapaaGreatDoor
/-
  Plain facts on the order of marks, and on the parts of runes.
-/
namespace Go.Proofs.YtmnjjjhmnhfapaaGreatDoor
namespace Tm

/-- A rune put ahead of others: it passes each mark whose class is smaller. -/
def insr (k : Int → Int) (x : Int) : List Int → List Int
  | [] => [x]
  | y :: t => if k y ≠ 0 ∧ k y < k x then y :: insr k x t else x :: y :: t
/-- The marks in the order of their classes. -/
def ord (k : Int → Int) : List Int → List Int
  | [] => []
  | x :: r => insr k x (ord k r)
theorem insr_length (k : Int → Int) (x : Int) (l : List Int) : (insr k x l).length = l.length + 1 := by
  induction l with
  | nil => rfl
  | cons y t ih => unfold insr; split <;> simp [ih]
theorem ord_length (k : Int → Int) (l : List Int) : (ord k l).length = l.length := by
  induction l with
  | nil => rfl
  | cons x r ih => rw [ord, insr_length, ih]; rfl

/-- Two neighbours that stand in the wrong order may change places. -/
theorem insr_comm {k : Int → Int} {a b : Int} (hb : k b ≠ 0) (hab : k b < k a) (l : List Int) : insr k a (insr k b l) = insr k b (insr k a l) := by
  induction l with
  | nil =>
    simp only [insr]
    rw [if_pos ⟨hb, hab⟩, if_neg (by omega)]
  | cons y t ih =>
    by_cases h1 : k y ≠ 0 ∧ k y < k b
    · have h2 : k y ≠ 0 ∧ k y < k a := ⟨h1.1, by omega⟩
      rw [insr, if_pos h1, insr, if_pos h2, insr, if_pos h2, insr, if_pos h1, ih]
    · rw [insr, if_neg h1, insr, if_pos ⟨hb, hab⟩]
      by_cases h2 : k y ≠ 0 ∧ k y < k a
      · rw [insr, if_pos h2, insr, if_neg h1]
      · rw [insr, if_neg h2, insr, if_neg (by omega)]
theorem ord_swap {k : Int → Int} {a b : Int} (hb : k b ≠ 0) (hab : k b < k a) (p q : List Int) : ord k (p ++ a :: b :: q) = ord k (p ++ b :: a :: q) := by
  induction p with
  | nil => simp only [List.nil_append, ord]; exact insr_comm hb hab _
  | cons x r ih => simp only [List.cons_append, ord, ih]
/-- No two neighbours in the wrong order. -/
def Calm (k : Int → Int) : List Int → Prop
  | [] => True
  | [_] => True
  | a :: b :: r => ¬ (k b ≠ 0 ∧ k b < k a) ∧ Calm k (b :: r)
theorem ord_calm {k : Int → Int} : ∀ {l : List Int}, Calm k l → ord k l = l
  | [], _ => rfl
  | [_], _ => rfl
  | a :: b :: r, h => by
    rw [ord, ord_calm h.2, insr, if_neg h.1]

/-- A rune of class 0 is passed by none, and passes none. -/
theorem insr_stop {k : Int → Int} {z : Int} (hz : k z = 0) (x : Int) (s t : List Int) : insr k x (s ++ z :: t) = insr k x s ++ z :: t := by
  induction s with
  | nil => simp [insr, hz]
  | cons y r ih =>
    simp only [List.cons_append]
    rw [insr, insr]
    split
    · rw [ih]; rfl
    · rfl
theorem ord_stop {k : Int → Int} (hk : ∀ x, 0 ≤ k x) {z : Int} (hz : k z = 0) (s t : List Int) : ord k (s ++ z :: t) = ord k s ++ z :: ord k t := by
  induction s with
  | nil =>
    simp only [List.nil_append, ord]
    cases h : ord k t with
    | nil => rfl
    | cons y r =>
      rw [insr, if_neg (by have := hk y; omega)]
  | cons x r ih => rw [List.cons_append, ord, ih, insr_stop hz]; rfl
/-- Marks alone: they are sorted. -/
theorem insr_sorts {k : Int → Int} {x : Int} : ∀ {l : List Int}, Up k l → (∀ y ∈ l, k y ≠ 0) → ∃ q1 q2, l = q1 ++ q2 ∧ insr k x l = q1 ++ x :: q2 ∧ (∀ y ∈ q1, k y < k x) ∧ (∀ y ∈ q2, k x ≤ k y)
  | [], _, _ => ⟨[], [], rfl, rfl, by simp, by simp⟩
  | y :: t, hu, hm => by
    have hu' := List.pairwise_cons.1 hu
    by_cases h : k y ≠ 0 ∧ k y < k x
    · obtain ⟨q1, q2, h1, h2, h3, h4⟩ := insr_sorts (x := x) hu'.2 (fun z hz => hm z (by simp [hz]))
      refine ⟨y :: q1, q2, by rw [h1]; rfl, by rw [insr, if_pos h, h2]; rfl, ?_, h4⟩
      intro z hz
      rcases List.mem_cons.1 hz with rfl | hz
      · exact h.2
      · exact h3 z hz
    · refine ⟨[], y :: t, rfl, by rw [insr, if_neg h]; rfl, by simp, ?_⟩
      have hy := hm y (by simp)
      intro z hz
      rcases List.mem_cons.1 hz with rfl | hz
      · omega
      · have := hu'.1 z hz; omega
theorem ord_sorts {k : Int → Int} : ∀ {l : List Int}, (∀ y ∈ l, k y ≠ 0) → Sorts k l (ord k l)
  | [], _ => ⟨List.Pairwise.nil, Same.refl _ _⟩
  | x :: r, hm => by
    have ih := ord_sorts (l := r) (fun y hy => hm y (by simp [hy]))
    have hm' : ∀ y ∈ ord k r, k y ≠ 0 := fun y hy => hm y (by simp [ih.2.mem.2 hy])
    obtain ⟨q1, q2, h1, h2, h3, h4⟩ := insr_sorts (x := x) ih.1 hm'
    rw [ord, h2]
    have hu := ih.1
    rw [h1] at hu
    have hu' := Up.append.1 hu
    constructor
    · refine Up.append.2 ⟨hu'.1, List.pairwise_cons.2 ⟨h4, hu'.2.1⟩, fun a ha b hb => ?_⟩
      rcases List.mem_cons.1 hb with rfl | hb
      · exact Int.le_of_lt (h3 a ha)
      · exact hu'.2.2 a ha b hb
    · have e1 : Same k ([x] ++ r) ([x] ++ (q1 ++ q2)) := Same.append (Same.refl _ _) (by rw [← h1]; exact ih.2)
      have e2 : Same k ([x] ++ q1) (q1 ++ [x]) := Same.comm fun a ha b hb => by
        simp at ha; subst ha
        have := h3 b hb; omega
      have e3 := Same.append e2 (Same.refl k q2)
      refine e1.trans ?_
      simpa [List.append_assoc] using e3
/-- Whatever sorts marks stably sorts them so. -/
theorem Sorts.ord_eq {k : Int → Int} {l s : List Int} (hm : ∀ y ∈ l, k y ≠ 0) (h : Sorts k l s) : s = ord k l :=
  Up.unique h.1 (ord_sorts hm).1 (h.2.symm.trans (ord_sorts hm).2)

/-- A rune, replaced by its parts down to runes without any. -/
def expand (lns : List Ln) : Nat → Int → List Int
  | 0, r => [r]
  | n + 1, r => if (parts lns r).length = 0 then [r] else (parts lns r).flatMap (expand lns n)
theorem expand_leaf {lns : List Ln} {n : Nat} {r : Int} (h : (parts lns r).length = 0) : expand lns n r = [r] := by
  cases n with
  | zero => rfl
  | succ n => rw [expand, if_pos h]
theorem expand_more {lns : List Ln} : ∀ {n : Nat} {r : Int}, ends lns n r = true → expand lns (n + 1) r = expand lns n r
  | 0, r, h => by
    have h0 : (parts lns r).length = 0 := by simpa [ends] using h
    rw [expand_leaf h0, expand_leaf h0]
  | n + 1, r, h => by
    by_cases h0 : (parts lns r).length = 0
    · rw [expand_leaf h0, expand_leaf h0]
    · rw [expand, if_neg h0, expand, if_neg h0]
      have hall : (parts lns r).all (ends lns n) = true := by
        rw [ends] at h
        simpa [h0] using h
      have hl : ∀ l : List Int, l.all (ends lns n) = true → l.flatMap (expand lns (n + 1)) = l.flatMap (expand lns n) := by
        intro l hl
        induction l with
        | nil => rfl
        | cons a q ih =>
          simp only [List.all_cons, Bool.and_eq_true] at hl
          rw [List.flatMap_cons, List.flatMap_cons, expand_more hl.1, ih hl.2]
      exact hl _ hall
theorem classOf_nonneg {lns : List Ln} (hf : ∀ o ∈ lns, Fit o) (r : Int) : 0 ≤ classOf lns r := by
  unfold classOf
  split
  · rename_i o ho
    have hm := List.mem_of_find?_eq_some ho
    have hp := List.find?_some ho
    simp only [isClass, Bool.and_eq_true, decide_eq_true_eq] at hp
    rcases (hf o hm).kinds with ⟨_, _, h, _⟩ | ⟨h, _⟩ | ⟨h, _⟩
    · omega
    · rw [hp.1] at h; simp at h
    · rw [hp.1] at h; simp at h
  · exact Int.le_refl _
end Tm
end Go.Proofs.YtmnjjjhmnhfapaaGreatDoor
namespace Go.Proofs.YtmnjjjhmnhfapaaGreatDoor
namespace Tm
theorem expand_length {lns : List Ln} (hp : ∀ r, (parts lns r).length ≤ 2) : ∀ (n : Nat) (r : Int), (expand lns n r).length ≤ 2 ^ n
  | 0, r => by simp [expand]
  | n + 1, r => by
    rw [expand]
    split
    · have := Nat.one_le_two_pow (n := n + 1); simpa using this
    · have h : ∀ l : List Int, (l.flatMap (expand lns n)).length ≤ l.length * 2 ^ n := by
        intro l
        induction l with
        | nil => simp
        | cons a q ih =>
          rw [List.flatMap_cons, List.length_append, List.length_cons, Nat.add_mul]
          have := expand_length hp n a
          omega
      have h1 := h (parts lns r)
      have h2 := Nat.mul_le_mul_right (2 ^ n) (hp r)
      rw [Nat.pow_succ]
      omega
theorem expand_part {lns : List Ln} {n : Nat} {r : Int} (h : ¬ (parts lns r).length = 0) : expand lns (n + 1) r = (parts lns r).flatMap (expand lns n) := by rw [expand, if_neg h]
theorem flat_snoc {l : List Int} {f : Int → List Int} {k : Nat} (h : k < l.length) : (l.take (k + 1)).flatMap f = (l.take k).flatMap f ++ f l[k] := by
  rw [List.take_succ_eq_append_getElem h, List.flatMap_append]; simp
theorem flat_short {lns : List Ln} (hp : ∀ r, (parts lns r).length ≤ 2) (n : Nat) (l : List Int) : (l.flatMap (expand lns n)).length ≤ l.length * 2 ^ n := by
  induction l with
  | nil => simp
  | cons a q ih =>
    rw [List.flatMap_cons, List.length_append, List.length_cons, Nat.add_mul]
    have := expand_length hp n a
    omega
end Tm
end Go.Proofs.YtmnjjjhmnhfapaaGreatDoor
/-
  The runes of a text, and its normal form, as plain functions.
-/
namespace Go.Proofs.YtmnjjjhmnhfapaaGreatDoor

theorem decode_width (s : ByteArray) (pos : Nat) (h : pos < s.size) : 1 ≤ (Utf8.decode s pos).2 := by
  by_cases ha : (s[pos]'h).toNat < 128
  · rw [decode_ascii s pos h ha]; exact Nat.le_refl _
  · exact (decode_high s pos h (by omega)).2
theorem decode_most (s : ByteArray) (pos : Nat) : (Utf8.decode s pos).1 ≤ 1114111 := by
  have hb : ∀ k, (s.get! (pos + k)).toNat < 256 := fun k => (s.get! (pos + k)).toNat_lt
  have h0 := hb 0; have h1 := hb 1; have h2 := hb 2; have h3 := hb 3
  simp only [Utf8.decode]
  repeat' split
  all_goals simp_all [Utf8.runeError, Utf8.valid]
  all_goals omega

/-- The runes of a text from a byte on. -/
def runesFrom (s : ByteArray) : Nat → Nat → List Int
  | 0, _ => []
  | f + 1, pos => if pos < s.size then ((Utf8.decode s pos).1 : Int) :: runesFrom s f (pos + (Utf8.decode s pos).2) else []
/-- The runes of a text. -/
def runesOf (s : ByteArray) : List Int := runesFrom s s.size 0
theorem runesFrom_end {s : ByteArray} {f pos : Nat} (h : s.size ≤ pos) : runesFrom s f pos = [] := by
  cases f with
  | zero => rfl
  | succ f => rw [runesFrom, if_neg (by omega)]
theorem runesFrom_fuel {s : ByteArray} : ∀ {f f' pos : Nat}, s.size ≤ pos + f → s.size ≤ pos + f' → runesFrom s f pos = runesFrom s f' pos
  | 0, f', pos, h, _ => by rw [runesFrom_end (by omega), runesFrom_end (by omega)]
  | f + 1, 0, pos, _, h' => by rw [runesFrom_end (by omega), runesFrom_end (by omega)]
  | f + 1, f' + 1, pos, h, h' => by
    rw [runesFrom, runesFrom]
    split
    · rename_i hp
      have := decode_width s pos hp
      rw [runesFrom_fuel (f := f) (f' := f') (by omega) (by omega)]
    · rfl
theorem runesFrom_step {s : ByteArray} {pos : Nat} (h : pos < s.size) : runesFrom s s.size pos = ((Utf8.decode s pos).1 : Int) :: runesFrom s s.size (pos + (Utf8.decode s pos).2) := by
  have e : runesFrom s s.size pos = runesFrom s (s.size + 1) pos := runesFrom_fuel (by omega) (by omega)
  rw [e, runesFrom, if_pos h]

theorem runesFrom_short {s : ByteArray} : ∀ {f pos : Nat}, (runesFrom s f pos).length ≤ s.size - pos
  | 0, pos => by simp [runesFrom]
  | f + 1, pos => by
    rw [runesFrom]
    split
    · rename_i h
      have h1 := decode_width s pos h
      have h2 := runesFrom_short (s := s) (f := f) (pos := pos + (Utf8.decode s pos).2)
      rw [List.length_cons]; omega
    · simp
theorem runesFrom_range {s : ByteArray} : ∀ {f pos : Nat}, ∀ x ∈ runesFrom s f pos, 0 ≤ x ∧ x ≤ 1114111
  | 0, pos, x, hx => by simp [runesFrom] at hx
  | f + 1, pos, x, hx => by
    rw [runesFrom] at hx
    split at hx
    · rcases List.mem_cons.1 hx with rfl | hx
      · have := decode_most s pos; omega
      · exact runesFrom_range x hx
    · cases hx

/-- The normal form of a text. -/
def normOf (lns : List Tm.Ln) (s : ByteArray) : List Int := Tm.ord (Tm.classOf lns) ((runesOf s).flatMap (Tm.expand lns 4))
end Go.Proofs.YtmnjjjhmnhfapaaGreatDoor
namespace Go.Proofs.YtmnjjjhmnhfapaaGreatDoor
open Go.RowKit

set_option maxRecDepth 100000 in
set_option maxHeartbeats 2000000 in
theorem Runes_any (s : ByteArray) (w : World) (hs : s.size ≤ 100000) :
    Calls Tryz.prog 90 #[.string s] w fun e w' => ∃ v, e = .returned v ∧ w'.ownsRow w.heap.size 3 1 v (runesOf s).length (ints (runesOf s)) ∧ Below w.heap.size w w' := by
  obtain ⟨i0, hi, hz0, hz1, hz2⟩ := info_parts Tryz.infoInt
  go_enter Tryz.func90, Tryz.ntmps90
  go_wp2
  go_loopw [3, 4] (fun v i wr => ∃ (pos : Nat) (ds : List Int), pos ≤ s.size ∧ i = .int .i64 pos ∧ ds ++ runesFrom s s.size pos = runesOf s ∧ ds.length ≤ pos ∧ wr.ownsRow w.heap.size 3 1 v ds.length (ints ds) ∧ Below w.heap.size w wr) (fun _ i _ => s.size - (intOf i).toNat)
  case atStart => exact ⟨0, [], Nat.zero_le _, rfl, rfl, Nat.le_refl _, World.ownsRow_nil _ _ _ _, Below.refl _ _⟩
  case round =>
    obtain ⟨pos, ds, hpz, rfl, hds, hdl, hown, hb⟩ := hrel
    have HDS := hide hds
    have HB := hide hb
    have hzr := hb.size
    clear hds hb
    by_cases hp : pos < s.size
    · have hwd := decode_width s pos hp
      have HSTEP := hide (runesFrom_step hp)
      have hmost := decode_fits s pos hp
      have HO := hide hown
      clear hown
      go_wp2_with fail
      refine (one_any (s.extract pos s.size) _ (by rw [extract_size s hpz]; unfold maxLen; omega) (by rw [extract_size s hpz]; omega)).mono ?_
      rintro e w2 ⟨rfl, rfl⟩
      rw [oneAns, decode_extract s hpz]
      obtain ⟨x, hx⟩ : ∃ x : Int, ((Utf8.decode s pos).1 : Int) = x := ⟨_, rfl⟩
      rw [hx] at HSTEP ⊢
      generalize (Utf8.decode s pos).2 = wd at *
      clear hx
      have hown := HO.out
      obtain ⟨ao, capo, rfl⟩ := (Reads.of_owns hown).shape
      go_wp2_with (at_builtin; refine wpList_append_own _ rfl _ _ 83 rfl w.heap.size 3 i0 (.int .i64 0) 1 8 Tryz.underlying83 hi hz0 hz1 hz2 rfl (by decide) _ _ _ rfl (hown.alloc _) ⟨w2.heap.size, 0, none⟩ 1 1 [.int .i64 x] rfl rfl news_one (by intro u hu; simp at hu; subst hu; rfl) (by unfold maxLen; omega) (by omega) (by simp; omega) ?_)
      intro v' w3 hown' hgrow _
      have hown2 : w3.ownsRow w.heap.size 3 1 v' (ds ++ [x]).length (ints (ds ++ [x])) := by
        simpa [ints] using hown'
      have hb3 : Hid (Below w.heap.size w w3) := (HB.out.alloc (by omega) _).grown hgrow (by simp; omega) (fun k hk => (hown.lt k hk).1)
      have HDS3 : Hid (ds ++ [x] ++ runesFrom s s.size (pos + wd) = runesOf s) := by unfold Hid; rw [← HDS.out, HSTEP.out]; simp
      clear hown' hgrow hown
      go_wp2
      go_roundw
      case rel => exact ⟨pos + wd, ds ++ [x], by omega, by go_num, HDS3.out, by simp; omega, hown2, hb3.out⟩
      case measure => simp [intOf]; omega
    · have HE : Hid (ds = runesOf s) := by have h := HDS.out; rw [runesFrom_end (by omega), List.append_nil] at h; exact h
      rw [HE.out] at hown
      have HO := hide hown
      clear hown
      go_wp2
      go_ret
      exact ⟨_, rfl, HO.out, HB.out⟩
end Go.Proofs.YtmnjjjhmnhfapaaGreatDoor
