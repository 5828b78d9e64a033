import Derived.Test.YtmnjjjhmnhfapaaDoorMRefOne
namespace Go.Proofs.YtmnjjjhmnhfapaaDoor
open Go.RowKit

/-- What `one` answers. -/
def oneAns (s : ByteArray) : Value := .tuple #[.int .i64 ((Utf8.decode s 0).1 : Int), .int .i64 ((Utf8.decode s 0).2 : Int)]
theorem oneAns_err {s : ByteArray} (h : Utf8.decode s 0 = (65533, 1)) : oneAns s = .tuple #[.int .i64 65533, .int .i64 1] := by unfold oneAns; rw [h]; rfl
theorem oneAns_of {s : ByteArray} {a b : Int} (h : ((Utf8.decode s 0).1 : Int) = a ∧ ((Utf8.decode s 0).2 : Int) = b) : oneAns s = .tuple #[.int .i64 a, .int .i64 b] := by unfold oneAns; rw [h.1, h.2]

set_option maxRecDepth 100000 in
set_option maxHeartbeats 2000000 in
theorem one_any (s : ByteArray) (w : World) (hs : s.size ≤ maxLen) (h0 : 0 < s.size) :
    Calls Tryd.prog 73 #[.string s] w fun e w' => e = .returned (oneAns s) ∧ w' = w := by
  unfold maxLen at hs
  have hb := byteAt_get h0
  have hu := byteAt_lt s 0
  by_cases h1 : byteAt s 0 < 128
  · have HV : Hid (oneAns s = .tuple #[.int .i64 (s[0].toNat : Int), .int .i64 1]) := by unfold Hid; rw [oneAns, decode_small h1, hb]; rfl
    have h2 : (s[0].toNat : Int) < 128 := by omega
    clear hb hu h1
    go_enter Tryd.func73, Tryd.ntmps73
    go_wp2
    go_ret2
    exact ⟨by rw [HV.out]; rfl, rfl⟩
  by_cases h2 : byteAt s 0 < 192 ∨ 248 ≤ byteAt s 0
  · have HV := hide (oneAns_err (decode_default (s := s) (by omega)))
    have h3 : ¬ (s[0].toNat : Int) < 128 := by omega
    rcases h2 with h2 | h2
    · have h4 : (s[0].toNat : Int) < 192 := by omega
      clear hb hu h1 h2
      go_enter Tryd.func73, Tryd.ntmps73
      go_wp2
      go_ret2
      exact ⟨by rw [HV.out]; rfl, rfl⟩
    · have h4 : 248 ≤ (s[0].toNat : Int) := by omega
      have h5 : (s[0].toNat : Int) < 256 := by omega
      clear hb hu h1 h2
      go_enter Tryd.func73, Tryd.ntmps73
      go_wp2
      go_ret2
      exact ⟨by rw [HV.out]; rfl, rfl⟩
  have hl : (∃ n least r0, Lead s n least r0 ∧ n = 2 ∧ least = 128 ∧ r0 = (s[0].toNat : Int) - 192 ∧ 192 ≤ (s[0].toNat : Int) ∧ (s[0].toNat : Int) < 224) ∨
      (∃ n least r0, Lead s n least r0 ∧ n = 3 ∧ least = 2048 ∧ r0 = (s[0].toNat : Int) - 224 ∧ 224 ≤ (s[0].toNat : Int) ∧ (s[0].toNat : Int) < 240) ∨
      (∃ n least r0, Lead s n least r0 ∧ n = 4 ∧ least = 65536 ∧ r0 = (s[0].toNat : Int) - 240 ∧ 240 ≤ (s[0].toNat : Int) ∧ (s[0].toNat : Int) < 248) := by
    by_cases h3 : byteAt s 0 < 224
    · exact .inl ⟨2, 128, _, .inl ⟨rfl, rfl, by omega, by omega, rfl⟩, rfl, rfl, by omega, by omega, by omega⟩
    by_cases h4 : byteAt s 0 < 240
    · exact .inr (.inl ⟨3, 2048, _, .inr (.inl ⟨rfl, rfl, by omega, by omega, rfl⟩), rfl, rfl, by omega, by omega, by omega⟩)
    · exact .inr (.inr ⟨4, 65536, _, .inr (.inr ⟨rfl, rfl, by omega, by omega, rfl⟩), rfl, rfl, by omega, by omega, by omega⟩)
  clear hb hu h1 h2
  rcases hl with ⟨n, least, r0, hl, rfl, rfl, rfl, h1, h2⟩ | ⟨n, least, r0, hl, rfl, rfl, rfl, h1, h2⟩ | ⟨n, least, r0, hl, rfl, rfl, rfl, h1, h2⟩
  all_goals
    have HL := hide hl
    clear hl
  · by_cases hz : s.size < 2
    · have HV := hide (oneAns_err (HL.out.short hz))
      go_enter Tryd.func73, Tryd.ntmps73
      go_wp2
      go_ret2
      exact ⟨by rw [HV.out]; rfl, rfl⟩
    go_enter Tryd.func73, Tryd.ntmps73
    go_wp2
    go_loop [7, 8] (fun r i => ∃ k : Nat, 1 ≤ k ∧ k ≤ 2 ∧ i = .int .i64 k ∧ (∀ j, 1 ≤ j → j < k → 128 ≤ byteAt s j ∧ byteAt s j < 192) ∧ r = .int .i64 (foldR s ((s[0].toNat : Int) - 192) k)) (fun _ i => 2 - (intOf i).toNat)
    case atStart => exact ⟨1, by omega, by omega, rfl, fun j h h' => by omega, rfl⟩
    case round =>
      obtain ⟨k, hk1, hk2, rfl, hc, rfl⟩ := hrel
      have hbd := HL.out.bound k hk2 hc
      have HC := hide hc
      clear hc
      by_cases hlt : k < 2
      · have hks : k < s.size := by omega
        have hbk := byteAt_get hks
        have hbl := byteAt_lt s k
        have HST := hide (foldR_step s ((s[0].toNat : Int) - 192) hk1)
        rw [← hbk] at HST
        obtain ⟨x, hx⟩ : ∃ x, foldR s ((s[0].toNat : Int) - 192) k = x := ⟨_, rfl⟩
        rw [hx] at hbd HST
        simp only [hx]
        by_cases hlo : (s[k].toNat : Int) < 128
        · have HV := hide (oneAns_err (HL.out.odd hk1 hlt (.inl (by omega))))
          have hup : (s[k].toNat : Int) < 256 := by omega
          clear hbk hbl
          go_wp2
          go_ret2
          exact ⟨by rw [HV.out]; rfl, rfl⟩
        by_cases hhi : 192 ≤ (s[k].toNat : Int)
        · have HV := hide (oneAns_err (HL.out.odd hk1 hlt (.inr (by omega))))
          have hup : (s[k].toNat : Int) < 256 := by omega
          clear hbk hbl
          go_wp2
          go_ret2
          exact ⟨by rw [HV.out]; rfl, rfl⟩
        have HC' : Hid (∀ j, 1 ≤ j → j < k + 1 → 128 ≤ byteAt s j ∧ byteAt s j < 192) := fun j h h' => by
          by_cases e : j = k
          · subst e; omega
          · exact HC.out j h (by omega)
        clear hbk hbl
        go_wp2
        go_round
        case rel => exact ⟨k + 1, by omega, by omega, by go_num, HC'.out, by rw [HST.out]⟩
        case measure => simp [intOf]; omega
      · have hk : k = 2 := by omega
        subst hk
        have HY := hide (fun h1 h2 h3 => oneAns_of (HL.out.yes (by omega) HC.out h1 h2 h3))
        have HN := hide (fun h1 => oneAns_err (HL.out.no (by omega) HC.out h1))
        obtain ⟨x, hx⟩ : ∃ x, foldR s ((s[0].toNat : Int) - 192) 2 = x := ⟨_, rfl⟩
        rw [hx] at hbd HY HN
        simp only [hx]
        by_cases hx1 : x < 128
        · have HV := hide (HN.out (.inl hx1))
          go_wp2
          go_ret2
          exact ⟨by rw [HV.out]; rfl, rfl⟩
        by_cases hx2 : 1114111 < x
        · have HV := hide (HN.out (.inr (.inl hx2)))
          go_wp2
          go_ret2
          exact ⟨by rw [HV.out]; rfl, rfl⟩
        by_cases hx3 : x < 55296
        · have HV := hide (HY.out (by omega) (by omega) (.inl hx3))
          go_wp2
          go_ret2
          exact ⟨by rw [HV.out]; rfl, rfl⟩
        by_cases hx4 : x < 57344
        · have HV := hide (HN.out (.inr (.inr ⟨by omega, hx4⟩)))
          go_wp2
          go_ret2
          exact ⟨by rw [HV.out]; rfl, rfl⟩
        · have HV := hide (HY.out (by omega) (by omega) (.inr (by omega)))
          go_wp2
          go_ret2
          exact ⟨by rw [HV.out]; rfl, rfl⟩
  · by_cases hz : s.size < 3
    · have HV := hide (oneAns_err (HL.out.short hz))
      go_enter Tryd.func73, Tryd.ntmps73
      go_wp2
      go_ret2
      exact ⟨by rw [HV.out]; rfl, rfl⟩
    go_enter Tryd.func73, Tryd.ntmps73
    go_wp2
    go_loop [7, 8] (fun r i => ∃ k : Nat, 1 ≤ k ∧ k ≤ 3 ∧ i = .int .i64 k ∧ (∀ j, 1 ≤ j → j < k → 128 ≤ byteAt s j ∧ byteAt s j < 192) ∧ r = .int .i64 (foldR s ((s[0].toNat : Int) - 224) k)) (fun _ i => 3 - (intOf i).toNat)
    case atStart => exact ⟨1, by omega, by omega, rfl, fun j h h' => by omega, rfl⟩
    case round =>
      obtain ⟨k, hk1, hk2, rfl, hc, rfl⟩ := hrel
      have hbd := HL.out.bound k hk2 hc
      have HC := hide hc
      clear hc
      by_cases hlt : k < 3
      · have hks : k < s.size := by omega
        have hbk := byteAt_get hks
        have hbl := byteAt_lt s k
        have HST := hide (foldR_step s ((s[0].toNat : Int) - 224) hk1)
        rw [← hbk] at HST
        obtain ⟨x, hx⟩ : ∃ x, foldR s ((s[0].toNat : Int) - 224) k = x := ⟨_, rfl⟩
        rw [hx] at hbd HST
        simp only [hx]
        by_cases hlo : (s[k].toNat : Int) < 128
        · have HV := hide (oneAns_err (HL.out.odd hk1 hlt (.inl (by omega))))
          have hup : (s[k].toNat : Int) < 256 := by omega
          clear hbk hbl
          go_wp2
          go_ret2
          exact ⟨by rw [HV.out]; rfl, rfl⟩
        by_cases hhi : 192 ≤ (s[k].toNat : Int)
        · have HV := hide (oneAns_err (HL.out.odd hk1 hlt (.inr (by omega))))
          have hup : (s[k].toNat : Int) < 256 := by omega
          clear hbk hbl
          go_wp2
          go_ret2
          exact ⟨by rw [HV.out]; rfl, rfl⟩
        have HC' : Hid (∀ j, 1 ≤ j → j < k + 1 → 128 ≤ byteAt s j ∧ byteAt s j < 192) := fun j h h' => by
          by_cases e : j = k
          · subst e; omega
          · exact HC.out j h (by omega)
        clear hbk hbl
        go_wp2
        go_round
        case rel => exact ⟨k + 1, by omega, by omega, by go_num, HC'.out, by rw [HST.out]⟩
        case measure => simp [intOf]; omega
      · have hk : k = 3 := by omega
        subst hk
        have HY := hide (fun h1 h2 h3 => oneAns_of (HL.out.yes (by omega) HC.out h1 h2 h3))
        have HN := hide (fun h1 => oneAns_err (HL.out.no (by omega) HC.out h1))
        obtain ⟨x, hx⟩ : ∃ x, foldR s ((s[0].toNat : Int) - 224) 3 = x := ⟨_, rfl⟩
        rw [hx] at hbd HY HN
        simp only [hx]
        by_cases hx1 : x < 2048
        · have HV := hide (HN.out (.inl hx1))
          go_wp2
          go_ret2
          exact ⟨by rw [HV.out]; rfl, rfl⟩
        by_cases hx2 : 1114111 < x
        · have HV := hide (HN.out (.inr (.inl hx2)))
          go_wp2
          go_ret2
          exact ⟨by rw [HV.out]; rfl, rfl⟩
        by_cases hx3 : x < 55296
        · have HV := hide (HY.out (by omega) (by omega) (.inl hx3))
          go_wp2
          go_ret2
          exact ⟨by rw [HV.out]; rfl, rfl⟩
        by_cases hx4 : x < 57344
        · have HV := hide (HN.out (.inr (.inr ⟨by omega, hx4⟩)))
          go_wp2
          go_ret2
          exact ⟨by rw [HV.out]; rfl, rfl⟩
        · have HV := hide (HY.out (by omega) (by omega) (.inr (by omega)))
          go_wp2
          go_ret2
          exact ⟨by rw [HV.out]; rfl, rfl⟩
  · by_cases hz : s.size < 4
    · have HV := hide (oneAns_err (HL.out.short hz))
      go_enter Tryd.func73, Tryd.ntmps73
      go_wp2
      go_ret2
      exact ⟨by rw [HV.out]; rfl, rfl⟩
    go_enter Tryd.func73, Tryd.ntmps73
    go_wp2
    go_loop [7, 8] (fun r i => ∃ k : Nat, 1 ≤ k ∧ k ≤ 4 ∧ i = .int .i64 k ∧ (∀ j, 1 ≤ j → j < k → 128 ≤ byteAt s j ∧ byteAt s j < 192) ∧ r = .int .i64 (foldR s ((s[0].toNat : Int) - 240) k)) (fun _ i => 4 - (intOf i).toNat)
    case atStart => exact ⟨1, by omega, by omega, rfl, fun j h h' => by omega, rfl⟩
    case round =>
      obtain ⟨k, hk1, hk2, rfl, hc, rfl⟩ := hrel
      have hbd := HL.out.bound k hk2 hc
      have HC := hide hc
      clear hc
      by_cases hlt : k < 4
      · have hks : k < s.size := by omega
        have hbk := byteAt_get hks
        have hbl := byteAt_lt s k
        have HST := hide (foldR_step s ((s[0].toNat : Int) - 240) hk1)
        rw [← hbk] at HST
        obtain ⟨x, hx⟩ : ∃ x, foldR s ((s[0].toNat : Int) - 240) k = x := ⟨_, rfl⟩
        rw [hx] at hbd HST
        simp only [hx]
        by_cases hlo : (s[k].toNat : Int) < 128
        · have HV := hide (oneAns_err (HL.out.odd hk1 hlt (.inl (by omega))))
          have hup : (s[k].toNat : Int) < 256 := by omega
          clear hbk hbl
          go_wp2
          go_ret2
          exact ⟨by rw [HV.out]; rfl, rfl⟩
        by_cases hhi : 192 ≤ (s[k].toNat : Int)
        · have HV := hide (oneAns_err (HL.out.odd hk1 hlt (.inr (by omega))))
          have hup : (s[k].toNat : Int) < 256 := by omega
          clear hbk hbl
          go_wp2
          go_ret2
          exact ⟨by rw [HV.out]; rfl, rfl⟩
        have HC' : Hid (∀ j, 1 ≤ j → j < k + 1 → 128 ≤ byteAt s j ∧ byteAt s j < 192) := fun j h h' => by
          by_cases e : j = k
          · subst e; omega
          · exact HC.out j h (by omega)
        clear hbk hbl
        go_wp2
        go_round
        case rel => exact ⟨k + 1, by omega, by omega, by go_num, HC'.out, by rw [HST.out]⟩
        case measure => simp [intOf]; omega
      · have hk : k = 4 := by omega
        subst hk
        have HY := hide (fun h1 h2 h3 => oneAns_of (HL.out.yes (by omega) HC.out h1 h2 h3))
        have HN := hide (fun h1 => oneAns_err (HL.out.no (by omega) HC.out h1))
        obtain ⟨x, hx⟩ : ∃ x, foldR s ((s[0].toNat : Int) - 240) 4 = x := ⟨_, rfl⟩
        rw [hx] at hbd HY HN
        simp only [hx]
        by_cases hx1 : x < 65536
        · have HV := hide (HN.out (.inl hx1))
          go_wp2
          go_ret2
          exact ⟨by rw [HV.out]; rfl, rfl⟩
        by_cases hx2 : 1114111 < x
        · have HV := hide (HN.out (.inr (.inl hx2)))
          go_wp2
          go_ret2
          exact ⟨by rw [HV.out]; rfl, rfl⟩
        by_cases hx3 : x < 55296
        · omega
        by_cases hx4 : x < 57344
        · omega
        · have HV := hide (HY.out (by omega) (by omega) (.inr (by omega)))
          go_wp2
          go_ret2
          exact ⟨by rw [HV.out]; rfl, rfl⟩
end Go.Proofs.YtmnjjjhmnhfapaaDoor
/-
  Plain facts on lists sorted by a key, equals in their order.
-/
namespace Go.Proofs.YtmnjjjhmnhfapaaDoor
namespace Tm

/-- Sorted by a key. -/
def Up (k : Int → Int) (l : List Int) : Prop := l.Pairwise fun a b => k a ≤ k b
/-- Of each key the same members, in the same order. -/
def Same (k : Int → Int) (l l' : List Int) : Prop := ∀ c, l.filter (fun x => k x == c) = l'.filter (fun x => k x == c)

theorem Same.refl (k : Int → Int) (l : List Int) : Same k l l := fun _ => rfl
theorem Same.symm {k : Int → Int} {l l' : List Int} (h : Same k l l') : Same k l' l := fun c => (h c).symm
theorem Same.trans {k : Int → Int} {a b c : List Int} (h : Same k a b) (h' : Same k b c) : Same k a c := fun x => (h x).trans (h' x)
theorem Same.append {k : Int → Int} {a a' b b' : List Int} (h : Same k a a') (h' : Same k b b') : Same k (a ++ b) (a' ++ b') := fun c => by
  rw [List.filter_append, List.filter_append, h c, h' c]
theorem Same.count {k : Int → Int} {l l' : List Int} (h : Same k l l') (x : Int) : l.count x = l'.count x := by
  have e : ∀ m : List Int, m.count x = (m.filter fun y => k y == k x).count x := fun m => by
    rw [List.count_filter (by simp)]
  rw [e l, e l', h]
theorem Same.perm {k : Int → Int} {l l' : List Int} (h : Same k l l') : l.Perm l' := List.perm_iff_count.2 h.count
theorem Same.length {k : Int → Int} {l l' : List Int} (h : Same k l l') : l.length = l'.length := h.perm.length_eq
theorem Same.mem {k : Int → Int} {l l' : List Int} (h : Same k l l') {x : Int} : x ∈ l ↔ x ∈ l' := h.perm.mem_iff

/-- One order alone. -/
theorem Up.unique {k : Int → Int} : ∀ {l l' : List Int}, Up k l → Up k l' → Same k l l' → l = l'
  | [], l', _, _, h => by
    have := h.length
    cases l' with
    | nil => rfl
    | cons b r => simp at this
  | a :: r, l', h1, h2, h => by
    cases l' with
    | nil => have := h.length; simp at this
    | cons b r' =>
      have h1' := List.pairwise_cons.1 h1
      have h2' := List.pairwise_cons.1 h2
      have hab : k a ≤ k b := by
        rcases List.mem_cons.1 (h.mem.2 (List.mem_cons_self (a := b) (l := r'))) with e | e
        · rw [e]; exact Int.le_refl _
        · exact h1'.1 b e
      have hba : k b ≤ k a := by
        rcases List.mem_cons.1 (h.mem.1 (List.mem_cons_self (a := a) (l := r))) with e | e
        · rw [e]; exact Int.le_refl _
        · exact h2'.1 a e
      have hk : k a = k b := by omega
      have hc := h (k a)
      rw [List.filter_cons, List.filter_cons, if_pos (by simp), if_pos (by simp [hk])] at hc
      have e := (List.cons.inj hc).1
      subst e
      congr 1
      refine Up.unique h1'.2 h2'.2 fun c => ?_
      have hc' := h c
      rw [List.filter_cons, List.filter_cons] at hc'
      split at hc'
      · exact (List.cons.inj hc').2
      · exact hc'

/-- Two parts that share no key may change places. -/
theorem Same.comm {k : Int → Int} {u v : List Int} (h : ∀ x ∈ u, ∀ y ∈ v, k x ≠ k y) : Same k (u ++ v) (v ++ u) := fun c => by
  rw [List.filter_append, List.filter_append]
  by_cases hu : u.filter (fun x => k x == c) = []
  · rw [hu]; simp
  · have hv : v.filter (fun x => k x == c) = [] := by
      rw [List.filter_eq_nil_iff]
      intro y hy hyc
      obtain ⟨x, hx⟩ := List.exists_mem_of_ne_nil _ hu
      obtain ⟨hxu, hxc⟩ := List.mem_filter.1 hx
      exact h x hxu y hy ((by simpa using hxc : k x = c).trans (by simpa using hyc : k y = c).symm)
    rw [hv]; simp
theorem Same.swap {k : Int → Int} {p q : List Int} {x y : Int} (h : k x ≠ k y) : Same k (p ++ x :: y :: q) (p ++ y :: x :: q) := by
  refine Same.append (Same.refl k p) ?_
  have := Same.append (Same.comm (k := k) (u := [x]) (v := [y]) (by simpa using h)) (Same.refl k q)
  simpa using this

theorem Up.append {k : Int → Int} {u v : List Int} : Up k (u ++ v) ↔ Up k u ∧ Up k v ∧ ∀ x ∈ u, ∀ y ∈ v, k x ≤ k y := by
  unfold Up; rw [List.pairwise_append]
theorem Up.same {k : Int → Int} {u u' v v' : List Int} (hu : Up k u') (hv : Up k v') (su : Same k u u') (sv : Same k v v') (h : ∀ x ∈ u, ∀ y ∈ v, k x ≤ k y) : Up k (u' ++ v') :=
  Up.append.2 ⟨hu, hv, fun x hx y hy => h x (su.mem.2 hx) y (sv.mem.2 hy)⟩

/-- What a sort, or a merge, makes of the middle of a list. -/
def Sorts (k : Int → Int) (s s' : List Int) : Prop := Up k s' ∧ Same k s s'
theorem Sorts.of_up {k : Int → Int} {s : List Int} (h : Up k s) : Sorts k s s := ⟨h, Same.refl _ _⟩

/-- Four parts: the two halves of a merge. -/
theorem Sorts.merge {k : Int → Int} {u1 u2 v1 v2 l r : List Int} (hl : Sorts k (u1 ++ v1) l) (hr : Sorts k (u2 ++ v2) r) (hu : Up k (u1 ++ u2)) (hv : Up k (v1 ++ v2)) (h1 : ∀ x ∈ v1, ∀ y ∈ u2, k x < k y) (h2 : ∀ x ∈ u1, ∀ y ∈ v2, k x ≤ k y) :
    Sorts k ((u1 ++ u2) ++ (v1 ++ v2)) (l ++ r) := by
  have hu' := Up.append.1 hu
  have hv' := Up.append.1 hv
  constructor
  · refine Up.same hl.1 hr.1 hl.2 hr.2 ?_
    intro x hx y hy
    rcases List.mem_append.1 hx with hx | hx <;> rcases List.mem_append.1 hy with hy | hy
    · exact hu'.2.2 x hx y hy
    · exact h2 x hx y hy
    · exact Int.le_of_lt (h1 x hx y hy)
    · exact hv'.2.2 x hx y hy
  · have e : Same k (u2 ++ v1) (v1 ++ u2) := Same.comm fun x hx y hy => by have := h1 y hy x hx; omega
    have e2 : Same k ((u1 ++ u2) ++ (v1 ++ v2)) ((u1 ++ v1) ++ (u2 ++ v2)) := by
      have := Same.append (Same.append (Same.refl k u1) e) (Same.refl k v2)
      simpa [List.append_assoc] using this
    exact e2.trans (hl.2.append hr.2)
end Tm
end Go.Proofs.YtmnjjjhmnhfapaaDoor
namespace Go.Proofs.YtmnjjjhmnhfapaaDoor
namespace Tm
/-- One more, put in its place. -/
theorem Sorts.insert {k : Int → Int} {t s q1 q2 : List Int} {x : Int} (h : Sorts k t s) (hs : s = q1 ++ q2) (h1 : ∀ y ∈ q1, k y ≤ k x) (h2 : ∀ y ∈ q2, k x < k y) : Sorts k (t ++ [x]) (q1 ++ x :: q2) := by
  subst hs
  have hu := Up.append.1 h.1
  constructor
  · refine Up.append.2 ⟨hu.1, List.pairwise_cons.2 ⟨fun y hy => Int.le_of_lt (h2 y hy), hu.2.1⟩, fun a ha b hb => ?_⟩
    rcases List.mem_cons.1 hb with rfl | hb
    · exact h1 a ha
    · exact hu.2.2 a ha b hb
  · have e : Same k (t ++ [x]) ((q1 ++ q2) ++ [x]) := h.2.append (Same.refl _ _)
    have e2 : Same k (q2 ++ [x]) ([x] ++ q2) := Same.comm fun a ha b hb => by
      simp at hb; subst hb
      have := h2 a ha; omega
    refine e.trans ?_
    have := Same.append (Same.refl k q1) e2
    simpa [List.append_assoc] using this
/-- What lies ahead of a place is not above what the last of it is not above. -/
theorem Up.last_le {k : Int → Int} {q : List Int} {y x : Int} (h : Up k (q ++ [y])) (hy : k y ≤ k x) : ∀ z ∈ q ++ [y], k z ≤ k x := by
  intro z hz
  have hu := Up.append.1 h
  rcases List.mem_append.1 hz with hz | hz
  · have := hu.2.2 z hz y (by simp); omega
  · simp at hz; subst hz; exact hy
end Tm
end Go.Proofs.YtmnjjjhmnhfapaaDoor
namespace Go.Proofs.YtmnjjjhmnhfapaaDoor
namespace Tm
theorem Up.take_lt {k : Int → Int} {v : List Int} {i : Nat} {x : Int} (h : Up k v) (hi : i < v.length) (hx : k v[i] < k x) : ∀ y ∈ v.take (i + 1), k y < k x := by
  intro y hy
  rw [List.take_succ_eq_append_getElem hi] at hy
  rcases List.mem_append.1 hy with hy | hy
  · have hu : Up k (v.take i ++ v.drop i) := by rw [List.take_append_drop]; exact h
    have := (Up.append.1 hu).2.2 y hy v[i] (by rw [List.drop_eq_getElem_cons hi]; exact List.mem_cons_self)
    omega
  · simp at hy; subst hy; exact hx
theorem Up.take_le {k : Int → Int} {v : List Int} {i : Nat} {x : Int} (h : Up k v) (hi : i < v.length) (hx : k v[i] ≤ k x) : ∀ y ∈ v.take (i + 1), k y ≤ k x := by
  intro y hy
  rw [List.take_succ_eq_append_getElem hi] at hy
  rcases List.mem_append.1 hy with hy | hy
  · have hu : Up k (v.take i ++ v.drop i) := by rw [List.take_append_drop]; exact h
    have := (Up.append.1 hu).2.2 y hy v[i] (by rw [List.drop_eq_getElem_cons hi]; exact List.mem_cons_self)
    omega
  · simp at hy; subst hy; exact hx
theorem Up.drop_le {k : Int → Int} {v : List Int} {i : Nat} {x : Int} (h : Up k v) (hi : i < v.length) (hx : k x ≤ k v[i]) : ∀ y ∈ v.drop i, k x ≤ k y := by
  intro y hy
  rw [List.drop_eq_getElem_cons hi] at hy
  rcases List.mem_cons.1 hy with rfl | hy
  · exact hx
  · have hu : Up k (v.take i ++ v.drop i) := by rw [List.take_append_drop]; exact h
    have hd := (Up.append.1 hu).2.1
    rw [List.drop_eq_getElem_cons hi] at hd
    have := (List.pairwise_cons.1 hd).1 y hy
    omega
theorem Up.drop_lt {k : Int → Int} {v : List Int} {i : Nat} {x : Int} (h : Up k v) (hi : i < v.length) (hx : k x < k v[i]) : ∀ y ∈ v.drop i, k x < k y := by
  intro y hy
  have := h.drop_le (x := v[i]) hi (Int.le_refl _) y hy
  omega
end Tm
end Go.Proofs.YtmnjjjhmnhfapaaDoor
namespace Go.Proofs.YtmnjjjhmnhfapaaDoor
namespace Tm
/-- Where two sorted lists are parted so that no member of the left halves is above one of the right ones. -/
theorem Up.split {k : Int → Int} {u v : List Int} {T E : Nat} (hu : Up k u) (hv : Up k v) (h1 : T < u.length → 0 < E → E ≤ v.length → k (v.getD (E - 1) 0) < k (u.getD T 0)) (h2 : 0 < T → T ≤ u.length → E < v.length → k (u.getD (T - 1) 0) ≤ k (v.getD E 0)) (hT : T ≤ u.length) (hE : E ≤ v.length) :
    (∀ x ∈ v.take E, ∀ y ∈ u.drop T, k x < k y) ∧ (∀ x ∈ u.take T, ∀ y ∈ v.drop E, k x ≤ k y) := by
  constructor
  · intro x hx y hy
    have hE0 : 0 < E := by
      cases E with
      | zero => simp at hx
      | succ n => omega
    have hTu : T < u.length := by
      apply Classical.byContradiction
      intro hn
      rw [List.drop_eq_nil_of_le (by omega)] at hy
      cases hy
    have h := h1 hTu hE0 hE
    have hE1 : E - 1 < v.length := by omega
    rw [List.getD_eq_getElem?_getD, List.getD_eq_getElem?_getD, List.getElem?_eq_getElem hE1, List.getElem?_eq_getElem hTu] at h
    simp only [Option.getD_some] at h
    have a1 := hv.take_le (x := v[E - 1]) hE1 (Int.le_refl _) x (by rw [show E - 1 + 1 = E from by omega]; exact hx)
    have a2 := hu.drop_le (x := u[T]) hTu (Int.le_refl _) y hy
    omega
  · intro x hx y hy
    have hT0 : 0 < T := by
      cases T with
      | zero => simp at hx
      | succ n => omega
    have hEv : E < v.length := by
      apply Classical.byContradiction
      intro hn
      rw [List.drop_eq_nil_of_le (by omega)] at hy
      cases hy
    have h := h2 hT0 hT hEv
    have hT1 : T - 1 < u.length := by omega
    rw [List.getD_eq_getElem?_getD, List.getD_eq_getElem?_getD, List.getElem?_eq_getElem hT1, List.getElem?_eq_getElem hEv] at h
    simp only [Option.getD_some] at h
    have a1 := hu.take_le (x := u[T - 1]) hT1 (Int.le_refl _) x (by rw [show T - 1 + 1 = T from by omega]; exact hx)
    have a2 := hv.drop_le (x := v[E]) hEv (Int.le_refl _) y hy
    omega
end Tm
end Go.Proofs.YtmnjjjhmnhfapaaDoor
