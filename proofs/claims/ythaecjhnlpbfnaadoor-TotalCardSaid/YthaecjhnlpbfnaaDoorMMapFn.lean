import Derived.WalkSmall
import Derived.Deep.RegionHeld3
import Derived.Maps.OwnOps
import Derived.Maps.OwnSet
import Derived.Test.YthaecjhnlpbfnaaDoorMRefLight
import Derived.Test.YthaecjhnlpbfnaaDoorMRefElem
import Derived.Test.YthaecjhnlpbfnaaDoorMRefParse
import Derived.Test.YthaecjhnlpbfnaaDoorMCodeNum
/-
  More of Go's own functions, as the walks meet them.
-/
namespace Go.Proofs.YthaecjhnlpbfnaaDoor
open Go.RowKit

theorem star_take {s : ByteArray} (h : 1 ≤ s.size) : ((s.extract 0 1).toList == [42]) = star s := by
  rw [ByteArray.toList_eq, extract_bytes]
  have h1 := Tm.drop_cons s 0 (by omega)
  rw [List.drop_zero] at h1
  unfold star
  rw [h1, Bool.eq_iff_iff]
  simp

set_option maxRecDepth 100000 in
set_option maxHeartbeats 400000 in
theorem HasPrefix_star (s : ByteArray) (w : World) : Calls Tryd.prog 134 #[.string s, .string ⟨#[42]⟩] w fun e w' => e = .returned (.bool (star s)) ∧ w' = w := by
  by_cases h : (1 : Int) ≤ (s.size : Int)
  · have hd : decide ((1 : Int) ≤ (s.size : Int)) = true := by simp; omega
    have HS := hide (star_take (s := s) (by omega))
    go_enter Tryd.func134, Tryd.ntmps134
    go_wp2
    go_ret
    exact ⟨ret_bool HS.out, rfl⟩
  · have hd : decide ((1 : Int) ≤ (s.size : Int)) = false := by simp; omega
    have HS := hide (star_nil (s := s) (by omega))
    go_enter Tryd.func134, Tryd.ntmps134
    go_wp2
    go_ret
    exact ⟨ret_bool HS.out.symm, rfl⟩

set_option maxRecDepth 100000 in
set_option maxHeartbeats 400000 in
theorem CutPrefix_star (s : ByteArray) (w : World) : Calls Tryd.prog 132 #[.string s, .string ⟨#[42]⟩] w fun e w' => e = .returned (.tuple #[.string (bare s), .bool (star s)]) ∧ w' = w := by
  have inner : Calls Tryd.prog 133 #[.string s, .string ⟨#[42]⟩] w fun e w' => e = .returned (.tuple #[.string (bare s), .bool (star s)]) ∧ w' = w := by
    cases hst : star s
    · have HB : Hid (bare s = s) := by unfold bare Hid; rw [hst]; rfl
      have HS := hide hst
      go_enter Tryd.func133, Tryd.ntmps133
      go_wp2_with fail
      refine (HasPrefix_star s _).mono ?_
      rintro e w' ⟨rfl, rfl⟩
      go_wp2
      go_ret2
      exact ⟨by rw [HB.out]; rfl, rfl⟩
    · have HB : Hid (bare s = s.extract 1 s.size) := by unfold bare Hid; rw [hst]; rfl
      have hp := star_pos hst
      go_enter Tryd.func133, Tryd.ntmps133
      go_wp2_with fail
      refine (HasPrefix_star s _).mono ?_
      rintro e w' ⟨rfl, rfl⟩
      go_wp2
      go_ret2
      exact ⟨by rw [HB.out]; rfl, rfl⟩
  go_enter Tryd.func132, Tryd.ntmps132
  go_wp2_with fail
  refine inner.mono ?_
  rintro e w' ⟨rfl, rfl⟩
  go_wp2
  go_ret2
  exact ⟨rfl, rfl⟩

/-- The first place of a text among texts is told. -/
def idxAns (bs : List ByteArray) (x : ByteArray) (e : Ending) : Prop :=
  (∃ k : Nat, ∃ h : k < bs.length, e = .returned (.int .i64 k) ∧ bs[k].data.toList = x.data.toList ∧ ∀ j (_ : j < k) (hj : j < bs.length), bs[j].data.toList ≠ x.data.toList) ∨ (e = .returned (.int .i64 (-1)) ∧ ∀ j (hj : j < bs.length), bs[j].data.toList ≠ x.data.toList)

set_option maxRecDepth 100000 in
set_option maxHeartbeats 400000 in
theorem Index_str (vs : Value) (bs : List ByteArray) (x : ByteArray) (w : World) (hr : Reads w vs 1 bs.length (bs.map Value.string)) (hl : bs.length ≤ 1000000) :
    Calls Tryd.prog 120 #[vs, .string x] w fun e w' => idxAns bs x e ∧ w' = w := by
  obtain ⟨a, cap, rfl⟩ := hr.shape
  have HR := hide hr
  clear hr
  go_enter Tryd.func120, Tryd.ntmps120
  go_wp2
  go_loop [8] (fun i => ∃ k : Nat, k ≤ bs.length ∧ i = .int .i64 k ∧ ∀ j (_ : j < k) (hj : j < bs.length), bs[j].data.toList ≠ x.data.toList) (fun i => bs.length - (intOf i).toNat)
  case atStart => exact ⟨0, Nat.zero_le _, rfl, fun j hj => by omega⟩
  case round =>
    obtain ⟨k, hk, rfl, hno⟩ := hrel
    have HNO := hide hno
    clear hno
    by_cases hlt : k < bs.length
    · obtain ⟨g, off, rfl, hg, hc⟩ := strs_at HR.out hlt
      have HEQ : Hid (bs[k] = bs[k]) := rfl
      generalize hbk : bs[k] = bk at hc
      have HBK := hide hbk
      clear hbk HEQ
      cases he : (x.toList == bk.toList)
      · have HS : Hid (∀ j (_ : j < k + 1) (hj : j < bs.length), bs[j].data.toList ≠ x.data.toList) := by
          intro j hj hl'
          by_cases e : j = k
          · subst e
            rw [HBK.out]
            rw [ByteArray.toList_eq, ByteArray.toList_eq] at he
            intro h
            rw [h] at he; simp at he
          · exact HNO.out j (by omega) hl'
        go_wp2
        go_round
        case rel => exact ⟨k + 1, by omega, by go_num, HS.out⟩
        case measure => simp [intOf]; omega
      · have HE : Hid (bs[k].data.toList = x.data.toList) := by
          unfold Hid
          rw [HBK.out]
          rw [ByteArray.toList_eq, ByteArray.toList_eq] at he
          exact (by simpa using he : x.data.toList = bk.data.toList).symm
        go_wp2
        go_ret
        exact ⟨.inl ⟨k, hlt, rfl, HE.out, HNO.out⟩, rfl⟩
    · have HN : Hid (∀ j (hj : j < bs.length), bs[j].data.toList ≠ x.data.toList) := fun j hj => HNO.out j (by omega) hj
      go_wp2
      go_ret
      exact ⟨.inr ⟨rfl, HN.out⟩, rfl⟩

set_option maxRecDepth 100000 in
set_option maxHeartbeats 1000000 in
theorem Equal_ints (va vb : Value) (la lb : List Int) (w : World) (ha : Reads w va 1 la.length (ints la)) (hb : Reads w vb 1 lb.length (ints lb)) (hl : la.length ≤ 1000000) (hl' : lb.length ≤ 1000000) :
    Calls Tryd.prog 93 #[va, vb] w fun e w' => e = .returned (.bool (decide (la = lb))) ∧ ∃ n, w' = w.drewN n := by
  by_cases hlen : la.length = lb.length
  · obtain ⟨a, cap, rfl⟩ := ha.shape
    obtain ⟨a', cap', rfl⟩ := hb.shape
    have HA := hide ha
    have HB := hide hb
    have HL := hide hlen
    have hnb : ((la.length : Int) != (lb.length : Int)) = false := by simp; omega
    clear ha hb hlen
    go_enter Tryd.func93, Tryd.ntmps93
    go_wp2
    go_loopw [13] (fun i wr => ∃ k : Nat, k ≤ la.length ∧ i = .int .i64 k ∧ sameTo la lb k ∧ ∃ q, wr = w.drewN q) (fun i _ => la.length - (intOf i).toNat)
    case atStart => exact ⟨0, Nat.zero_le _, rfl, rfl, 0, rfl⟩
    case round =>
      obtain ⟨k, hk, rfl, hsame, q, rfl⟩ := hrel
      by_cases hlt : k < la.length
      · have hkb : k < lb.length := by rw [← HL.out]; exact hlt
        obtain ⟨g, off, rfl, _, c1⟩ := HA.out.at hlt
        obtain ⟨g', off', rfl, _, c2⟩ := HB.out.at hkb
        have i1 : (0 : Int) ≤ (k : Int) := by omega
        have i2 : (k : Int) < (la.length : Int) := by omega
        have i3 : (k : Int) < (lb.length : Int) := by omega
        have HE : Hid (∀ h : la[k] = lb[k], sameTo la lb (k + 1)) := fun h => sameTo_step hsame hlt hkb h
        have HX : Hid (la[k] ≠ lb[k] → la ≠ lb) := fun h h' => h (by subst h'; rfl)
        generalize la[k] = x at *
        generalize lb[k] = y at *
        clear hsame hkb
        go_wp2
        go_quiet (fail)
        cases hxy : (x != y)
        · go_wp2
          go_roundw
          case rel => exact ⟨k + 1, by omega, by go_num, HE.out (by simpa using hxy), _, rfl⟩
          case measure => simp [intOf]; omega
        · go_wp2
          go_ret
          exact ⟨ret_bool (by simp [HX.out (by simpa using hxy)]), q + nq, by simp⟩
      · have HE := hide (sameTo_all hsame (by omega) (by rw [← HL.out]; omega))
        clear hsame
        go_wp2
        go_ret
        exact ⟨ret_bool (by simp [HE.out]), q, rfl⟩
  · obtain ⟨a, cap, rfl⟩ := ha.shape
    obtain ⟨a', cap', rfl⟩ := hb.shape
    have hne : ((la.length : Int) != (lb.length : Int)) = true := by rw [bne_iff_ne]; omega
    have HE : Hid (la ≠ lb) := fun h => hlen (by rw [h])
    clear ha hb
    go_enter Tryd.func93, Tryd.ntmps93
    go_wp2
    go_ret
    exact ⟨ret_bool (by simp [HE.out]), 0, rfl⟩
end Go.Proofs.YthaecjhnlpbfnaaDoor
/-
  strings.Cut at a separator of one byte.
-/
namespace Go.Proofs.YthaecjhnlpbfnaaDoor
open Go.RowKit

/-- What Cut answers. -/
def cutAns (s : ByteArray) (c : UInt8) (e : Ending) : Prop :=
  (∃ m : Nat, m < s.size ∧ e = .returned (.tuple #[.string (s.extract 0 m), .string (s.extract (m + 1) s.size), .bool true]) ∧ Tm.split c s.data.toList = (s.extract 0 m).data.toList :: Tm.split c (s.extract (m + 1) s.size).data.toList) ∨
  (e = .returned (.tuple #[.string s, .string ⟨#[]⟩, .bool false]) ∧ Tm.split c s.data.toList = [s.data.toList])

set_option maxRecDepth 100000 in
set_option maxHeartbeats 1000000 in
theorem sliteCut_one (s : ByteArray) (c : UInt8) (w : World) (hs : s.size ≤ 8192) : Calls Tryd.prog 95 #[.string s, .string ⟨#[c]⟩] w fun e w' => cutAns s c e ∧ ∃ n, w' = w.drewN n := by
  rcases split_at c s.data.toList with ⟨h1, h2, _⟩ | ⟨m, h1, h2, h3, _⟩
  · have HI := hide h1
    have HS := hide h2
    clear h1 h2
    go_enter Tryd.func95, Tryd.ntmps95
    go_wp2_with fail
    refine (sliteIndex_one s c _).mono ?_
    rintro e w1 ⟨rfl, rfl⟩
    rw [HI.out]
    go_wp2
    go_ret3
    exact ⟨.inr ⟨rfl, HS.out⟩, 0, rfl⟩
  · rw [len_bytes] at h2
    have HI := hide h1
    have e1 : (s.extract (m + 1) s.size).data.toList = s.data.toList.drop (m + 1) := by
      rw [extract_bytes, List.take_of_length_le (by rw [List.length_drop, len_bytes]; omega)]
    have e2 : (s.extract 0 m).data.toList = s.data.toList.take m := by rw [extract_bytes]; simp
    have HS : Hid (Tm.split c s.data.toList = (s.extract 0 m).data.toList :: Tm.split c (s.extract (m + 1) s.size).data.toList) := by unfold Hid; rw [e1, e2]; exact h3
    have i1 : (0 : Int) ≤ (m : Int) := by omega
    have i2 : (m : Int) ≤ (s.size : Int) := by omega
    have i3 : (m : Int) + 1 ≤ (s.size : Int) := by omega
    clear h1 h3 e1 e2
    go_enter Tryd.func95, Tryd.ntmps95
    go_wp2_with fail
    refine (sliteIndex_one s c _).mono ?_
    rintro e w1 ⟨rfl, rfl⟩
    rw [HI.out]
    go_wp2
    go_quiet (fail)
    go_wp2
    go_ret3
    exact ⟨.inl ⟨m, h2, rfl, HS.out⟩, nq, rfl⟩

set_option maxRecDepth 100000 in
theorem Cut_one (s : ByteArray) (c : UInt8) (w : World) (hs : s.size ≤ 8192) : Calls Tryd.prog 85 #[.string s, .string ⟨#[c]⟩] w fun e w' => cutAns s c e ∧ ∃ n, w' = w.drewN n := by
  go_enter Tryd.func85, Tryd.ntmps85
  go_wp2_with fail
  refine (sliteCut_one s c _ hs).mono ?_
  rintro e w1 ⟨hc, n, rfl⟩
  rcases hc with ⟨m, h1, rfl, h2⟩ | ⟨rfl, h2⟩
  · have HS := hide h2
    clear h2
    go_wp2
    go_ret3
    exact ⟨.inl ⟨m, h1, rfl, HS.out⟩, n, rfl⟩
  · have HS := hide h2
    clear h2
    go_wp2
    go_ret3
    exact ⟨.inr ⟨rfl, HS.out⟩, n, rfl⟩
end Go.Proofs.YthaecjhnlpbfnaaDoor
namespace Go.Proofs.YthaecjhnlpbfnaaDoor
open Go.RowKit

/-- A word that is a number, not above most. -/
def numOk (most : Int) (l : List UInt8) : Bool := decide (0 ≤ Tm.num l ∧ Tm.num l ≤ most)
theorem numAns_yes {l : List UInt8} {most : Int} {e : Ending} (h : numOk most l = true) (ha : numAns l most e) : e = .returned (.int .i64 (Tm.num l)) := by
  unfold numAns at ha
  rw [if_pos (by simpa [numOk] using h)] at ha
  exact ha
theorem numAns_no {l : List UInt8} {most : Int} {e : Ending} (h : numOk most l = false) (ha : numAns l most e) : tells e 1 := by
  unfold numAns at ha
  rw [if_neg (by simpa [numOk] using h)] at ha
  exact ha
theorem readNumber_yes (s : ByteArray) (most : Int) (w : World) (hs : s.size ≤ maxLen) (h : numOk most s.data.toList = true) :
    Calls Tryd.prog 119 #[.string s, .int .i64 most] w fun e w' => e = .returned (.int .i64 (Tm.num s.data.toList)) ∧ w' = w :=
  (readNumber_any s most w hs).mono fun _ _ hh => ⟨numAns_yes h hh.1, hh.2⟩
theorem readNumber_no (s : ByteArray) (most : Int) (w : World) (hs : s.size ≤ maxLen) (h : numOk most s.data.toList = false) :
    Calls Tryd.prog 119 #[.string s, .int .i64 most] w fun e w' => tells e 1 ∧ w' = w :=
  (readNumber_any s most w hs).mono fun _ _ hh => ⟨numAns_no h hh.1, hh.2⟩

set_option maxRecDepth 100000 in
theorem readRune_yes (s : ByteArray) (w : World) (hs : s.size ≤ maxLen) (h : numOk 1114111 s.data.toList = true) :
    Calls Tryd.prog 105 #[.string s] w fun e w' => e = .returned (.int .i64 (Tm.num s.data.toList)) ∧ w' = w := by
  go_enter Tryd.func105, Tryd.ntmps105
  go_wp2_with fail
  refine (readNumber_yes s _ _ hs h).mono ?_
  rintro e w' ⟨rfl, rfl⟩
  go_wp2
  go_ret
  exact ⟨rfl, rfl⟩
set_option maxRecDepth 100000 in
theorem readRune_no (s : ByteArray) (w : World) (hs : s.size ≤ maxLen) (h : numOk 1114111 s.data.toList = false) :
    Calls Tryd.prog 105 #[.string s] w fun e w' => tells e 1 ∧ w' = w := by
  go_enter Tryd.func105, Tryd.ntmps105
  go_wp2_with fail
  refine (readNumber_no s _ _ hs h).mono ?_
  rintro e w' ⟨rfl, rfl⟩
  go_wp2
  exact ⟨rfl, rfl, rfl⟩

/-- A class. -/
def classOk (l : List UInt8) : Bool := decide (1 ≤ Tm.num l ∧ Tm.num l ≤ 254)
set_option maxRecDepth 100000 in
theorem readClass_yes (s : ByteArray) (w : World) (hs : s.size ≤ maxLen) (h : classOk s.data.toList = true) :
    Calls Tryd.prog 106 #[.string s] w fun e w' => e = .returned (.int .i64 (Tm.num s.data.toList)) ∧ w' = w := by
  have h1 : 1 ≤ Tm.num s.data.toList ∧ Tm.num s.data.toList ≤ 254 := by simpa [classOk] using h
  have h2 : numOk 254 s.data.toList = true := by simp [numOk]; omega
  go_enter Tryd.func106, Tryd.ntmps106
  go_wp2_with fail
  refine (readNumber_yes s _ _ hs h2).mono ?_
  rintro e w' ⟨rfl, rfl⟩
  generalize hq : Tm.num s.data.toList = p at *
  have HQ := hide hq
  have hb : ((p : Int) == 0) = false := by rw [beq_eq_false_iff_ne]; omega
  clear h h2 hq
  go_wp2_with fail
  refine (refuse_no 1 _).mono ?_
  rintro e w' ⟨rfl, rfl⟩
  go_wp2
  go_ret
  exact ⟨ret_int HQ.out.symm, rfl⟩
set_option maxRecDepth 100000 in
theorem readClass_no (s : ByteArray) (w : World) (hs : s.size ≤ maxLen) (h : classOk s.data.toList = false) :
    Calls Tryd.prog 106 #[.string s] w fun e w' => tells e 1 ∧ w' = w := by
  cases h2 : numOk 254 s.data.toList
  · go_enter Tryd.func106, Tryd.ntmps106
    go_wp2_with fail
    refine (readNumber_no s _ _ hs h2).mono ?_
    rintro e w' ⟨rfl, rfl⟩
    go_wp2
    exact ⟨rfl, rfl, rfl⟩
  · have h1 : 0 ≤ Tm.num s.data.toList ∧ Tm.num s.data.toList ≤ 254 := by simpa [numOk] using h2
    have h3 : ¬ (1 ≤ Tm.num s.data.toList ∧ Tm.num s.data.toList ≤ 254) := by simpa [classOk] using h
    go_enter Tryd.func106, Tryd.ntmps106
    go_wp2_with fail
    refine (readNumber_yes s _ _ hs h2).mono ?_
    rintro e w' ⟨rfl, rfl⟩
    generalize Tm.num s.data.toList = p at *
    have hb : ((p : Int) == 0) = true := by rw [beq_iff_eq]; omega
    clear h h2 h1 h3
    go_wp2_with fail
    refine (refuse_yes 1 _).mono ?_
    rintro e w' ⟨rfl, rfl⟩
    go_wp2
    exact ⟨rfl, rfl, rfl⟩

/-- What readRunes answers. -/
def runesAns (bs : List ByteArray) (B : Nat) (e : Ending) (w' : World) : Prop :=
  if bs.all (fun b => numOk 1114111 b.data.toList) then ∃ v, e = .returned v ∧ Reads w' v 1 bs.length (ints (bs.map fun b => Tm.num b.data.toList)) ∧ (∀ g, v.ownBlock = some g → B ≤ g) else tells e 1

/-- The numbers of the first k words, as cells. -/
def numsTo (bs : List ByteArray) (k : Nat) : List Value := ints ((bs.take k).map fun b => Tm.num b.data.toList)
theorem numsTo_succ {bs : List ByteArray} {k : Nat} (h : k < bs.length) : numsTo bs (k + 1) = numsTo bs k ++ [.int .i64 (Tm.num bs[k].data.toList)] := by
  unfold numsTo ints
  rw [List.take_succ_eq_append_getElem h, List.map_append, List.map_append]; rfl
theorem numsTo_all {bs : List ByteArray} {k : Nat} (h : bs.length ≤ k) : numsTo bs k = ints (bs.map fun b => Tm.num b.data.toList) := by
  unfold numsTo
  rw [List.take_of_length_le h]

theorem all_to {bs : List ByteArray} {p : ByteArray → Bool} {k : Nat} (h : (bs.take k).all p = true) (hk : k < bs.length) (hx : p bs[k] = true) : (bs.take (k + 1)).all p = true := by
  rw [List.take_succ_eq_append_getElem hk, List.all_append, h]; simp [hx]
theorem all_no {bs : List ByteArray} {p : ByteArray → Bool} {k : Nat} (hk : k < bs.length) (hx : p bs[k] = false) : bs.all p = false := by
  rw [List.all_eq_false]; exact ⟨bs[k], List.getElem_mem hk, by simp [hx]⟩

set_option maxRecDepth 100000 in
set_option maxHeartbeats 1000000 in
theorem readRunes_any (vs : Value) (bs : List ByteArray) (w : World) (hr : Reads w vs 1 bs.length (bs.map Value.string)) (hl : bs.length ≤ 8193) (hz : ∀ b ∈ bs, b.size ≤ 8192) :
    Calls Tryd.prog 107 #[vs] w fun e w' => runesAns bs w.heap.size e w' ∧ Below w.heap.size w w' := by
  obtain ⟨a, cap, rfl⟩ := hr.shape
  obtain ⟨i0, hi, hz0, hz1, hz2⟩ := info_parts Tryd.infoInt
  have HR := hide hr
  have HZ := hide hz
  clear hr hz
  go_enter Tryd.func107, Tryd.ntmps107
  go_wp2_with (at_make; go_must (refine wpList_make_own _ rfl _ _ 53 rfl w.heap.size 3 i0 (.int .i64 0) 1 Tryd.underlying53 hi hz0 hz1 _ _ _ bs.length rfl rfl (by omega) (by rw [hz2]; omega) (by unfold maxLen; omega) (Nat.le_refl _) ?_))
  intro w1 hown hgrow
  have hb1 : Below w.heap.size w w1 := (Below.refl _ _).grown hgrow (Nat.le_refl _) (fun k hk => by cases hk)
  clear hgrow
  go_wp2_with fail
  go_loopw [3, 11] (fun v i wr => ∃ k : Nat, k ≤ bs.length ∧ i = .int .i64 k ∧ (bs.take k).all (fun b => numOk 1114111 b.data.toList) = true ∧ wr.ownsRow w.heap.size 3 1 v k (numsTo bs k) ∧ Below w.heap.size w wr) (fun _ i _ => bs.length - (intOf i).toNat)
  case atStart => exact ⟨0, Nat.zero_le _, rfl, rfl, hown, hb1⟩
  case round =>
    obtain ⟨k, hk, rfl, hall, hown', hb⟩ := hrel
    obtain ⟨av, cv, rfl⟩ := (Reads.of_owns hown').shape
    have HALL := hide hall
    have HB := hide hb
    have hzr := hb.size
    by_cases hlt : k < bs.length
    · obtain ⟨g, off, rfl, hg, hc⟩ := strs_at (HR.out.below hb HR.out.2.1) hlt
      have hsk := HZ.out _ (List.getElem_mem hlt)
      have HTK := hide (numsTo_succ hlt)
      cases hok : numOk 1114111 bs[k].data.toList
      · have HNO := hide (all_no (p := fun b => numOk 1114111 b.data.toList) hlt hok)
        clear hall hb hown hb1
        go_wp2_with fail
        refine (readRune_no bs[k] _ (by unfold maxLen; omega) hok).mono ?_
        rintro e w' ⟨rfl, rfl⟩
        go_wp2
        exact ⟨rfl, by unfold runesAns; rw [HNO.out]; rfl, HB.out⟩
      · have HA2 := hide (all_to (p := fun b => numOk 1114111 b.data.toList) hall hlt hok)
        clear hall hb hown hb1
        go_wp2_with fail
        refine (readRune_yes bs[k] _ (by unfold maxLen; omega) hok).mono ?_
        rintro e w2 ⟨rfl, rfl⟩
        generalize Tm.num bs[k].data.toList = p at *
        go_wp2_with (at_builtin; go_must (refine wpList_append_own _ rfl _ _ 53 rfl w.heap.size 3 i0 (.int .i64 0) 1 8 Tryd.underlying53 hi hz0 hz1 hz2 rfl (by decide) _ _ _ rfl (hown'.alloc _) ⟨w2.heap.size, 0, none⟩ 1 1 [.int .i64 p] rfl rfl news_one (by intro u hu; simp at hu; subst hu; rfl) (by unfold maxLen; omega) (by omega) (by simp; omega) ?_))
        intro v' w3 hown3 hgrow3 _
        have HB3 : Hid (Below w.heap.size w w3) := (HB.out.alloc hzr _).grown hgrow3 (by simp; omega) (fun j hj => (hown'.lt j hj).1)
        have HO3 : Hid (w3.ownsRow w.heap.size 3 1 v' (k + 1) (numsTo bs (k + 1))) := by unfold Hid; rw [HTK.out]; exact hown3
        clear hown3 hgrow3 hown'
        go_wp2
        go_roundw
        case rel => exact ⟨k + 1, by omega, by go_num, HA2.out, HO3.out, HB3.out⟩
        case measure => simp [intOf]; omega
    · have e1 : bs.take k = bs := List.take_of_length_le (by omega)
      have HF : Hid (runesAns bs w.heap.size (.returned (.slice av k cv)) wr) := by
        unfold Hid runesAns
        rw [e1] at hall
        rw [numsTo_all (by omega)] at hown'
        rw [hall]
        have hk2 : k = bs.length := by omega
        subst hk2
        exact ⟨_, rfl, Reads.of_owns hown', fun g hg => (hown'.lt g hg).1⟩
      clear hall hb hown hb1 hown' e1
      go_wp2
      go_ret
      exact ⟨HF.out, HB.out⟩
end Go.Proofs.YthaecjhnlpbfnaaDoor
/-
  The map of nodes, as a function from runes to values.
-/
namespace Go.Proofs.YthaecjhnlpbfnaaDoor
open Go.RowKit Go.Maps

/-- An element as it lies. -/
def rawElem (v : Value) : Option (DataW Value × List MemPlace) := some (.held v, [])
/-- A node of which the table says nothing. -/
def zeroNode : Value := .agg #[.int .i64 0, .slice none 0 0, .slice none 0 0]
theorem keyLaw : Keyed Tryd.prog 3 := int_keyed Tryd.underlying3
theorem zeroElem (w : World) : (zeroValue 141).run Tryd.prog w = .ok zeroNode w := by kernel_rfl

/-- Block b is a map of at most n entries that answers f. -/
def MapIs (w : World) (b n : Nat) (f : Int → Value) : Prop :=
  ∃ D : DataW Value, w.ownsMap Tryd.prog 3 rawElem b n D ∧ ∀ r, (Lit.int .i64 r).wf = true → D.atKey (.int .i64 r) (.held zeroNode) = .held (f r)

/-- One answer is another. -/
def upd (f : Int → Value) (r : Int) (v : Value) : Int → Value := fun x => if x = r then v else f x

theorem MapIs.made (w : World) : MapIs (w.alloc (.map #[] 0)) w.heap.size 0 fun _ => zeroNode :=
  ⟨_, World.ownsMap_made w _ _ _, fun _ _ => rfl⟩
theorem MapIs.lt {w : World} {b n : Nat} {f : Int → Value} (h : MapIs w b n f) : b < w.heap.size := by
  obtain ⟨D, h, _⟩ := h
  exact h.lt
theorem MapIs.same {w w' : World} {b n : Nat} {f : Int → Value} (h : MapIs w b n f) (hb : w'.heap[b]? = w.heap[b]?) : MapIs w' b n f := by
  obtain ⟨D, ⟨es, c, hx, r⟩, hf⟩ := h
  exact ⟨D, ⟨es, c, hb.trans hx, r⟩, hf⟩
theorem MapIs.look {w : World} {b n : Nat} {f : Int → Value} (h : MapIs w b n f) {r : Int} (hr : (Lit.int .i64 r).wf = true) :
    (Instr.lookup 98 (.map (some b)) (.int .i64 r) false).run Tryd.prog w = .ok (f r) w := by
  obtain ⟨D, h, hf⟩ := h
  obtain ⟨v, ps, hrun, hv⟩ := h.lookup keyLaw (t := 98) (e := 141) (by kernel_rfl) (zeroElem w) (zd := .held zeroNode) (zp := []) rfl (keyOf_int_mk Tryd.underlying3 hr)
  rw [hf r hr] at hv
  simp [rawElem] at hv
  rw [hrun, hv.1]
theorem MapIs.put {w : World} {b n : Nat} {f : Int → Value} (h : MapIs w b n f) (hn : n < maxLen) {r : Int} (hr : (Lit.int .i64 r).wf = true) (v : Value) :
    ∃ w', (Instr.mapUpdate 98 (.map (some b)) (.int .i64 r) v).run Tryd.prog w = .ok () w' ∧ MapIs w' b (n + 1) (upd f r v) ∧ w.grownBy w' (some b) := by
  obtain ⟨D, h, hf⟩ := h
  have him := h.isMap
  obtain ⟨w', hrun, hown, hg⟩ := h.update keyLaw (t := 98) (e := 141) (by kernel_rfl) hn (keyOf_int_mk Tryd.underlying3 hr) (val := v) (d := .held v) (ps := []) rfl
  refine ⟨w', hrun, ⟨_, hown, fun x hx => ?_⟩, hg⟩
  unfold upd
  by_cases e : x = r
  · subst e
    rw [if_pos rfl, atKey_put_same him (by simp [WideAt.IsKeyLit])]
  · rw [if_neg e, atKey_put_other (by simpa using e), hf x hx]

/-- A look-up, at the operation. -/
theorem wpList_look {w : World} {ops : Array Oper} {rest : List Oper} {o : Oper} {a : Act} {Q : Exit → Act → World → Prop}
    (hg : o.guard = none) (m x : Operand) (hop : o.op = Op.lookup 98 m x false) (b n : Nat) (f : Int → Value)
    (hm : a.eval m = .map (some b)) (hown : MapIs w b n f) (r : Int) (hx : a.eval x = .int .i64 r) (hr : (Lit.int .i64 r).wf = true) (v : Value) (hv : f r = v)
    (hK : wpList Tryd.prog ops Q rest (a.put o.dst v) w) :
    wpList Tryd.prog ops Q (o :: rest) a w := by
  refine wpList_plain hg fun K' hK' => ?_
  have hrun := hown.look hr
  subst hv
  unfold Oper.wp
  simp [execOp, hop, hm, hx, hrun, Result.andThen]
  exact hK' _ _ hK
theorem wf_rune {r : Int} (h : 0 ≤ r ∧ r ≤ 1114111) : (Lit.int .i64 r).wf = true := WalkArith.wf_i64 (by omega)
end Go.Proofs.YthaecjhnlpbfnaaDoor
