import Derived.Test.YthaecjhnlpbfnaaDoorCodeNum
import Derived.Test.YthaecjhnlpbfnaaDoorLibCut
import Derived.Deep.RegionHeld3
namespace Go.Proofs.YthaecjhnlpbfnaaDoor
open Go.RowKit

/-- A word that is a number, not above most. -/
def numOk (most : Int) (l : List UInt8) : Bool := decide (0 ≤ Tm.num l ∧ Tm.num l ≤ most)
theorem numAns_yes {l : List UInt8} {most : Int} {e : Ending} (h : numOk most l = true) (ha : numAns l most e) : e = .returned (.int .i64 (Tm.num l)) := by
  unfold numAns at ha
  rw [if_pos (by simpa [numOk] using h)] at ha
  exact ha
theorem numAns_no {l : List UInt8} {most : Int} {e : Ending} (h : numOk most l = false) (ha : numAns l most e) : tells e 1 := by
  unfold numAns at ha
  rw [if_neg (by simpa [numOk] using h)] at ha
  exact ha
theorem readNumber_yes (s : ByteArray) (most : Int) (w : World) (hs : s.size ≤ maxLen) (h : numOk most s.data.toList = true) :
    Calls Tryd.prog 119 #[.string s, .int .i64 most] w fun e w' => e = .returned (.int .i64 (Tm.num s.data.toList)) ∧ w' = w :=
  (readNumber_any s most w hs).mono fun _ _ hh => ⟨numAns_yes h hh.1, hh.2⟩
theorem readNumber_no (s : ByteArray) (most : Int) (w : World) (hs : s.size ≤ maxLen) (h : numOk most s.data.toList = false) :
    Calls Tryd.prog 119 #[.string s, .int .i64 most] w fun e w' => tells e 1 ∧ w' = w :=
  (readNumber_any s most w hs).mono fun _ _ hh => ⟨numAns_no h hh.1, hh.2⟩

set_option maxRecDepth 100000 in
theorem readRune_yes (s : ByteArray) (w : World) (hs : s.size ≤ maxLen) (h : numOk 1114111 s.data.toList = true) :
    Calls Tryd.prog 105 #[.string s] w fun e w' => e = .returned (.int .i64 (Tm.num s.data.toList)) ∧ w' = w := by
  go_enter Tryd.func105, Tryd.ntmps105
  go_wp2_with fail
  refine (readNumber_yes s _ _ hs h).mono ?_
  rintro e w' ⟨rfl, rfl⟩
  go_wp2
  go_ret
  exact ⟨rfl, rfl⟩
set_option maxRecDepth 100000 in
theorem readRune_no (s : ByteArray) (w : World) (hs : s.size ≤ maxLen) (h : numOk 1114111 s.data.toList = false) :
    Calls Tryd.prog 105 #[.string s] w fun e w' => tells e 1 ∧ w' = w := by
  go_enter Tryd.func105, Tryd.ntmps105
  go_wp2_with fail
  refine (readNumber_no s _ _ hs h).mono ?_
  rintro e w' ⟨rfl, rfl⟩
  go_wp2
  exact ⟨rfl, rfl, rfl⟩

/-- A class. -/
def classOk (l : List UInt8) : Bool := decide (1 ≤ Tm.num l ∧ Tm.num l ≤ 254)
set_option maxRecDepth 100000 in
theorem readClass_yes (s : ByteArray) (w : World) (hs : s.size ≤ maxLen) (h : classOk s.data.toList = true) :
    Calls Tryd.prog 106 #[.string s] w fun e w' => e = .returned (.int .i64 (Tm.num s.data.toList)) ∧ w' = w := by
  have h1 : 1 ≤ Tm.num s.data.toList ∧ Tm.num s.data.toList ≤ 254 := by simpa [classOk] using h
  have h2 : numOk 254 s.data.toList = true := by simp [numOk]; omega
  go_enter Tryd.func106, Tryd.ntmps106
  go_wp2_with fail
  refine (readNumber_yes s _ _ hs h2).mono ?_
  rintro e w' ⟨rfl, rfl⟩
  generalize hq : Tm.num s.data.toList = p at *
  have HQ := hide hq
  have hb : ((p : Int) == 0) = false := by rw [beq_eq_false_iff_ne]; omega
  clear h h2 hq
  go_wp2_with fail
  refine (refuse_no 1 _).mono ?_
  rintro e w' ⟨rfl, rfl⟩
  go_wp2
  go_ret
  exact ⟨ret_int HQ.out.symm, rfl⟩
set_option maxRecDepth 100000 in
theorem readClass_no (s : ByteArray) (w : World) (hs : s.size ≤ maxLen) (h : classOk s.data.toList = false) :
    Calls Tryd.prog 106 #[.string s] w fun e w' => tells e 1 ∧ w' = w := by
  cases h2 : numOk 254 s.data.toList
  · go_enter Tryd.func106, Tryd.ntmps106
    go_wp2_with fail
    refine (readNumber_no s _ _ hs h2).mono ?_
    rintro e w' ⟨rfl, rfl⟩
    go_wp2
    exact ⟨rfl, rfl, rfl⟩
  · have h1 : 0 ≤ Tm.num s.data.toList ∧ Tm.num s.data.toList ≤ 254 := by simpa [numOk] using h2
    have h3 : ¬ (1 ≤ Tm.num s.data.toList ∧ Tm.num s.data.toList ≤ 254) := by simpa [classOk] using h
    go_enter Tryd.func106, Tryd.ntmps106
    go_wp2_with fail
    refine (readNumber_yes s _ _ hs h2).mono ?_
    rintro e w' ⟨rfl, rfl⟩
    generalize Tm.num s.data.toList = p at *
    have hb : ((p : Int) == 0) = true := by rw [beq_iff_eq]; omega
    clear h h2 h1 h3
    go_wp2_with fail
    refine (refuse_yes 1 _).mono ?_
    rintro e w' ⟨rfl, rfl⟩
    go_wp2
    exact ⟨rfl, rfl, rfl⟩

/-- What readRunes answers. -/
def runesAns (bs : List ByteArray) (B : Nat) (e : Ending) (w' : World) : Prop :=
  if bs.all (fun b => numOk 1114111 b.data.toList) then ∃ v, e = .returned v ∧ Reads w' v 1 bs.length (ints (bs.map fun b => Tm.num b.data.toList)) ∧ (∀ g, v.ownBlock = some g → B ≤ g) else tells e 1

/-- The numbers of the first k words, as cells. -/
def numsTo (bs : List ByteArray) (k : Nat) : List Value := ints ((bs.take k).map fun b => Tm.num b.data.toList)
theorem numsTo_succ {bs : List ByteArray} {k : Nat} (h : k < bs.length) : numsTo bs (k + 1) = numsTo bs k ++ [.int .i64 (Tm.num bs[k].data.toList)] := by
  unfold numsTo ints
  rw [List.take_succ_eq_append_getElem h, List.map_append, List.map_append]; rfl
theorem numsTo_all {bs : List ByteArray} {k : Nat} (h : bs.length ≤ k) : numsTo bs k = ints (bs.map fun b => Tm.num b.data.toList) := by
  unfold numsTo
  rw [List.take_of_length_le h]

theorem all_to {bs : List ByteArray} {p : ByteArray → Bool} {k : Nat} (h : (bs.take k).all p = true) (hk : k < bs.length) (hx : p bs[k] = true) : (bs.take (k + 1)).all p = true := by
  rw [List.take_succ_eq_append_getElem hk, List.all_append, h]; simp [hx]
theorem all_no {bs : List ByteArray} {p : ByteArray → Bool} {k : Nat} (hk : k < bs.length) (hx : p bs[k] = false) : bs.all p = false := by
  rw [List.all_eq_false]; exact ⟨bs[k], List.getElem_mem hk, by simp [hx]⟩

set_option maxRecDepth 100000 in
set_option maxHeartbeats 1000000 in
theorem readRunes_any (vs : Value) (bs : List ByteArray) (w : World) (hr : Reads w vs 1 bs.length (bs.map Value.string)) (hl : bs.length ≤ 8193) (hz : ∀ b ∈ bs, b.size ≤ 8192) :
    Calls Tryd.prog 107 #[vs] w fun e w' => runesAns bs w.heap.size e w' ∧ Below w.heap.size w w' := by
  obtain ⟨a, cap, rfl⟩ := hr.shape
  obtain ⟨i0, hi, hz0, hz1, hz2⟩ := info_parts Tryd.infoInt
  have HR := hide hr
  have HZ := hide hz
  clear hr hz
  go_enter Tryd.func107, Tryd.ntmps107
  go_wp2_with (at_make; go_must (refine wpList_make_own _ rfl _ _ 53 rfl w.heap.size 3 i0 (.int .i64 0) 1 Tryd.underlying53 hi hz0 hz1 _ _ _ bs.length rfl rfl (by omega) (by rw [hz2]; omega) (by unfold maxLen; omega) (Nat.le_refl _) ?_))
  intro w1 hown hgrow
  have hb1 : Below w.heap.size w w1 := (Below.refl _ _).grown hgrow (Nat.le_refl _) (fun k hk => by cases hk)
  clear hgrow
  go_wp2_with fail
  go_loopw [3, 11] (fun v i wr => ∃ k : Nat, k ≤ bs.length ∧ i = .int .i64 k ∧ (bs.take k).all (fun b => numOk 1114111 b.data.toList) = true ∧ wr.ownsRow w.heap.size 3 1 v k (numsTo bs k) ∧ Below w.heap.size w wr) (fun _ i _ => bs.length - (intOf i).toNat)
  case atStart => exact ⟨0, Nat.zero_le _, rfl, rfl, hown, hb1⟩
  case round =>
    obtain ⟨k, hk, rfl, hall, hown', hb⟩ := hrel
    obtain ⟨av, cv, rfl⟩ := (Reads.of_owns hown').shape
    have HALL := hide hall
    have HB := hide hb
    have hzr := hb.size
    by_cases hlt : k < bs.length
    · obtain ⟨g, off, rfl, hg, hc⟩ := strs_at (HR.out.below hb HR.out.2.1) hlt
      have hsk := HZ.out _ (List.getElem_mem hlt)
      have HTK := hide (numsTo_succ hlt)
      cases hok : numOk 1114111 bs[k].data.toList
      · have HNO := hide (all_no (p := fun b => numOk 1114111 b.data.toList) hlt hok)
        clear hall hb hown hb1
        go_wp2_with fail
        refine (readRune_no bs[k] _ (by unfold maxLen; omega) hok).mono ?_
        rintro e w' ⟨rfl, rfl⟩
        go_wp2
        exact ⟨rfl, by unfold runesAns; rw [HNO.out]; rfl, HB.out⟩
      · have HA2 := hide (all_to (p := fun b => numOk 1114111 b.data.toList) hall hlt hok)
        clear hall hb hown hb1
        go_wp2_with fail
        refine (readRune_yes bs[k] _ (by unfold maxLen; omega) hok).mono ?_
        rintro e w2 ⟨rfl, rfl⟩
        generalize Tm.num bs[k].data.toList = p at *
        go_wp2_with (at_builtin; go_must (refine wpList_append_own _ rfl _ _ 53 rfl w.heap.size 3 i0 (.int .i64 0) 1 8 Tryd.underlying53 hi hz0 hz1 hz2 rfl (by decide) _ _ _ rfl (hown'.alloc _) ⟨w2.heap.size, 0, none⟩ 1 1 [.int .i64 p] rfl rfl news_one (by intro u hu; simp at hu; subst hu; rfl) (by unfold maxLen; omega) (by omega) (by simp; omega) ?_))
        intro v' w3 hown3 hgrow3 _
        have HB3 : Hid (Below w.heap.size w w3) := (HB.out.alloc hzr _).grown hgrow3 (by simp; omega) (fun j hj => (hown'.lt j hj).1)
        have HO3 : Hid (w3.ownsRow w.heap.size 3 1 v' (k + 1) (numsTo bs (k + 1))) := by unfold Hid; rw [HTK.out]; exact hown3
        clear hown3 hgrow3 hown'
        go_wp2
        go_roundw
        case rel => exact ⟨k + 1, by omega, by go_num, HA2.out, HO3.out, HB3.out⟩
        case measure => simp [intOf]; omega
    · have e1 : bs.take k = bs := List.take_of_length_le (by omega)
      have HF : Hid (runesAns bs w.heap.size (.returned (.slice av k cv)) wr) := by
        unfold Hid runesAns
        rw [e1] at hall
        rw [numsTo_all (by omega)] at hown'
        rw [hall]
        have hk2 : k = bs.length := by omega
        subst hk2
        exact ⟨_, rfl, Reads.of_owns hown', fun g hg => (hown'.lt g hg).1⟩
      clear hall hb hown hb1 hown' e1
      go_wp2
      go_ret
      exact ⟨HF.out, HB.out⟩
end Go.Proofs.YthaecjhnlpbfnaaDoor
