import Derived.Deep.RegionHeld3
import Derived.Maps.OwnOps
import Derived.Maps.OwnSet
import Derived.Test.YtmnjjjhmnhfapaaDoorMCodeNum
import Derived.Test.YtmnjjjhmnhfapaaDoorMLibCut
import Derived.Test.YtmnjjjhmnhfapaaDoorMRefSame
namespace Go.Proofs.YtmnjjjhmnhfapaaDoor
open Go.RowKit

/-- A word that is a number, not above most. -/
def numOk (most : Int) (l : List UInt8) : Bool := decide (0 ≤ Tm.num l ∧ Tm.num l ≤ most)
theorem numAns_yes {l : List UInt8} {most : Int} {e : Ending} (h : numOk most l = true) (ha : numAns l most e) : e = .returned (.int .i64 (Tm.num l)) := by
  unfold numAns at ha
  rw [if_pos (by simpa [numOk] using h)] at ha
  exact ha
theorem numAns_no {l : List UInt8} {most : Int} {e : Ending} (h : numOk most l = false) (ha : numAns l most e) : tells e 1 := by
  unfold numAns at ha
  rw [if_neg (by simpa [numOk] using h)] at ha
  exact ha
theorem readNumber_yes (s : ByteArray) (most : Int) (w : World) (hs : s.size ≤ maxLen) (h : numOk most s.data.toList = true) :
    Calls Tryd.prog 119 #[.string s, .int .i64 most] w fun e w' => e = .returned (.int .i64 (Tm.num s.data.toList)) ∧ w' = w :=
  (readNumber_any s most w hs).mono fun _ _ hh => ⟨numAns_yes h hh.1, hh.2⟩
theorem readNumber_no (s : ByteArray) (most : Int) (w : World) (hs : s.size ≤ maxLen) (h : numOk most s.data.toList = false) :
    Calls Tryd.prog 119 #[.string s, .int .i64 most] w fun e w' => tells e 1 ∧ w' = w :=
  (readNumber_any s most w hs).mono fun _ _ hh => ⟨numAns_no h hh.1, hh.2⟩

set_option maxRecDepth 100000 in
theorem readRune_yes (s : ByteArray) (w : World) (hs : s.size ≤ maxLen) (h : numOk 1114111 s.data.toList = true) :
    Calls Tryd.prog 105 #[.string s] w fun e w' => e = .returned (.int .i64 (Tm.num s.data.toList)) ∧ w' = w := by
  go_enter Tryd.func105, Tryd.ntmps105
  go_wp2_with fail
  refine (readNumber_yes s _ _ hs h).mono ?_
  rintro e w' ⟨rfl, rfl⟩
  go_wp2
  go_ret
  exact ⟨rfl, rfl⟩
set_option maxRecDepth 100000 in
theorem readRune_no (s : ByteArray) (w : World) (hs : s.size ≤ maxLen) (h : numOk 1114111 s.data.toList = false) :
    Calls Tryd.prog 105 #[.string s] w fun e w' => tells e 1 ∧ w' = w := by
  go_enter Tryd.func105, Tryd.ntmps105
  go_wp2_with fail
  refine (readNumber_no s _ _ hs h).mono ?_
  rintro e w' ⟨rfl, rfl⟩
  go_wp2
  exact ⟨rfl, rfl, rfl⟩

/-- A class. -/
def classOk (l : List UInt8) : Bool := decide (1 ≤ Tm.num l ∧ Tm.num l ≤ 254)
set_option maxRecDepth 100000 in
theorem readClass_yes (s : ByteArray) (w : World) (hs : s.size ≤ maxLen) (h : classOk s.data.toList = true) :
    Calls Tryd.prog 106 #[.string s] w fun e w' => e = .returned (.int .i64 (Tm.num s.data.toList)) ∧ w' = w := by
  have h1 : 1 ≤ Tm.num s.data.toList ∧ Tm.num s.data.toList ≤ 254 := by simpa [classOk] using h
  have h2 : numOk 254 s.data.toList = true := by simp [numOk]; omega
  go_enter Tryd.func106, Tryd.ntmps106
  go_wp2_with fail
  refine (readNumber_yes s _ _ hs h2).mono ?_
  rintro e w' ⟨rfl, rfl⟩
  generalize hq : Tm.num s.data.toList = p at *
  have HQ := hide hq
  have hb : ((p : Int) == 0) = false := by rw [beq_eq_false_iff_ne]; omega
  clear h h2 hq
  go_wp2_with fail
  refine (refuse_no 1 _).mono ?_
  rintro e w' ⟨rfl, rfl⟩
  go_wp2
  go_ret
  exact ⟨ret_int HQ.out.symm, rfl⟩
set_option maxRecDepth 100000 in
theorem readClass_no (s : ByteArray) (w : World) (hs : s.size ≤ maxLen) (h : classOk s.data.toList = false) :
    Calls Tryd.prog 106 #[.string s] w fun e w' => tells e 1 ∧ w' = w := by
  cases h2 : numOk 254 s.data.toList
  · go_enter Tryd.func106, Tryd.ntmps106
    go_wp2_with fail
    refine (readNumber_no s _ _ hs h2).mono ?_
    rintro e w' ⟨rfl, rfl⟩
    go_wp2
    exact ⟨rfl, rfl, rfl⟩
  · have h1 : 0 ≤ Tm.num s.data.toList ∧ Tm.num s.data.toList ≤ 254 := by simpa [numOk] using h2
    have h3 : ¬ (1 ≤ Tm.num s.data.toList ∧ Tm.num s.data.toList ≤ 254) := by simpa [classOk] using h
    go_enter Tryd.func106, Tryd.ntmps106
    go_wp2_with fail
    refine (readNumber_yes s _ _ hs h2).mono ?_
    rintro e w' ⟨rfl, rfl⟩
    generalize Tm.num s.data.toList = p at *
    have hb : ((p : Int) == 0) = true := by rw [beq_iff_eq]; omega
    clear h h2 h1 h3
    go_wp2_with fail
    refine (refuse_yes 1 _).mono ?_
    rintro e w' ⟨rfl, rfl⟩
    go_wp2
    exact ⟨rfl, rfl, rfl⟩

/-- What readRunes answers. -/
def runesAns (bs : List ByteArray) (B : Nat) (e : Ending) (w' : World) : Prop :=
  if bs.all (fun b => numOk 1114111 b.data.toList) then ∃ v, e = .returned v ∧ Reads w' v 1 bs.length (ints (bs.map fun b => Tm.num b.data.toList)) ∧ (∀ g, v.ownBlock = some g → B ≤ g) else tells e 1

/-- The numbers of the first k words, as cells. -/
def numsTo (bs : List ByteArray) (k : Nat) : List Value := ints ((bs.take k).map fun b => Tm.num b.data.toList)
theorem numsTo_succ {bs : List ByteArray} {k : Nat} (h : k < bs.length) : numsTo bs (k + 1) = numsTo bs k ++ [.int .i64 (Tm.num bs[k].data.toList)] := by
  unfold numsTo ints
  rw [List.take_succ_eq_append_getElem h, List.map_append, List.map_append]; rfl
theorem numsTo_all {bs : List ByteArray} {k : Nat} (h : bs.length ≤ k) : numsTo bs k = ints (bs.map fun b => Tm.num b.data.toList) := by
  unfold numsTo
  rw [List.take_of_length_le h]

theorem all_to {bs : List ByteArray} {p : ByteArray → Bool} {k : Nat} (h : (bs.take k).all p = true) (hk : k < bs.length) (hx : p bs[k] = true) : (bs.take (k + 1)).all p = true := by
  rw [List.take_succ_eq_append_getElem hk, List.all_append, h]; simp [hx]
theorem all_no {bs : List ByteArray} {p : ByteArray → Bool} {k : Nat} (hk : k < bs.length) (hx : p bs[k] = false) : bs.all p = false := by
  rw [List.all_eq_false]; exact ⟨bs[k], List.getElem_mem hk, by simp [hx]⟩

set_option maxRecDepth 100000 in
set_option maxHeartbeats 1000000 in
theorem readRunes_any (vs : Value) (bs : List ByteArray) (w : World) (hr : Reads w vs 1 bs.length (bs.map Value.string)) (hl : bs.length ≤ 8193) (hz : ∀ b ∈ bs, b.size ≤ 8192) :
    Calls Tryd.prog 107 #[vs] w fun e w' => runesAns bs w.heap.size e w' ∧ Below w.heap.size w w' := by
  obtain ⟨a, cap, rfl⟩ := hr.shape
  obtain ⟨i0, hi, hz0, hz1, hz2⟩ := info_parts Tryd.infoInt
  have HR := hide hr
  have HZ := hide hz
  clear hr hz
  go_enter Tryd.func107, Tryd.ntmps107
  go_wp2_with (at_make; go_must (refine wpList_make_own _ rfl _ _ 53 rfl w.heap.size 3 i0 (.int .i64 0) 1 Tryd.underlying53 hi hz0 hz1 _ _ _ bs.length rfl rfl (by omega) (by rw [hz2]; omega) (by unfold maxLen; omega) (Nat.le_refl _) ?_))
  intro w1 hown hgrow
  have hb1 : Below w.heap.size w w1 := (Below.refl _ _).grown hgrow (Nat.le_refl _) (fun k hk => by cases hk)
  clear hgrow
  go_wp2_with fail
  go_loopw [3, 11] (fun v i wr => ∃ k : Nat, k ≤ bs.length ∧ i = .int .i64 k ∧ (bs.take k).all (fun b => numOk 1114111 b.data.toList) = true ∧ wr.ownsRow w.heap.size 3 1 v k (numsTo bs k) ∧ Below w.heap.size w wr) (fun _ i _ => bs.length - (intOf i).toNat)
  case atStart => exact ⟨0, Nat.zero_le _, rfl, rfl, hown, hb1⟩
  case round =>
    obtain ⟨k, hk, rfl, hall, hown', hb⟩ := hrel
    obtain ⟨av, cv, rfl⟩ := (Reads.of_owns hown').shape
    have HALL := hide hall
    have HB := hide hb
    have hzr := hb.size
    by_cases hlt : k < bs.length
    · obtain ⟨g, off, rfl, hg, hc⟩ := strs_at (HR.out.below hb HR.out.2.1) hlt
      have hsk := HZ.out _ (List.getElem_mem hlt)
      have HTK := hide (numsTo_succ hlt)
      cases hok : numOk 1114111 bs[k].data.toList
      · have HNO := hide (all_no (p := fun b => numOk 1114111 b.data.toList) hlt hok)
        clear hall hb hown hb1
        go_wp2_with fail
        refine (readRune_no bs[k] _ (by unfold maxLen; omega) hok).mono ?_
        rintro e w' ⟨rfl, rfl⟩
        go_wp2
        exact ⟨rfl, by unfold runesAns; rw [HNO.out]; rfl, HB.out⟩
      · have HA2 := hide (all_to (p := fun b => numOk 1114111 b.data.toList) hall hlt hok)
        clear hall hb hown hb1
        go_wp2_with fail
        refine (readRune_yes bs[k] _ (by unfold maxLen; omega) hok).mono ?_
        rintro e w2 ⟨rfl, rfl⟩
        generalize Tm.num bs[k].data.toList = p at *
        go_wp2_with (at_builtin; go_must (refine wpList_append_own _ rfl _ _ 53 rfl w.heap.size 3 i0 (.int .i64 0) 1 8 Tryd.underlying53 hi hz0 hz1 hz2 rfl (by decide) _ _ _ rfl (hown'.alloc _) ⟨w2.heap.size, 0, none⟩ 1 1 [.int .i64 p] rfl rfl news_one (by intro u hu; simp at hu; subst hu; rfl) (by unfold maxLen; omega) (by omega) (by simp; omega) ?_))
        intro v' w3 hown3 hgrow3 _
        have HB3 : Hid (Below w.heap.size w w3) := (HB.out.alloc hzr _).grown hgrow3 (by simp; omega) (fun j hj => (hown'.lt j hj).1)
        have HO3 : Hid (w3.ownsRow w.heap.size 3 1 v' (k + 1) (numsTo bs (k + 1))) := by unfold Hid; rw [HTK.out]; exact hown3
        clear hown3 hgrow3 hown'
        go_wp2
        go_roundw
        case rel => exact ⟨k + 1, by omega, by go_num, HA2.out, HO3.out, HB3.out⟩
        case measure => simp [intOf]; omega
    · have e1 : bs.take k = bs := List.take_of_length_le (by omega)
      have HF : Hid (runesAns bs w.heap.size (.returned (.slice av k cv)) wr) := by
        unfold Hid runesAns
        rw [e1] at hall
        rw [numsTo_all (by omega)] at hown'
        rw [hall]
        have hk2 : k = bs.length := by omega
        subst hk2
        exact ⟨_, rfl, Reads.of_owns hown', fun g hg => (hown'.lt g hg).1⟩
      clear hall hb hown hb1 hown' e1
      go_wp2
      go_ret
      exact ⟨HF.out, HB.out⟩
end Go.Proofs.YtmnjjjhmnhfapaaDoor
/-
  The map of nodes, as a function from runes to values.
-/
namespace Go.Proofs.YtmnjjjhmnhfapaaDoor
open Go.RowKit Go.Maps

/-- An element as it lies. -/
def rawElem (v : Value) : Option (DataW Value × List MemPlace) := some (.held v, [])
/-- A node of which the table says nothing. -/
def zeroNode : Value := .agg #[.int .i64 0, .slice none 0 0, .slice none 0 0]
theorem keyLaw : Keyed Tryd.prog 3 := int_keyed Tryd.underlying3
theorem zeroElem (w : World) : (zeroValue 141).run Tryd.prog w = .ok zeroNode w := by kernel_rfl

/-- Block b is a map of at most n entries that answers f. -/
def MapIs (w : World) (b n : Nat) (f : Int → Value) : Prop :=
  ∃ D : DataW Value, w.ownsMap Tryd.prog 3 rawElem b n D ∧ ∀ r, (Lit.int .i64 r).wf = true → D.atKey (.int .i64 r) (.held zeroNode) = .held (f r)

/-- One answer is another. -/
def upd (f : Int → Value) (r : Int) (v : Value) : Int → Value := fun x => if x = r then v else f x

theorem MapIs.made (w : World) : MapIs (w.alloc (.map #[] 0)) w.heap.size 0 fun _ => zeroNode :=
  ⟨_, World.ownsMap_made w _ _ _, fun _ _ => rfl⟩
theorem MapIs.lt {w : World} {b n : Nat} {f : Int → Value} (h : MapIs w b n f) : b < w.heap.size := by
  obtain ⟨D, h, _⟩ := h
  exact h.lt
theorem MapIs.same {w w' : World} {b n : Nat} {f : Int → Value} (h : MapIs w b n f) (hb : w'.heap[b]? = w.heap[b]?) : MapIs w' b n f := by
  obtain ⟨D, ⟨es, c, hx, r⟩, hf⟩ := h
  exact ⟨D, ⟨es, c, hb.trans hx, r⟩, hf⟩
theorem MapIs.look {w : World} {b n : Nat} {f : Int → Value} (h : MapIs w b n f) {r : Int} (hr : (Lit.int .i64 r).wf = true) :
    (Instr.lookup 98 (.map (some b)) (.int .i64 r) false).run Tryd.prog w = .ok (f r) w := by
  obtain ⟨D, h, hf⟩ := h
  obtain ⟨v, ps, hrun, hv⟩ := h.lookup keyLaw (t := 98) (e := 141) (by kernel_rfl) (zeroElem w) (zd := .held zeroNode) (zp := []) rfl (keyOf_int_mk Tryd.underlying3 hr)
  rw [hf r hr] at hv
  simp [rawElem] at hv
  rw [hrun, hv.1]
theorem MapIs.put {w : World} {b n : Nat} {f : Int → Value} (h : MapIs w b n f) (hn : n < maxLen) {r : Int} (hr : (Lit.int .i64 r).wf = true) (v : Value) :
    ∃ w', (Instr.mapUpdate 98 (.map (some b)) (.int .i64 r) v).run Tryd.prog w = .ok () w' ∧ MapIs w' b (n + 1) (upd f r v) ∧ w.grownBy w' (some b) := by
  obtain ⟨D, h, hf⟩ := h
  have him := h.isMap
  obtain ⟨w', hrun, hown, hg⟩ := h.update keyLaw (t := 98) (e := 141) (by kernel_rfl) hn (keyOf_int_mk Tryd.underlying3 hr) (val := v) (d := .held v) (ps := []) rfl
  refine ⟨w', hrun, ⟨_, hown, fun x hx => ?_⟩, hg⟩
  unfold upd
  by_cases e : x = r
  · subst e
    rw [if_pos rfl, atKey_put_same him (by simp [WideAt.IsKeyLit])]
  · rw [if_neg e, atKey_put_other (by simpa using e), hf x hx]

/-- A look-up, at the operation. -/
theorem wpList_look {w : World} {ops : Array Oper} {rest : List Oper} {o : Oper} {a : Act} {Q : Exit → Act → World → Prop}
    (hg : o.guard = none) (m x : Operand) (hop : o.op = Op.lookup 98 m x false) (b n : Nat) (f : Int → Value)
    (hm : a.eval m = .map (some b)) (hown : MapIs w b n f) (r : Int) (hx : a.eval x = .int .i64 r) (hr : (Lit.int .i64 r).wf = true) (v : Value) (hv : f r = v)
    (hK : wpList Tryd.prog ops Q rest (a.put o.dst v) w) :
    wpList Tryd.prog ops Q (o :: rest) a w := by
  refine wpList_plain hg fun K' hK' => ?_
  have hrun := hown.look hr
  subst hv
  unfold Oper.wp
  simp [execOp, hop, hm, hx, hrun, Result.andThen]
  exact hK' _ _ hK
theorem wf_rune {r : Int} (h : 0 ≤ r ∧ r ≤ 1114111) : (Lit.int .i64 r).wf = true := WalkArith.wf_i64 (by omega)
end Go.Proofs.YtmnjjjhmnhfapaaDoor
