import Derived.Deep.RegionHeld3
import Derived.Maps.OwnOps
import Derived.Maps.OwnSet
import Derived.Maps.AppendAt
import Derived.Test.YtmnjjjhmnhfapaaGreatDoorMCodeNum
import Derived.Test.YtmnjjjhmnhfapaaGreatDoorMLibCut
namespace Go.Proofs.YtmnjjjhmnhfapaaGreatDoor
open Go.RowKit
def numOk (most : Int) (l : List UInt8) : Bool := decide (0 ≤ Tm.num l ∧ Tm.num l ≤ most)
theorem numAns_yes {l : List UInt8} {most : Int} {e : Ending} (h : numOk most l = true) (ha : numAns l most e) : e = .returned (.int .i64 (Tm.num l)) := by
 unfold numAns at ha
 rw [if_pos (by simpa [numOk] using h)] at ha
 exact ha
theorem numAns_no {l : List UInt8} {most : Int} {e : Ending} (h : numOk most l = false) (ha : numAns l most e) : tells e 1 := by
 unfold numAns at ha
 rw [if_neg (by simpa [numOk] using h)] at ha
 exact ha
theorem readNumber_yes (s : ByteArray) (most : Int) (w : World) (hs : s.size ≤ maxLen) (h : numOk most s.data.toList = true) :
  Calls Tryz.prog 205 #[.string s, .int .i64 most] w fun e w' => e = .returned (.int .i64 (Tm.num s.data.toList)) ∧ w' = w :=
 (readNumber_any s most w hs).mono fun _ _ hh => ⟨numAns_yes h hh.1, hh.2⟩
theorem readNumber_no (s : ByteArray) (most : Int) (w : World) (hs : s.size ≤ maxLen) (h : numOk most s.data.toList = false) :
  Calls Tryz.prog 205 #[.string s, .int .i64 most] w fun e w' => tells e 1 ∧ w' = w :=
 (readNumber_any s most w hs).mono fun _ _ hh => ⟨numAns_no h hh.1, hh.2⟩
set_option maxRecDepth 100000 in
theorem readRune_yes (s : ByteArray) (w : World) (hs : s.size ≤ maxLen) (h : numOk 1114111 s.data.toList = true) :
  Calls Tryz.prog 189 #[.string s] w fun e w' => e = .returned (.int .i64 (Tm.num s.data.toList)) ∧ w' = w := by
 go_enter Tryz.func189, Tryz.ntmps189
 go_wp2_with fail
 refine (readNumber_yes s _ _ hs h).mono ?_
 rintro e w' ⟨rfl, rfl⟩
 go_wp2
 go_ret
 exact ⟨rfl, rfl⟩
set_option maxRecDepth 100000 in
theorem readRune_no (s : ByteArray) (w : World) (hs : s.size ≤ maxLen) (h : numOk 1114111 s.data.toList = false) :
  Calls Tryz.prog 189 #[.string s] w fun e w' => tells e 1 ∧ w' = w := by
 go_enter Tryz.func189, Tryz.ntmps189
 go_wp2_with fail
 refine (readNumber_no s _ _ hs h).mono ?_
 rintro e w' ⟨rfl, rfl⟩
 go_wp2
 exact ⟨rfl, rfl, rfl⟩
def classOk (l : List UInt8) : Bool := decide (1 ≤ Tm.num l ∧ Tm.num l ≤ 254)
set_option maxRecDepth 100000 in
theorem readClass_yes (s : ByteArray) (w : World) (hs : s.size ≤ maxLen) (h : classOk s.data.toList = true) :
  Calls Tryz.prog 190 #[.string s] w fun e w' => e = .returned (.int .i64 (Tm.num s.data.toList)) ∧ w' = w := by
 have h1 : 1 ≤ Tm.num s.data.toList ∧ Tm.num s.data.toList ≤ 254 := by simpa [classOk] using h
 have h2 : numOk 254 s.data.toList = true := by simp [numOk]; omega
 go_enter Tryz.func190, Tryz.ntmps190
 go_wp2_with fail
 refine (readNumber_yes s _ _ hs h2).mono ?_
 rintro e w' ⟨rfl, rfl⟩
 generalize hq : Tm.num s.data.toList = p at *
 have HQ := hide hq
 have hb : ((p : Int) == 0) = false := by rw [beq_eq_false_iff_ne]; omega
 clear h h2 hq
 go_wp2_with fail
 refine (refuse_no 1 _).mono ?_
 rintro e w' ⟨rfl, rfl⟩
 go_wp2
 go_ret
 exact ⟨ret_int HQ.out.symm, rfl⟩
set_option maxRecDepth 100000 in
theorem readClass_no (s : ByteArray) (w : World) (hs : s.size ≤ maxLen) (h : classOk s.data.toList = false) :
  Calls Tryz.prog 190 #[.string s] w fun e w' => tells e 1 ∧ w' = w := by
 cases h2 : numOk 254 s.data.toList
 ·go_enter Tryz.func190, Tryz.ntmps190
  go_wp2_with fail
  refine (readNumber_no s _ _ hs h2).mono ?_
  rintro e w' ⟨rfl, rfl⟩
  go_wp2
  exact ⟨rfl, rfl, rfl⟩
 ·have h1 : 0 ≤ Tm.num s.data.toList ∧ Tm.num s.data.toList ≤ 254 := by simpa [numOk] using h2
  have h3 : ¬ (1 ≤ Tm.num s.data.toList ∧ Tm.num s.data.toList ≤ 254) := by simpa [classOk] using h
  go_enter Tryz.func190, Tryz.ntmps190
  go_wp2_with fail
  refine (readNumber_yes s _ _ hs h2).mono ?_
  rintro e w' ⟨rfl, rfl⟩
  generalize Tm.num s.data.toList = p at *
  have hb : ((p : Int) == 0) = true := by rw [beq_iff_eq]; omega
  clear h h2 h1 h3
  go_wp2_with fail
  refine (refuse_yes 1 _).mono ?_
  rintro e w' ⟨rfl, rfl⟩
  go_wp2
  exact ⟨rfl, rfl, rfl⟩
def runesAns (bs : List ByteArray) (B : Nat) (e : Ending) (w' : World) : Prop :=
 if bs.all (fun b => numOk 1114111 b.data.toList) then ∃ v, e = .returned v ∧ Reads w' v 1 bs.length (ints (bs.map fun b => Tm.num b.data.toList)) ∧ (∀ g, v.ownBlock = some g → B ≤ g) else tells e 1
def numsTo (bs : List ByteArray) (k : Nat) : List Value := ints ((bs.take k).map fun b => Tm.num b.data.toList)
theorem numsTo_succ {bs : List ByteArray} {k : Nat} (h : k < bs.length) : numsTo bs (k + 1) = numsTo bs k ++ [.int .i64 (Tm.num bs[k].data.toList)] := by
 unfold numsTo ints
 rw [List.take_succ_eq_append_getElem h, List.map_append, List.map_append]; rfl
theorem numsTo_all {bs : List ByteArray} {k : Nat} (h : bs.length ≤ k) : numsTo bs k = ints (bs.map fun b => Tm.num b.data.toList) := by
 unfold numsTo
 rw [List.take_of_length_le h]
theorem all_to {bs : List ByteArray} {p : ByteArray → Bool} {k : Nat} (h : (bs.take k).all p = true) (hk : k < bs.length) (hx : p bs[k] = true) : (bs.take (k + 1)).all p = true := by
 rw [List.take_succ_eq_append_getElem hk, List.all_append, h]; simp [hx]
theorem all_no {bs : List ByteArray} {p : ByteArray → Bool} {k : Nat} (hk : k < bs.length) (hx : p bs[k] = false) : bs.all p = false := by
 rw [List.all_eq_false]; exact ⟨bs[k], List.getElem_mem hk, by simp [hx]⟩
set_option maxRecDepth 100000 in
set_option maxHeartbeats 1000000 in
theorem readRunes_any (vs : Value) (bs : List ByteArray) (w : World) (hr : Reads w vs 1 bs.length (bs.map Value.string)) (hl : bs.length ≤ 8193) (hz : ∀ b ∈ bs, b.size ≤ 8192) :
  Calls Tryz.prog 191 #[vs] w fun e w' => runesAns bs w.heap.size e w' ∧ Below w.heap.size w w' := by
 obtain ⟨a, cap, rfl⟩ := hr.shape
 obtain ⟨i0, hi, hz0, hz1, hz2⟩ := info_parts Tryz.infoInt
 have HR := hide hr
 have HZ := hide hz
 clear hr hz
 go_enter Tryz.func191, Tryz.ntmps191
 go_wp2_with (at_make; go_must (refine wpList_make_own _ rfl _ _ 83 rfl w.heap.size 3 i0 (.int .i64 0) 1 Tryz.underlying83 hi hz0 hz1 _ _ _ bs.length rfl rfl (by omega) (by rw [hz2]; omega) (by unfold maxLen; omega) (Nat.le_refl _) ?_))
 intro w1 hown hgrow
 have hb1 : Below w.heap.size w w1 := (Below.refl _ _).grown hgrow (Nat.le_refl _) (fun k hk => by cases hk)
 clear hgrow
 go_wp2_with fail
 go_loopw [3, 11] (fun v i wr => ∃ k : Nat, k ≤ bs.length ∧ i = .int .i64 k ∧ (bs.take k).all (fun b => numOk 1114111 b.data.toList) = true ∧ wr.ownsRow w.heap.size 3 1 v k (numsTo bs k) ∧ Below w.heap.size w wr) (fun _ i _ => bs.length - (intOf i).toNat)
 case atStart => exact ⟨0, Nat.zero_le _, rfl, rfl, hown, hb1⟩
 case round =>
  obtain ⟨k, hk, rfl, hall, hown', hb⟩ := hrel
  obtain ⟨av, cv, rfl⟩ := (Reads.of_owns hown').shape
  have HALL := hide hall
  have HB := hide hb
  have hzr := hb.size
  by_cases hlt : k < bs.length
  ·obtain ⟨g, off, rfl, hg, hc⟩ := strs_at (HR.out.below hb HR.out.2.1) hlt
   have hsk := HZ.out _ (List.getElem_mem hlt)
   have HTK := hide (numsTo_succ hlt)
   cases hok : numOk 1114111 bs[k].data.toList
   ·have HNO := hide (all_no (p := fun b => numOk 1114111 b.data.toList) hlt hok)
    clear hall hb hown hb1
    go_wp2_with fail
    refine (readRune_no bs[k] _ (by unfold maxLen; omega) hok).mono ?_
    rintro e w' ⟨rfl, rfl⟩
    go_wp2
    exact ⟨rfl, by unfold runesAns; rw [HNO.out]; rfl, HB.out⟩
   ·have HA2 := hide (all_to (p := fun b => numOk 1114111 b.data.toList) hall hlt hok)
    clear hall hb hown hb1
    go_wp2_with fail
    refine (readRune_yes bs[k] _ (by unfold maxLen; omega) hok).mono ?_
    rintro e w2 ⟨rfl, rfl⟩
    generalize Tm.num bs[k].data.toList = p at *
    go_wp2_with (at_builtin; go_must (refine wpList_append_own _ rfl _ _ 83 rfl w.heap.size 3 i0 (.int .i64 0) 1 8 Tryz.underlying83 hi hz0 hz1 hz2 rfl (by decide) _ _ _ rfl (hown'.alloc _) ⟨w2.heap.size, 0, none⟩ 1 1 [.int .i64 p] rfl rfl news_one (by intro u hu; simp at hu; subst hu; rfl) (by unfold maxLen; omega) (by omega) (by simp; omega) ?_))
    intro v' w3 hown3 hgrow3 _
    have HB3 : Hid (Below w.heap.size w w3) := (HB.out.alloc hzr _).grown hgrow3 (by simp; omega) (fun j hj => (hown'.lt j hj).1)
    have HO3 : Hid (w3.ownsRow w.heap.size 3 1 v' (k + 1) (numsTo bs (k + 1))) := by unfold Hid; rw [HTK.out]; exact hown3
    clear hown3 hgrow3 hown'
    go_wp2
    go_roundw
    case rel => exact ⟨k + 1, by omega, by go_num, HA2.out, HO3.out, HB3.out⟩
    case measure => simp [intOf]; omega
  ·have e1 : bs.take k = bs := List.take_of_length_le (by omega)
   have HF : Hid (runesAns bs w.heap.size (.returned (.slice av k cv)) wr) := by
    unfold Hid runesAns
    rw [e1] at hall
    rw [numsTo_all (by omega)] at hown'
    rw [hall]
    have hk2 : k = bs.length := by omega
    subst hk2
    exact ⟨_, rfl, Reads.of_owns hown', fun g hg => (hown'.lt g hg).1⟩
   clear hall hb hown hb1 hown' e1
   go_wp2
   go_ret
   exact ⟨HF.out, HB.out⟩
open Go.RowKit Go.Maps
def rawElem (v : Value) : Option (DataW Value × List MemPlace) := some (.held v, [])
def zeroNode : Value := .agg #[.int .i64 0, .slice none 0 0, .slice none 0 0]
theorem keyLaw : Keyed Tryz.prog 3 := int_keyed Tryz.underlying3
theorem zeroElem (w : World) : (zeroValue 251).run Tryz.prog w = .ok zeroNode w := by kernel_rfl
def MapIs (w : World) (b n : Nat) (f : Int → Value) : Prop :=
 ∃ D : DataW Value, w.ownsMap Tryz.prog 3 rawElem b n D ∧ ∀ r, (Lit.int .i64 r).wf = true → D.atKey (.int .i64 r) (.held zeroNode) = .held (f r)
def upd (f : Int → Value) (r : Int) (v : Value) : Int → Value := fun x => if x = r then v else f x
theorem MapIs.made (w : World) : MapIs (w.alloc (.map #[] 0)) w.heap.size 0 fun _ => zeroNode :=
 ⟨_, World.ownsMap_made w _ _ _, fun _ _ => rfl⟩
theorem MapIs.lt {w : World} {b n : Nat} {f : Int → Value} (h : MapIs w b n f) : b < w.heap.size := by
 obtain ⟨D, h, _⟩ := h
 exact h.lt
theorem MapIs.same {w w' : World} {b n : Nat} {f : Int → Value} (h : MapIs w b n f) (hb : w'.heap[b]? = w.heap[b]?) : MapIs w' b n f := by
 obtain ⟨D, ⟨es, c, hx, r⟩, hf⟩ := h
 exact ⟨D, ⟨es, c, hb.trans hx, r⟩, hf⟩
theorem MapIs.look {w : World} {b n : Nat} {f : Int → Value} (h : MapIs w b n f) {r : Int} (hr : (Lit.int .i64 r).wf = true) :
  (Instr.lookup 168 (.map (some b)) (.int .i64 r) false).run Tryz.prog w = .ok (f r) w := by
 obtain ⟨D, h, hf⟩ := h
 obtain ⟨v, ps, hrun, hv⟩ := h.lookup keyLaw (t := 168) (e := 251) (by kernel_rfl) (zeroElem w) (zd := .held zeroNode) (zp := []) rfl (keyOf_int_mk Tryz.underlying3 hr)
 rw [hf r hr] at hv
 simp [rawElem] at hv
 rw [hrun, hv.1]
theorem MapIs.put {w : World} {b n : Nat} {f : Int → Value} (h : MapIs w b n f) (hn : n < maxLen) {r : Int} (hr : (Lit.int .i64 r).wf = true) (v : Value) :
  ∃ w', (Instr.mapUpdate 168 (.map (some b)) (.int .i64 r) v).run Tryz.prog w = .ok () w' ∧ MapIs w' b (n + 1) (upd f r v) ∧ w.grownBy w' (some b) := by
 obtain ⟨D, h, hf⟩ := h
 have him := h.isMap
 obtain ⟨w', hrun, hown, hg⟩ := h.update keyLaw (t := 168) (e := 251) (by kernel_rfl) hn (keyOf_int_mk Tryz.underlying3 hr) (val := v) (d := .held v) (ps := []) rfl
 refine ⟨w', hrun, ⟨_, hown, fun x hx => ?_⟩, hg⟩
 unfold upd
 by_cases e : x = r
 ·subst e
  rw [if_pos rfl, atKey_put_same him (by simp [WideAt.IsKeyLit])]
 ·rw [if_neg e, atKey_put_other (by simpa using e), hf x hx]
theorem wpList_look {w : World} {ops : Array Oper} {rest : List Oper} {o : Oper} {a : Act} {Q : Exit → Act → World → Prop}
  (hg : o.guard = none) (m x : Operand) (hop : o.op = Op.lookup 168 m x false) (b n : Nat) (f : Int → Value)
  (hm : a.eval m = .map (some b)) (hown : MapIs w b n f) (r : Int) (hx : a.eval x = .int .i64 r) (hr : (Lit.int .i64 r).wf = true) (v : Value) (hv : f r = v)
  (hK : wpList Tryz.prog ops Q rest (a.put o.dst v) w) :
  wpList Tryz.prog ops Q (o :: rest) a w := by
 refine wpList_plain hg fun K' hK' => ?_
 have hrun := hown.look hr
 subst hv
 unfold Oper.wp
 simp [execOp, hop, hm, hx, hrun, Result.andThen]
 exact hK' _ _ hK
theorem wf_rune {r : Int} (h : 0 ≤ r ∧ r ≤ 1114111) : (Lit.int .i64 r).wf = true := WalkArith.wf_i64 (by omega)
structure Sole (B b : Nat) (w w' : World) : Prop where
 os : w'.os = w.os
 tape : w'.tape = w.tape
 output : w'.output = w.output
 size : w.heap.size ≤ w'.heap.size
 block : ∀ k, k < B → k ≠ b → w'.heap[k]? = w.heap[k]?
theorem Sole.refl (B b : Nat) (w : World) : Sole B b w w := ⟨rfl, rfl, rfl, Nat.le_refl _, fun _ _ _ => rfl⟩
theorem Sole.of {B b : Nat} {w w' : World} (h : Below B w w') : Sole B b w w' := ⟨h.os, h.tape, h.output, h.size, fun k hk _ => h.block k hk⟩
theorem Sole.trans {B b : Nat} {u v w : World} (h : Sole B b u v) (k : Sole B b v w) : Sole B b u w :=
 ⟨k.os.trans h.os, k.tape.trans h.tape, k.output.trans h.output, Nat.le_trans h.size k.size, fun i hi hb => (k.block i hi hb).trans (h.block i hi hb)⟩
theorem Sole.then {B b : Nat} {u v w : World} (h : Sole B b u v) (k : Below B v w) : Sole B b u w := h.trans (Sole.of k)
theorem Sole.drew {B b : Nat} {u w : World} (h : Sole B b u w) : Sole B b u w.drew := ⟨h.os, h.tape, h.output, h.size, h.block⟩
theorem Sole.alloc {B b : Nat} {u w : World} (h : Sole B b u w) (hB : B ≤ w.heap.size) (o : Obj) : Sole B b u (w.alloc o) := h.then ((Below.refl _ _).alloc hB o)
theorem Sole.setCell {B b : Nat} {u w : World} (h : Sole B b u w) {p : Addr} (hp : B ≤ p.block) (v : Value) : Sole B b u (w.setCell p v) := h.then ((Below.refl _ _).setCell hp v)
theorem Sole.grown {B b : Nat} {u w w' : World} {row : Option Nat} (h : Sole B b u w) (hg : w.grownBy w' row) (hB : B ≤ w.heap.size) (hr : ∀ k, row = some k → B ≤ k ∨ k = b) : Sole B b u w' :=
 h.trans ⟨hg.os, hg.tape, hg.output, hg.size, fun k hk hb => hg.block k (by omega) (fun e => by rcases hr k e.symm with h | h <;> omega)⟩
theorem Sole.cell {B b : Nat} {w w' : World} (h : Sole B b w w') {p : Addr} (hp : p.block < B) (hb : p.block ≠ b) : w'.cell? p = w.cell? p := World.cell?_of_block (h.block _ hp hb)
theorem Sole.frozen {B b : Nat} {w w' : World} (h : Sole B b w w') {p : Addr} (hp : p.block < B) (hb : p.block ≠ b) : w'.frozen? p = w.frozen? p := World.frozen?_of_block (h.block _ hp hb)
theorem Sole.below {B B' b : Nat} {w w' : World} (h : Sole B b w w') (hB : B' ≤ B) (hb : B' ≤ b) : Below B' w w' := ⟨h.os, h.tape, h.output, h.size, fun k hk => h.block k (by omega) (by omega)⟩
structure Keeps (w w' : World) (col col' : Nat → Int) (c : Int → Prop) : Prop where
 size : w.heap.size ≤ w'.heap.size
 block : ∀ g, g < w.heap.size → c (col g) → w'.heap[g]? = w.heap[g]?
 same : ∀ g, g < w.heap.size → col' g = col g
theorem Keeps.below {w w' : World} {col : Nat → Int} {c : Int → Prop} (h : Below w.heap.size w w') : Keeps w w' col col c := ⟨h.size, fun g hg _ => h.block g hg, fun _ _ => rfl⟩
theorem Keeps.grown {w w' : World} {col : Nat → Int} {b : Nat} {c0 : Int} (h : w.grownBy w' (some b)) (hb : col b = c0) : Keeps w w' col col (· ≠ c0) :=
 ⟨h.size, fun g hg hc => h.block g hg (fun e => by cases e; exact hc hb), fun _ _ => rfl⟩
theorem Keeps.trans {a b d : World} {c1 c2 c3 : Nat → Int} {c : Int → Prop} (h : Keeps a b c1 c2 c) (k : Keeps b d c2 c3 c) : Keeps a d c1 c3 c :=
 ⟨Nat.le_trans h.size k.size, fun g hg hc => (k.block g (Nat.lt_of_lt_of_le hg h.size) (by rw [h.same g hg]; exact hc)).trans (h.block g hg hc), fun g hg => (k.same g (Nat.lt_of_lt_of_le hg h.size)).trans (h.same g hg)⟩
def recol (col : Nat → Int) (b : Nat) (c : Int) : Nat → Int := fun g => if g = b then c else col g
def Data (w : World) (col : Nat → Int) (v : Value) (size n : Nat) (xs : List Value) : Prop := Reads w v size n xs ∧ ∀ g, v.ownBlock = some g → col g = -1
theorem Data.keep {w w' : World} {col col' : Nat → Int} {c : Int → Prop} {v : Value} {size n : Nat} {xs : List Value} (h : Data w col v size n xs) (k : Keeps w w' col col' c) (hc : c (-1)) : Data w' col' v size n xs := by
 refine ⟨h.1.of_blocks k.size (fun g hg => k.block g (h.1.2.1 g hg) (by rw [h.2 g hg]; exact hc)), fun g hg => ?_⟩
 rw [k.same g (h.1.2.1 g hg)]; exact h.2 g hg
theorem ownsRow_same {w w' : World} {base : Nat} {e : TypeId} {size : Nat} {v : Value} {n : Nat} {xs : List Value} (h : w.ownsRow base e size v n xs) (hb : ∀ g, v.ownBlock = some g → w'.heap[g]? = w.heap[g]?) : w'.ownsRow base e size v n xs := by
 refine ⟨h.1, ?_⟩
 rcases h.2 with h2 | ⟨g, cap, cur, hv, hg, hh, r⟩
 ·exact .inl h2
 ·exact .inr ⟨g, cap, cur, hv, hg, by rw [hb g (by rw [hv]; rfl)]; exact hh, r⟩
def Row (w : World) (col : Nat → Int) (base : Nat) (e : TypeId) (size : Nat) (cl : Int) (v : Value) (n : Nat) (xs : List Value) : Prop := w.ownsRow base e size v n xs ∧ ∀ g, v.ownBlock = some g → col g = cl
theorem Row.keep {w w' : World} {col col' : Nat → Int} {c : Int → Prop} {base : Nat} {e : TypeId} {size : Nat} {cl : Int} {v : Value} {n : Nat} {xs : List Value} (h : Row w col base e size cl v n xs) (k : Keeps w w' col col' c) (hc : c cl) : Row w' col' base e size cl v n xs := by
 refine ⟨ownsRow_same h.1 (fun g hg => k.block g (h.1.lt g hg).2 (by rw [h.2 g hg]; exact hc)), fun g hg => ?_⟩
 rw [k.same g (h.1.lt g hg).2]; exact h.2 g hg
def seqCells (ld : Bool) (xs : List (Value × Value)) (ls : List Tm.Ln) : List Value := (xs.zip ls).flatMap fun p => (cond ld [Value.int .i64 p.2.num] []) ++ [p.1.1, p.1.2]
theorem seqCells_snoc {ld : Bool} {xs : List (Value × Value)} {ls : List Tm.Ln} (hl : xs.length = ls.length) (x : Value × Value) (l : Tm.Ln) : seqCells ld (xs ++ [x]) (ls ++ [l]) = seqCells ld xs ls ++ ((cond ld [Value.int .i64 l.num] []) ++ [x.1, x.2]) := by
 unfold seqCells
 rw [List.zip_append hl]
 simp
theorem seqCells_get2 {xs : List (Value × Value)} {ls : List Tm.Ln} (hl : xs.length = ls.length) {k f : Nat} (h : k < ls.length) (h' : k < xs.length) (hf : f < 2) :
  (seqCells false xs ls)[k * 2 + f]? = ([xs[k].1, xs[k].2])[f]? := by
 induction xs generalizing ls k with
 | nil => simp at h'
 | cons a r ih =>
  cases ls with
  | nil => simp at h
  | cons b q =>
   cases k with
   | zero =>
    simp only [seqCells, List.zip_cons_cons, List.flatMap_cons]
    rw [List.getElem?_append_left (by simp; omega)]
    simp
   | succ k =>
    simp only [seqCells, List.zip_cons_cons, List.flatMap_cons]
    rw [List.getElem?_append_right (by simp; omega)]
    have := ih (ls := q) (by simpa using hl) (k := k) (by simpa using h) (by simpa using h')
    simp only [seqCells] at this
    simp only [cond_false, List.nil_append, List.length_cons, List.length_nil] at *
    rw [show (k + 1) * 2 + f - (0 + 1 + 1) = k * 2 + f from by omega, this]
    rfl
theorem seqCells_get3 {xs : List (Value × Value)} {ls : List Tm.Ln} (hl : xs.length = ls.length) {k f : Nat} (h : k < ls.length) (h' : k < xs.length) (hf : f < 3) :
  (seqCells true xs ls)[k * 3 + f]? = ([Value.int .i64 ls[k].num, xs[k].1, xs[k].2])[f]? := by
 induction xs generalizing ls k with
 | nil => simp at h'
 | cons a r ih =>
  cases ls with
  | nil => simp at h
  | cons b q =>
   cases k with
   | zero =>
    simp only [seqCells, List.zip_cons_cons, List.flatMap_cons]
    rw [List.getElem?_append_left (by simp; omega)]
    simp
   | succ k =>
    simp only [seqCells, List.zip_cons_cons, List.flatMap_cons]
    rw [List.getElem?_append_right (by simp; omega)]
    have := ih (ls := q) (by simpa using hl) (k := k) (by simpa using h) (by simpa using h')
    simp only [seqCells] at this
    simp only [cond_true, List.cons_append, List.nil_append, List.length_cons, List.length_nil] at *
    rw [show (k + 1) * 3 + f - (0 + 1 + 1 + 1) = k * 3 + f from by omega, this]
    rfl
def SeqOk (w : World) (col : Nat → Int) (x : Value × Value) (l : Tm.Ln) : Prop := Data w col x.1 1 l.runes.length (ints l.runes) ∧ Data w col x.2 4 l.els.length (elsCells l.els)
def SeqRow (w : World) (col : Nat → Int) (base : Nat) (e : TypeId) (ld : Bool) (cl : Int) (v : Value) (ls : List Tm.Ln) : Prop :=
 ∃ xs : List (Value × Value), xs.length = ls.length ∧ Row w col base e (cond ld 3 2) cl v ls.length (seqCells ld xs ls) ∧ ∀ k (h : k < ls.length) (h' : k < xs.length), SeqOk w col xs[k] ls[k]
theorem SeqRow.keep {w w' : World} {col col' : Nat → Int} {c : Int → Prop} {base : Nat} {e : TypeId} {ld : Bool} {cl : Int} {v : Value} {ls : List Tm.Ln} (h : SeqRow w col base e ld cl v ls) (k : Keeps w w' col col' c) (hc : c (-1)) (hcl : c cl) : SeqRow w' col' base e ld cl v ls := by
 obtain ⟨xs, hl, hr, hok⟩ := h
 exact ⟨xs, hl, hr.keep k hcl, fun j h h' => ⟨(hok j h h').1.keep k hc, (hok j h h').2.keep k hc⟩⟩
theorem SeqRow.nil (w : World) (col : Nat → Int) (base : Nat) (e : TypeId) (ld : Bool) (cl : Int) : SeqRow w col base e ld cl (.slice none 0 0) [] :=
 ⟨[], rfl, ⟨World.ownsRow_nil _ _ _ _, fun g hg => by cases hg⟩, fun k h => by simp at h⟩
theorem SeqRow.snoc {w w' : World} {col col' : Nat → Int} {c : Int → Prop} {base : Nat} {e : TypeId} {ld : Bool} {cl : Int} {v' : Value} {ls : List Tm.Ln} {xs : List (Value × Value)} {x : Value × Value} {l : Tm.Ln}
  (hl : xs.length = ls.length) (hok : ∀ k (h : k < ls.length) (h' : k < xs.length), SeqOk w col xs[k] ls[k]) (hx : SeqOk w col x l) (k : Keeps w w' col col' c) (hc : c (-1))
  (hown : w'.ownsRow base e (cond ld 3 2) v' (ls.length + 1) (seqCells ld xs ls ++ ((cond ld [Value.int .i64 l.num] []) ++ [x.1, x.2]))) (hcol : ∀ g, v'.ownBlock = some g → col' g = cl) : SeqRow w' col' base e ld cl v' (ls ++ [l]) := by
 refine ⟨xs ++ [x], by simp [hl], ⟨?_, hcol⟩, fun j h h' => ?_⟩
 ·rw [seqCells_snoc hl]; simpa using hown
 ·by_cases e : j < ls.length
  ·have e' : j < xs.length := by omega
   rw [List.getElem_append_left e', List.getElem_append_left e]
   exact ⟨(hok j e e').1.keep k hc, (hok j e e').2.keep k hc⟩
  ·simp at h
   have : j = ls.length := by omega
   subst this
   rw [List.getElem_append_right (by omega), List.getElem_append_right (by omega)]
   simpa using ⟨hx.1.keep k hc, hx.2.keep k hc⟩
def NodeOk (w : World) (col : Nat → Int) (base : Nat) (lns : List Tm.Ln) (r : Int) (v : Value) : Prop :=
 ∃ vp vs, v = .agg #[.int .i64 (Tm.classOf lns r), vp, vs] ∧ Data w col vp 1 (Tm.parts lns r).length (ints (Tm.parts lns r)) ∧ SeqRow w col base 238 false r vs (Tm.seqsAt lns r)
theorem NodeOk.keep {w w' : World} {col col' : Nat → Int} {c : Int → Prop} {base : Nat} {lns : List Tm.Ln} {r : Int} {v : Value} (h : NodeOk w col base lns r v) (k : Keeps w w' col col' c) (hc : c (-1)) (hr : c r) : NodeOk w' col' base lns r v := by
 obtain ⟨vp, vs, rfl, h1, h2⟩ := h
 exact ⟨vp, vs, rfl, h1.keep k hc, h2.keep k hc hr⟩
theorem NodeOk.other {w : World} {col : Nat → Int} {base : Nat} {lns lns' : List Tm.Ln} {r : Int} {v : Value} (h : NodeOk w col base lns r v) (h1 : Tm.classOf lns' r = Tm.classOf lns r) (h2 : Tm.parts lns' r = Tm.parts lns r) (h3 : Tm.seqsAt lns' r = Tm.seqsAt lns r) : NodeOk w col base lns' r v := by
 unfold NodeOk
 rw [h1, h2, h3]
 exact h
structure Nd (w : World) (col : Nat → Int) (base bm : Nat) (lns : List Tm.Ln) : Prop where
 hue : col bm = -2
 from_ : 0 ≤ bm
 map : ∃ f, MapIs w bm lns.length f ∧ ∀ r, 0 ≤ r → NodeOk w col base lns r (f r)
theorem Nd.keep {w w' : World} {col col' : Nat → Int} {c : Int → Prop} {base bm : Nat} {lns : List Tm.Ln} (h : Nd w col base bm lns) (k : Keeps w w' col col' c) (hc : c (-1)) (hm : c (-2)) (hr : ∀ r, 0 ≤ r → c r) : Nd w' col' base bm lns := by
 obtain ⟨h1, h2, f, hf, hok⟩ := h
 refine ⟨?_, h2, f, hf.same (k.block bm hf.lt (by rw [h1]; exact hm)), fun r hr0 => (hok r hr0).keep k hc (hr r hr0)⟩
 rw [k.same bm hf.lt]; exact h1
theorem Nd.look {w : World} {col : Nat → Int} {base bm : Nat} {lns : List Tm.Ln} (h : Nd w col base bm lns) {r : Int} (hr : 0 ≤ r) :
  ∃ f vp vs, MapIs w bm lns.length f ∧ f r = .agg #[.int .i64 (Tm.classOf lns r), vp, vs] ∧ Data w col vp 1 (Tm.parts lns r).length (ints (Tm.parts lns r)) ∧ SeqRow w col base 238 false r vs (Tm.seqsAt lns r) ∧ (∀ x, 0 ≤ x → NodeOk w col base lns x (f x)) := by
 obtain ⟨h1, h2, f, hf, hok⟩ := h
 obtain ⟨vp, vs, hv, hp, hs⟩ := hok r hr
 exact ⟨f, vp, vs, hf, hv, hp, hs, hok⟩
def partCells (ls : List Tm.Ln) : List Value := ls.flatMap fun l => [Value.int .i64 l.num, .int .i64 (l.runes.getD 0 0)]
theorem partCells_snoc {ls : List Tm.Ln} {l : Tm.Ln} : partCells (ls ++ [l]) = partCells ls ++ [Value.int .i64 l.num, .int .i64 (l.runes.getD 0 0)] := by simp [partCells]
theorem partCells_get {ls : List Tm.Ln} {k f : Nat} (h : k < ls.length) (hf : f < 2) : (partCells ls)[k * 2 + f]? = ([Value.int .i64 ls[k].num, .int .i64 (ls[k].runes.getD 0 0)])[f]? := by
 induction ls generalizing k with
 | nil => simp at h
 | cons a r ih =>
  cases k with
  | zero =>
   simp only [partCells, List.flatMap_cons]
   rw [List.getElem?_append_left (by simp; omega)]
   simp
  | succ k =>
   simp only [partCells, List.flatMap_cons]
   rw [List.getElem?_append_right (by simp; omega)]
   have := ih (k := k) (by simpa using h)
   simp only [partCells] at this
   simp only [List.length_cons, List.length_nil] at *
   rw [show (k + 1) * 2 + f - (0 + 1 + 1) = k * 2 + f from by omega, this]
   rfl
def Pt (w : World) (col : Nat → Int) (base : Nat) (v : Value) (lns : List Tm.Ln) : Prop := Row w col base 234 2 (-4) v (Tm.dLines lns).length (partCells (Tm.dLines lns))
def Wt (w : World) (col : Nat → Int) (base : Nat) (v : Value) (lns : List Tm.Ln) : Prop := SeqRow w col base 240 true (-5) v (Tm.wLines lns)
structure Dr (w : World) (col : Nat → Int) (base bd bm : Nat) (line : Int) (vp vw : Value) : Prop where
 hue : col bd = -3
 from_ : base ≤ bd
 lt : bd < w.heap.size
 c0 : w.cell? ⟨bd, 0, none⟩ = some (.map (some bm))
 c1 : w.cell? ⟨bd, 1, none⟩ = some (.int .i64 line)
 c2 : w.cell? ⟨bd, 2, none⟩ = some vp
 c3 : w.cell? ⟨bd, 3, none⟩ = some vw
 free : ∀ o, w.frozen? ⟨bd, o, none⟩ = false
theorem Dr.keep {w w' : World} {col col' : Nat → Int} {c : Int → Prop} {base bd bm : Nat} {line : Int} {vp vw : Value} (h : Dr w col base bd bm line vp vw) (k : Keeps w w' col col' c) (hc : c (-3)) : Dr w' col' base bd bm line vp vw := by
 have hb := k.block bd h.lt (by rw [h.hue]; exact hc)
 refine ⟨?_, h.from_, Nat.lt_of_lt_of_le h.lt k.size, ?_, ?_, ?_, ?_, fun o => ?_⟩
 ·rw [k.same bd h.lt]; exact h.hue
 ·rw [World.cell?_of_block (w := w) (a := ⟨bd, 0, none⟩) hb]; exact h.c0
 ·rw [World.cell?_of_block (w := w) (a := ⟨bd, 1, none⟩) hb]; exact h.c1
 ·rw [World.cell?_of_block (w := w) (a := ⟨bd, 2, none⟩) hb]; exact h.c2
 ·rw [World.cell?_of_block (w := w) (a := ⟨bd, 3, none⟩) hb]; exact h.c3
 ·rw [World.frozen?_of_block (w := w) (a := ⟨bd, o, none⟩) hb]; exact h.free o
structure Rep (w : World) (col : Nat → Int) (base bd bm : Nat) (line : Int) (vp vw : Value) (lns : List Tm.Ln) : Prop where
 dr : Dr w col base bd bm line vp vw
 nd : Nd w col base bm lns
 pt : Pt w col base vp lns
 wt : Wt w col base vw lns
 fit : ∀ o ∈ lns, Tm.Fit o
 low : ∀ g, g < base → col g ≠ -1
theorem Rep.keep {w w' : World} {col col' : Nat → Int} {base bd bm : Nat} {line : Int} {vp vw : Value} {lns : List Tm.Ln} (h : Rep w col base bd bm line vp vw lns) (k : Keeps w w' col col' (fun _ => True)) : Rep w' col' base bd bm line vp vw lns :=
 ⟨h.dr.keep k trivial, h.nd.keep k trivial trivial (fun _ _ => trivial), h.pt.keep k trivial, h.wt.keep k trivial trivial, h.fit, fun g hg => by rw [k.same g (by have h1 := h.dr.from_; have h2 := h.dr.lt; omega)]; exact h.low g hg⟩
theorem Rep.below {w w' : World} {col : Nat → Int} {base bd bm : Nat} {line : Int} {vp vw : Value} {lns : List Tm.Ln} (h : Rep w col base bd bm line vp vw lns) (hb : Below w.heap.size w w') : Rep w' col base bd bm line vp vw lns := h.keep (Keeps.below hb)
theorem fit_snoc {lns : List Tm.Ln} {l : Tm.Ln} (h : ∀ o ∈ lns, Tm.Fit o) (hl : Tm.Fit l) : ∀ o ∈ lns ++ [l], Tm.Fit o := by
 intro o ho
 rcases List.mem_append.1 ho with h1 | h1
 ·exact h o h1
 ·simp at h1; subst h1; exact hl
theorem Nd.class {w w2 : World} {col : Nat → Int} {base bm : Nat} {lns : List Tm.Ln} {f : Int → Value} {r cls n : Int} {pv sv : Value} (hnd : Nd w col base bm lns) (hall : ∀ x, 0 ≤ x → NodeOk w col base lns x (f x))
  (hp : Data w col pv 1 (Tm.parts lns r).length (ints (Tm.parts lns r))) (hs : SeqRow w col base 238 false r sv (Tm.seqsAt lns r)) (hr : 0 ≤ r)
  (hm : MapIs w2 bm (lns.length + 1) (upd f r (.agg #[.int .i64 cls, pv, sv]))) (k : Keeps w w2 col col (· ≠ -2)) (h0 : Tm.classOf lns r = 0) (hf : ∀ o ∈ lns, Tm.Fit o) : Nd w2 col base bm (lns ++ [⟨[99], [r, cls], [], n⟩]) := by
 have hp' : ∀ x, Tm.parts (lns ++ [⟨[99], [r, cls], [], n⟩]) x = Tm.parts lns x := fun x => by rw [Tm.parts_snoc, if_neg (by simp [Tm.isParts])]
 have hs' : ∀ x, Tm.seqsAt (lns ++ [⟨[99], [r, cls], [], n⟩]) x = Tm.seqsAt lns x := fun x => by rw [Tm.seqsAt_snoc, if_neg (by simp [Tm.isHead])]
 refine ⟨hnd.hue, hnd.from_, _, by simpa using hm, fun x hx => ?_⟩
 unfold upd
 by_cases e : x = r
 ·subst e
  rw [if_pos rfl]
  refine ⟨pv, sv, ?_, ?_, ?_⟩
  ·rw [Tm.classOf_snoc, if_pos ⟨Tm.class_none hf h0, by simp [Tm.isClass]⟩]; rfl
  ·rw [hp']; exact hp.keep k (by first | decide | omega | (dsimp only; omega))
  ·rw [hs']; exact hs.keep k (by first | decide | omega | (dsimp only; omega)) (by first | decide | omega | (dsimp only; omega))
 ·rw [if_neg e]
  refine ((hall x hx).keep k (by first | decide | omega | (dsimp only; omega)) (by first | decide | omega | (dsimp only; omega))).other ?_ (hp' x) (hs' x)
  rw [Tm.classOf_snoc, if_neg (by simp [Tm.isClass]; omega)]
theorem Rep.class {w w2 : World} {col : Nat → Int} {base bd bm : Nat} {line : Int} {vp vw : Value} {lns : List Tm.Ln} {f : Int → Value} {r cls : Int} {pv sv : Value} (h : Rep w col base bd bm line vp vw lns) (hall : ∀ x, 0 ≤ x → NodeOk w col base lns x (f x))
  (hp : Data w col pv 1 (Tm.parts lns r).length (ints (Tm.parts lns r))) (hs : SeqRow w col base 238 false r sv (Tm.seqsAt lns r)) (hr : 0 ≤ r)
  (hm : MapIs w2 bm (lns.length + 1) (upd f r (.agg #[.int .i64 cls, pv, sv]))) (k : Keeps w w2 col col (· ≠ -2)) (h0 : Tm.classOf lns r = 0) (hl : Tm.Fit ⟨[99], [r, cls], [], line⟩) : Rep w2 col base bd bm line vp vw (lns ++ [⟨[99], [r, cls], [], line⟩]) := by
 refine ⟨h.dr.keep k (by first | decide | omega | (dsimp only; omega)), h.nd.class hall hp hs hr hm k h0 h.fit, ?_, ?_, fit_snoc h.fit hl, h.low⟩
 ·unfold Pt; rw [Tm.dLines_snoc, if_neg (by simp)]; exact h.pt.keep k (by first | decide | omega | (dsimp only; omega))
 ·unfold Wt; rw [Tm.wLines_snoc, if_neg (by simp)]; exact h.wt.keep k (by first | decide | omega | (dsimp only; omega)) (by first | decide | omega | (dsimp only; omega))
theorem Nd.parts {w w2 : World} {col : Nat → Int} {base bm : Nat} {lns : List Tm.Ln} {f : Int → Value} {r n : Int} {rs : List Int} {pv sv : Value} (hnd : Nd w col base bm lns) (hall : ∀ x, 0 ≤ x → NodeOk w col base lns x (f x))
  (hp : Data w col pv 1 rs.length (ints rs)) (hs : SeqRow w col base 238 false r sv (Tm.seqsAt lns r)) (hr : 0 ≤ r)
  (hm : MapIs w2 bm (lns.length + 1) (upd f r (.agg #[.int .i64 (Tm.classOf lns r), pv, sv]))) (k : Keeps w w2 col col (· ≠ -2)) (h0 : (Tm.parts lns r).length = 0) (hf : ∀ o ∈ lns, Tm.Fit o) : Nd w2 col base bm (lns ++ [⟨[100], r :: rs, [], n⟩]) := by
 have hp' : ∀ x, Tm.classOf (lns ++ [⟨[100], r :: rs, [], n⟩]) x = Tm.classOf lns x := fun x => by rw [Tm.classOf_snoc, if_neg (by simp [Tm.isClass])]
 have hs' : ∀ x, Tm.seqsAt (lns ++ [⟨[100], r :: rs, [], n⟩]) x = Tm.seqsAt lns x := fun x => by rw [Tm.seqsAt_snoc, if_neg (by simp [Tm.isHead])]
 refine ⟨hnd.hue, hnd.from_, _, by simpa using hm, fun x hx => ?_⟩
 unfold upd
 by_cases e : x = r
 ·subst e
  rw [if_pos rfl]
  have e1 : Tm.parts (lns ++ [⟨[100], x :: rs, [], n⟩]) x = rs := by rw [Tm.parts_snoc, if_pos ⟨Tm.parts_none hf h0, by simp [Tm.isParts]⟩]; rfl
  refine ⟨pv, sv, ?_, ?_, ?_⟩
  ·rw [hp']
  ·rw [e1]; exact hp.keep k (by first | decide | omega | (dsimp only; omega))
  ·rw [hs']; exact hs.keep k (by first | decide | omega | (dsimp only; omega)) (by first | decide | omega | (dsimp only; omega))
 ·rw [if_neg e]
  refine ((hall x hx).keep k (by first | decide | omega | (dsimp only; omega)) (by first | decide | omega | (dsimp only; omega))).other (hp' x) ?_ (hs' x)
  rw [Tm.parts_snoc, if_neg (by simp [Tm.isParts]; omega)]
theorem Nd.weigh {w w2 : World} {col col' : Nat → Int} {base bm : Nat} {lns : List Tm.Ln} {f : Int → Value} {r : Int} {l : Tm.Ln} {pv sv : Value} (hnd : Nd w col base bm lns) (hall : ∀ x, 0 ≤ x → NodeOk w col base lns x (f x))
  (hk : l.kind = [119]) (hr1 : l.runes.getD 0 0 = r) (hp : Data w col pv 1 (Tm.parts lns r).length (ints (Tm.parts lns r))) (hs : SeqRow w2 col' base 238 false r sv (Tm.seqsAt lns r ++ [l])) (hr : 0 ≤ r)
  (hm : MapIs w2 bm (lns.length + 1) (upd f r (.agg #[.int .i64 (Tm.classOf lns r), pv, sv]))) (k : Keeps w w2 col col' (fun c => c ≠ -2 ∧ c ≠ r)) : Nd w2 col' base bm (lns ++ [l]) := by
 have hc' : ∀ x, Tm.classOf (lns ++ [l]) x = Tm.classOf lns x := fun x => by rw [Tm.classOf_snoc, if_neg (by simp [Tm.isClass, hk])]
 have hp' : ∀ x, Tm.parts (lns ++ [l]) x = Tm.parts lns x := fun x => by rw [Tm.parts_snoc, if_neg (by simp [Tm.isParts, hk])]
 obtain ⟨h1, h2, f0, hf0, _⟩ := hnd
 refine ⟨by rw [k.same bm hf0.lt]; exact h1, h2, _, by simpa using hm, fun x hx => ?_⟩
 unfold upd
 by_cases e : x = r
 ·subst e
  rw [if_pos rfl]
  refine ⟨pv, sv, by rw [hc'], ?_, ?_⟩
  ·rw [hp']; exact hp.keep k (by first | decide | omega | (dsimp only; omega))
  ·rw [Tm.seqsAt_snoc, if_pos (by simp only [Tm.isHead, hk, hr1]; simp)]; exact hs
 ·rw [if_neg e]
  refine ((hall x hx).keep k (by first | decide | omega | (dsimp only; omega)) (by first | decide | omega | (dsimp only; omega))).other (hc' x) (hp' x) ?_
  rw [Tm.seqsAt_snoc, if_neg (by simp only [Tm.isHead, hk, hr1]; simp; omega)]
def lets (bs : List ByteArray) : List (List UInt8) := bs.map fun b => b.data.toList
theorem lets_length (bs : List ByteArray) : (lets bs).length = bs.length := by simp [lets]
theorem lets_get {bs : List ByteArray} {k : Nat} (h : k < bs.length) (h' : k < (lets bs).length) : (lets bs)[k] = bs[k].data.toList := by simp [lets]
theorem all_lets (bs : List ByteArray) : (bs.all fun b => numOk 1114111 b.data.toList) = (lets bs).all Tm.runeOk := by
 unfold lets
 rw [List.all_map]; rfl
theorem nums_lets (bs : List ByteArray) : (bs.map fun b => Tm.num b.data.toList) = (lets bs).map Tm.num := by
 unfold lets
 rw [List.map_map]; rfl
set_option maxRecDepth 100000 in
theorem isMark_any (c : Int) (w : World) : Calls Tryz.prog 160 #[.agg #[.int .i64 c]] w fun e w' => e = .returned (.bool (c != 0)) ∧ Below w.heap.size w w' := by
 go_enter Tryz.func160, Tryz.ntmps160
 go_wp2
 go_ret
 exact ⟨rfl, (Below.refl _ _).alloc (Nat.le_refl _) _⟩
set_option maxRecDepth 100000 in
theorem hasParts_any (v : Value) (n : Nat) (xs : List Value) (w : World) (h : Reads w v 1 n xs) : Calls Tryz.prog 164 #[.agg #[v]] w fun e w' => e = .returned (.bool (decide (0 < n))) ∧ Below w.heap.size w w' := by
 obtain ⟨a, cap, rfl⟩ := h.shape
 clear h
 go_enter Tryz.func164, Tryz.ntmps164
 go_wp2
 go_ret
 refine ⟨?_, (Below.refl _ _).alloc (Nat.le_refl _) _⟩
 simp
set_option maxRecDepth 100000 in
set_option maxHeartbeats 1000000 in
theorem cannotBe_any (x : Tm.El) (w : World) : Calls Tryz.prog 194 #[.agg #[.int .i64 x.p, .int .i64 x.s, .int .i64 x.t, .bool x.v]] w fun e w' => e = .returned (.bool (Tm.lightEl x)) ∧ Below w.heap.size w w' := by
 have HL : Hid (Tm.lightEl x = ((x.p != 0 && x.s == 0) || (x.s != 0 && x.t == 0) || (x.v && x.p == 0) || decide (64256 ≤ x.p))) := rfl
 obtain ⟨p, s, t, v⟩ := x
 simp only at HL ⊢
 cases h1 : (p == 0) <;> cases h2 : (s == 0) <;> cases h3 : (t == 0) <;> cases v <;> cases h4 : decide (64256 ≤ p)
 all_goals
  have g1 : (p != 0) = !(p == 0) := rfl
  have g2 : (s != 0) = !(s == 0) := rfl
  rw [h1] at g1
  rw [h2] at g2
  simp only [Bool.not_true, Bool.not_false] at g1 g2
  go_enter Tryz.func194, Tryz.ntmps194
  go_wp2
  go_ret
  refine ⟨?_, (Below.refl _ _).alloc (Nat.le_refl _) _⟩
  rw [HL.out]
  simp [h1, h2, h3, h4, g1, g2]
def foundAns (b : Bool) (e : Ending) : Prop := ∃ i : Int, e = .returned (.int .i64 i) ∧ decide (0 ≤ i) = b
set_option maxRecDepth 100000 in
set_option maxHeartbeats 1000000 in
theorem IndexFunc_light (ve : Value) (els : List Tm.El) (w : World) (he : Reads w ve 4 els.length (elsCells els)) (hl : els.length ≤ 1000000) :
  Calls Tryz.prog 208 #[ve, .func (.func 194) #[] #[]] w fun e w' => foundAns (els.any Tm.lightEl) e ∧ Below w.heap.size w w' := by
 obtain ⟨a, cap, rfl⟩ := he.shape
 have HC : Hid (∀ k (hk : k < els.length), _) := fun k hk => els_at he hk
 clear he
 go_enter Tryz.func208, Tryz.ntmps208
 go_wp2
 go_loopw [8] (fun i wr => ∃ k : Nat, k ≤ els.length ∧ i = .int .i64 k ∧ (els.take k).any Tm.lightEl = false ∧ Below w.heap.size w wr) (fun i _ => els.length - (intOf i).toNat)
 case atStart => exact ⟨0, Nat.zero_le _, rfl, by simp, Below.refl _ _⟩
 case round =>
  obtain ⟨k, hk, rfl, hno, hb⟩ := hrel
  have hz := hb.size
  have HB := hide hb
  by_cases hlt : k < els.length
  ·obtain ⟨g, off, rfl, hg, c0, c1, c2, c3⟩ := HC.out k hlt
   have hc : ∀ o, wr.cell? ⟨g, o, none⟩ = w.cell? ⟨g, o, none⟩ := fun o => hb.cell (p := ⟨g, o, none⟩) hg
   rw [← hc] at c0 c1 c2 c3
   have HS : Hid (∀ hx : Tm.lightEl els[k] = false, (els.take (k + 1)).any Tm.lightEl = false) := fun hx => any_step hno hlt hx
   have HY : Hid (∀ hx : Tm.lightEl els[k] = true, els.any Tm.lightEl = true) := fun hx => any_hit hlt hx
   generalize els[k] = x at *
   clear hc hb hno HC
   go_wp2_with fail
   refine (cannotBe_any x _).mono ?_
   rintro e w1 ⟨rfl, hb1⟩
   have HB1 : Hid (Below w.heap.size w w1) := HB.out.trans (hb1.mono hz)
   clear hb1
   cases hx : Tm.lightEl x
   ·go_wp2
    go_roundw
    case rel => exact ⟨k + 1, by omega, by go_num, HS.out hx, HB1.out⟩
    case measure => simp [intOf]; omega
   ·go_wp2
    go_ret
    exact ⟨⟨k, rfl, by rw [HY.out hx]; simp⟩, HB1.out⟩
  ·have HN : Hid (els.any Tm.lightEl = false) := by
    rw [List.take_of_length_le (by omega)] at hno
    exact hno
   clear hno hb HC
   go_wp2
   go_ret
   exact ⟨⟨-1, rfl, by rw [HN.out]; rfl⟩, HB.out⟩
set_option maxRecDepth 100000 in
theorem ContainsFunc_light (ve : Value) (els : List Tm.El) (w : World) (he : Reads w ve 4 els.length (elsCells els)) (hl : els.length ≤ 1000000) :
  Calls Tryz.prog 193 #[ve, .func (.func 194) #[] #[]] w fun e w' => e = .returned (.bool (els.any Tm.lightEl)) ∧ Below w.heap.size w w' := by
 go_enter Tryz.func193, Tryz.ntmps193
 go_wp2_with fail
 refine (IndexFunc_light ve els _ he hl).mono ?_
 rintro e w1 ⟨⟨i, rfl, hi⟩, hb⟩
 have HI := hide hi
 clear hi
 go_wp2
 go_ret
 exact ⟨ret_bool HI.out, hb⟩
end Go.Proofs.YtmnjjjhmnhfapaaGreatDoor
