/-
  The map of nodes, as a function from runes to values.
-/
import Derived.Test.YthaecjhnlpbfnaaDoorBase
import Derived.Maps.OwnOps
import Derived.Maps.OwnSet
namespace Go.Proofs.YthaecjhnlpbfnaaDoor
open Go.RowKit Go.Maps

/-- An element as it lies. -/
def rawElem (v : Value) : Option (DataW Value × List MemPlace) := some (.held v, [])
/-- A node of which the table says nothing. -/
def zeroNode : Value := .agg #[.int .i64 0, .slice none 0 0, .slice none 0 0]
theorem keyLaw : Keyed Tryd.prog 3 := int_keyed Tryd.underlying3
theorem zeroElem (w : World) : (zeroValue 141).run Tryd.prog w = .ok zeroNode w := by kernel_rfl

/-- Block b is a map of at most n entries that answers f. -/
def MapIs (w : World) (b n : Nat) (f : Int → Value) : Prop :=
  ∃ D : DataW Value, w.ownsMap Tryd.prog 3 rawElem b n D ∧ ∀ r, (Lit.int .i64 r).wf = true → D.atKey (.int .i64 r) (.held zeroNode) = .held (f r)

/-- One answer is another. -/
def upd (f : Int → Value) (r : Int) (v : Value) : Int → Value := fun x => if x = r then v else f x

theorem MapIs.made (w : World) : MapIs (w.alloc (.map #[] 0)) w.heap.size 0 fun _ => zeroNode :=
  ⟨_, World.ownsMap_made w _ _ _, fun _ _ => rfl⟩
theorem MapIs.lt {w : World} {b n : Nat} {f : Int → Value} (h : MapIs w b n f) : b < w.heap.size := by
  obtain ⟨D, h, _⟩ := h
  exact h.lt
theorem MapIs.same {w w' : World} {b n : Nat} {f : Int → Value} (h : MapIs w b n f) (hb : w'.heap[b]? = w.heap[b]?) : MapIs w' b n f := by
  obtain ⟨D, ⟨es, c, hx, r⟩, hf⟩ := h
  exact ⟨D, ⟨es, c, hb.trans hx, r⟩, hf⟩
theorem MapIs.look {w : World} {b n : Nat} {f : Int → Value} (h : MapIs w b n f) {r : Int} (hr : (Lit.int .i64 r).wf = true) :
    (Instr.lookup 98 (.map (some b)) (.int .i64 r) false).run Tryd.prog w = .ok (f r) w := by
  obtain ⟨D, h, hf⟩ := h
  obtain ⟨v, ps, hrun, hv⟩ := h.lookup keyLaw (t := 98) (e := 141) (by kernel_rfl) (zeroElem w) (zd := .held zeroNode) (zp := []) rfl (keyOf_int_mk Tryd.underlying3 hr)
  rw [hf r hr] at hv
  simp [rawElem] at hv
  rw [hrun, hv.1]
theorem MapIs.put {w : World} {b n : Nat} {f : Int → Value} (h : MapIs w b n f) (hn : n < maxLen) {r : Int} (hr : (Lit.int .i64 r).wf = true) (v : Value) :
    ∃ w', (Instr.mapUpdate 98 (.map (some b)) (.int .i64 r) v).run Tryd.prog w = .ok () w' ∧ MapIs w' b (n + 1) (upd f r v) ∧ w.grownBy w' (some b) := by
  obtain ⟨D, h, hf⟩ := h
  have him := h.isMap
  obtain ⟨w', hrun, hown, hg⟩ := h.update keyLaw (t := 98) (e := 141) (by kernel_rfl) hn (keyOf_int_mk Tryd.underlying3 hr) (val := v) (d := .held v) (ps := []) rfl
  refine ⟨w', hrun, ⟨_, hown, fun x hx => ?_⟩, hg⟩
  unfold upd
  by_cases e : x = r
  · subst e
    rw [if_pos rfl, atKey_put_same him (by simp [WideAt.IsKeyLit])]
  · rw [if_neg e, atKey_put_other (by simpa using e), hf x hx]

/-- A look-up, at the operation. -/
theorem wpList_look {w : World} {ops : Array Oper} {rest : List Oper} {o : Oper} {a : Act} {Q : Exit → Act → World → Prop}
    (hg : o.guard = none) (m x : Operand) (hop : o.op = Op.lookup 98 m x false) (b n : Nat) (f : Int → Value)
    (hm : a.eval m = .map (some b)) (hown : MapIs w b n f) (r : Int) (hx : a.eval x = .int .i64 r) (hr : (Lit.int .i64 r).wf = true) (v : Value) (hv : f r = v)
    (hK : wpList Tryd.prog ops Q rest (a.put o.dst v) w) :
    wpList Tryd.prog ops Q (o :: rest) a w := by
  refine wpList_plain hg fun K' hK' => ?_
  have hrun := hown.look hr
  subst hv
  unfold Oper.wp
  simp [execOp, hop, hm, hx, hrun, Result.andThen]
  exact hK' _ _ hK
theorem wf_rune {r : Int} (h : 0 ≤ r ∧ r ≤ 1114111) : (Lit.int .i64 r).wf = true := WalkArith.wf_i64 (by omega)
end Go.Proofs.YthaecjhnlpbfnaaDoor
