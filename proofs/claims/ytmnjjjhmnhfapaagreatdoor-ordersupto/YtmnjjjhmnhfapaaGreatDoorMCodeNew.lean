import Derived.Test.YtmnjjjhmnhfapaaGreatDoorMCodeCatch
import Derived.Test.YtmnjjjhmnhfapaaGreatDoorMCodeCheck
import Derived.Test.YtmnjjjhmnhfapaaGreatDoorMCodeVar
import Derived.Test.YtmnjjjhmnhfapaaGreatDoorMCodePrefix
import Derived.Test.YtmnjjjhmnhfapaaGreatDoorMNormPlain
namespace Go.Proofs.YtmnjjjhmnhfapaaGreatDoor
open Go.RowKit

/-- The line and the error of a table. -/
def tableErr (s : List UInt8) : Int × Int := match Tm.readLines [] 1 (Tm.split 10 s) with
  | (_, some (n, e)) => (n, e)
  | (lns, none) => Tm.together lns

theorem readLines_err : ∀ (xs : List (List UInt8)) (lns l : List Tm.Ln) (n m q : Int), Tm.readLines lns n xs = (l, some (m, q)) → q ≠ 0
  | [], lns, l, n, m, q, h => by simp [Tm.readLines] at h
  | x :: r, lns, l, n, m, q, h => by
    rw [Tm.readLines] at h
    split at h
    · exact readLines_err r _ _ _ _ _ h
    · split at h
      · simp at h; omega
      · split at h
        · simp at h; omega
        · split at h
          · simp at h; omega
          · exact readLines_err r _ _ _ _ _ h

/-- What build lays ahead of reading. -/
def startWorld (w : World) (st : Int) (sh : Bool) : World := (((((((w.alloc (.cells #[.int .i64 st, .bool sh] 27)).alloc (.cells #[.pointer (some ⟨w.heap.size + 1 + 1 + 1 + 1 + 1, 0, none⟩)] 23)).alloc (.cells #[.int .i64 0] 3)).alloc (.cells #[.int .i64 0] 30)).alloc (.map #[] 0)).alloc (.cells #[.map (some (w.heap.size + 1 + 1 + 1 + 1)), .int .i64 st, .bool sh] 170)).alloc (.cells #[.map (some (w.heap.size + 1 + 1 + 1 + 1)), .int .i64 0, .slice none 0 0, .slice none 0 0] 202))
def startCol (bm bd : Nat) : Nat → Int := fun g => if g = bm then -2 else if g = bd then -3 else if g < bd then -9 else -1

/-- What is known of it. -/
structure Start (w : World) (st : Int) (sh : Bool) (W : World) : Prop where
  rep : Rep W (startCol (w.heap.size + 1 + 1 + 1 + 1) (w.heap.size + 1 + 1 + 1 + 1 + 1 + 1)) (w.heap.size + 1 + 1 + 1 + 1 + 1 + 1) (w.heap.size + 1 + 1 + 1 + 1 + 1 + 1) (w.heap.size + 1 + 1 + 1 + 1) 0 (.slice none 0 0) (.slice none 0 0) []
  below : Below w.heap.size w W
  k1 : W.cell? ⟨w.heap.size + 1, 0, none⟩ = some (.pointer (some ⟨w.heap.size + 1 + 1 + 1 + 1 + 1, 0, none⟩))
  k2 : W.cell? ⟨w.heap.size + 1 + 1, 0, none⟩ = some (.int .i64 0)
  k3 : W.cell? ⟨w.heap.size + 1 + 1 + 1, 0, none⟩ = some (.int .i64 0)
  f1 : W.frozen? ⟨w.heap.size + 1, 0, none⟩ = false
  f2 : W.frozen? ⟨w.heap.size + 1 + 1, 0, none⟩ = false
  f3 : W.frozen? ⟨w.heap.size + 1 + 1 + 1, 0, none⟩ = false
  m0 : W.cell? ⟨w.heap.size + 1 + 1 + 1 + 1 + 1, 0, none⟩ = some (.map (some (w.heap.size + 1 + 1 + 1 + 1)))
  m1 : W.cell? ⟨w.heap.size + 1 + 1 + 1 + 1 + 1, 1, none⟩ = some (.int .i64 st)
  m2 : W.cell? ⟨w.heap.size + 1 + 1 + 1 + 1 + 1, 2, none⟩ = some (.bool sh)

theorem startWorld_start (w : World) (st : Int) (sh : Bool) : Start w st sh (startWorld w st sh) := by
  unfold startWorld
  refine ⟨⟨⟨?_, by omega, by simp, ?_, ?_, ?_, ?_, fun o => ?_⟩, ⟨?_, Nat.zero_le _, fun _ => zeroNode, ?_, fun r _ => ⟨.slice none 0 0, .slice none 0 0, rfl, ⟨?_, fun g hg => by cases hg⟩, SeqRow.nil _ _ _ _ _ _⟩⟩, ⟨World.ownsRow_nil _ _ _ _, fun g hg => by cases hg⟩, SeqRow.nil _ _ _ _ _ _, (fun o ho => by cases ho), fun g hg => ?_⟩, ?_, ?_, ?_, ?_, ?_, ?_, ?_, ?_, ?_, ?_⟩
  · unfold startCol; rw [if_neg (by omega), if_pos rfl]
  · rw [cell_new (by simp)]; rfl
  · rw [cell_new (by simp)]; rfl
  · rw [cell_new (by simp)]; rfl
  · rw [cell_new (by simp)]; rfl
  · rw [frozen_new (by simp)]
  · unfold startCol; rw [if_pos rfl]
  · have hm := MapIs.made ((((w.alloc (.cells #[.int .i64 st, .bool sh] 27)).alloc (.cells #[.pointer (some ⟨w.heap.size + 1 + 1 + 1 + 1 + 1, 0, none⟩)] 23)).alloc (.cells #[.int .i64 0] 3)).alloc (.cells #[.int .i64 0] 30))
    have e : ((((w.alloc (.cells #[.int .i64 st, .bool sh] 27)).alloc (.cells #[.pointer (some ⟨w.heap.size + 1 + 1 + 1 + 1 + 1, 0, none⟩)] 23)).alloc (.cells #[.int .i64 0] 3)).alloc (.cells #[.int .i64 0] 30)).heap.size = w.heap.size + 1 + 1 + 1 + 1 := by simp
    rw [e] at hm
    refine MapIs.same hm ?_
    rw [Below.heap_alloc _ _ _ (by simp <;> omega), Below.heap_alloc _ _ _ (by simp)]
  · exact ⟨rfl, (fun g hg => by cases hg), none, 0, rfl, ⟨Nat.le_refl _, Nat.zero_le _⟩, by simp [Tm.parts, ints]⟩
  · unfold startCol
    (repeat' split) <;> omega
  · exact (((((((Below.refl _ _).alloc (by simp) _).alloc (by simp <;> omega) _).alloc (by simp <;> omega) _).alloc (by simp <;> omega) _).alloc (by simp <;> omega) _).alloc (by simp <;> omega) _).alloc (by simp <;> omega) _
  · rw [cell_old (by simp <;> omega), cell_old (by simp <;> omega), cell_old (by simp <;> omega), cell_old (by simp <;> omega), cell_old (by simp), cell_new (by simp)]; rfl
  · rw [cell_old (by simp <;> omega), cell_old (by simp <;> omega), cell_old (by simp <;> omega), cell_old (by simp), cell_new (by simp)]; rfl
  · rw [cell_old (by simp <;> omega), cell_old (by simp <;> omega), cell_old (by simp), cell_new (by simp)]; rfl
  · rw [frozen_old (by simp <;> omega), frozen_old (by simp <;> omega), frozen_old (by simp <;> omega), frozen_old (by simp <;> omega), frozen_old (by simp), frozen_new (by simp)]
  · rw [frozen_old (by simp <;> omega), frozen_old (by simp <;> omega), frozen_old (by simp <;> omega), frozen_old (by simp), frozen_new (by simp)]
  · rw [frozen_old (by simp <;> omega), frozen_old (by simp <;> omega), frozen_old (by simp), frozen_new (by simp)]
  · rw [cell_old (by simp), cell_new (by simp)]; rfl
  · rw [cell_old (by simp), cell_new (by simp)]; rfl
  · rw [cell_old (by simp), cell_new (by simp)]; rfl

/-- A collator as it lies: its map of nodes and its options. -/
structure Coll (w : World) (bc bm : Nat) (st : Int) (sh : Bool) (lns : List Tm.Ln) : Prop where
  lt : bc < w.heap.size
  c0 : w.cell? ⟨bc, 0, none⟩ = some (.map (some bm))
  c1 : w.cell? ⟨bc, 1, none⟩ = some (.int .i64 st)
  c2 : w.cell? ⟨bc, 2, none⟩ = some (.bool sh)
  rd : NodesRd w bm lns
  fit : ∀ o ∈ lns, Tm.Fit o
  few : lns.length ≤ 8192
theorem Coll.below {w w' : World} {bc bm : Nat} {st : Int} {sh : Bool} {lns : List Tm.Ln} (h : Coll w bc bm st sh lns) (hb : Below w.heap.size w w') : Coll w' bc bm st sh lns :=
  ⟨Nat.lt_of_lt_of_le h.lt hb.size, by rw [hb.cell (p := ⟨bc, 0, none⟩) h.lt]; exact h.c0, by rw [hb.cell (p := ⟨bc, 1, none⟩) h.lt]; exact h.c1, by rw [hb.cell (p := ⟨bc, 2, none⟩) h.lt]; exact h.c2, h.rd.below hb, h.fit, h.few⟩
/-- A collator that lies whole at the blocks from B on: it stays, whatever is done below B and behind. -/
def CollOwn (w : World) (B bc bm : Nat) (st : Int) (sh : Bool) (lns : List Tm.Ln) : Prop :=
  ∀ w', w.heap.size ≤ w'.heap.size → (∀ g, B ≤ g → g < w.heap.size → w'.heap[g]? = w.heap[g]?) → Coll w' bc bm st sh lns
theorem CollOwn.here {w : World} {B bc bm : Nat} {st : Int} {sh : Bool} {lns : List Tm.Ln} (h : CollOwn w B bc bm st sh lns) : Coll w bc bm st sh lns := h w (Nat.le_refl _) (fun _ _ _ => rfl)
theorem CollOwn.stays {w w' : World} {B B' bc bm : Nat} {st : Int} {sh : Bool} {lns : List Tm.Ln} (h : CollOwn w B bc bm st sh lns) (hB : B' ≤ B) (hs : w.heap.size ≤ w'.heap.size) (hk : ∀ g, B ≤ g → g < w.heap.size → w'.heap[g]? = w.heap[g]?) : CollOwn w' B' bc bm st sh lns :=
  fun w'' hs' hk' => h w'' (Nat.le_trans hs hs') (fun g hg hl => (hk' g (by omega) (by omega)).trans (hk g hg hl))
/-- What build answers beside the line and the error: a collator, just where there is no error. -/
def BuiltAns (B : Nat) (s : ByteArray) (st : Int) (sh : Bool) (c : Option Addr) (w' : World) : Prop :=
  ((tableErr s.data.toList).2 ≠ 0 → c = none) ∧ ((tableErr s.data.toList).2 = 0 → ∃ bc bm lns, c = some ⟨bc, 0, none⟩ ∧ CollOwn w' B bc bm st sh lns ∧ Tm.readLines [] 1 (Tm.split 10 s.data.toList) = (lns, none))
theorem BuiltAns.no {B : Nat} {s : ByteArray} {st : Int} {sh : Bool} {w' : World} (h : (tableErr s.data.toList).2 ≠ 0) : BuiltAns B s st sh none w' := ⟨fun _ => rfl, fun h' => absurd h' h⟩

theorem door_cells {w w1 w'' : World} {n q : Int} {v1 v2 v3 : Value} (k1 : w1.cell? ⟨w.heap.size + 1, 0, none⟩ = some v1) (k2 : w1.cell? ⟨w.heap.size + 1 + 1, 0, none⟩ = some v2) (k3 : w1.cell? ⟨w.heap.size + 1 + 1 + 1, 0, none⟩ = some v3) (hb : Below w.heap.size w w1)
    (hw : w'' = (((w1.setCell ⟨w.heap.size + 1, 0, none⟩ (.pointer none)).setCell ⟨w.heap.size + 1 + 1, 0, none⟩ (.int .i64 n)).setCell ⟨w.heap.size + 1 + 1 + 1, 0, none⟩ (.int .i64 1)).setCell ⟨w.heap.size + 1 + 1 + 1, 0, none⟩ (.int .i64 q)) :
    w''.cell? ⟨w.heap.size + 1, 0, none⟩ = some (.pointer none) ∧ w''.cell? ⟨w.heap.size + 1 + 1, 0, none⟩ = some (.int .i64 n) ∧ w''.cell? ⟨w.heap.size + 1 + 1 + 1, 0, none⟩ = some (.int .i64 q) ∧ Below w.heap.size w w'' := by
  subst hw
  have e3 : ((w1.setCell ⟨w.heap.size + 1, 0, none⟩ (.pointer none)).setCell ⟨w.heap.size + 1 + 1, 0, none⟩ (.int .i64 n)).cell? ⟨w.heap.size + 1 + 1 + 1, 0, none⟩ = some v3 := by
    rw [World.cell?_setCell_other _ _ _ _ (by simp <;> omega), World.cell?_setCell_other _ _ _ _ (by simp <;> omega)]; exact k3
  refine ⟨?_, ?_, ?_, ?_⟩
  · rw [World.cell?_setCell_other _ _ _ _ (by simp <;> omega), World.cell?_setCell_other _ _ _ _ (by simp <;> omega), World.cell?_setCell_other _ _ _ _ (by simp <;> omega)]
    exact World.cell?_setCell_same _ _ _ k1
  · rw [World.cell?_setCell_other _ _ _ _ (by simp <;> omega), World.cell?_setCell_other _ _ _ _ (by simp <;> omega)]
    exact World.cell?_setCell_same _ _ _ ((World.cell?_setCell_other _ _ _ _ (by simp <;> omega)).trans k2)
  · exact World.cell?_setCell_same _ _ _ (World.cell?_setCell_same _ _ _ e3)
  · exact (((hb.setCell (p := ⟨w.heap.size + 1, 0, none⟩) (by simp only; omega) _).setCell (p := ⟨w.heap.size + 1 + 1, 0, none⟩) (by simp only; omega) _).setCell (p := ⟨w.heap.size + 1 + 1 + 1, 0, none⟩) (by simp only; omega) _).setCell (p := ⟨w.heap.size + 1 + 1 + 1, 0, none⟩) (by simp only; omega) _

theorem door_idle {w w1 w'' : World} {v1 v2 v3 x1 x2 x3 : Value} (k1 : w1.cell? ⟨w.heap.size + 1, 0, none⟩ = some v1) (k2 : w1.cell? ⟨w.heap.size + 1 + 1, 0, none⟩ = some v2) (k3 : w1.cell? ⟨w.heap.size + 1 + 1 + 1, 0, none⟩ = some v3) (hb : Below w.heap.size w w1)
    (hw : w'' = ((w1.setCell ⟨w.heap.size + 1, 0, none⟩ x1).setCell ⟨w.heap.size + 1 + 1, 0, none⟩ x2).setCell ⟨w.heap.size + 1 + 1 + 1, 0, none⟩ x3) :
    w''.cell? ⟨w.heap.size + 1, 0, none⟩ = some x1 ∧ w''.cell? ⟨w.heap.size + 1 + 1, 0, none⟩ = some x2 ∧ w''.cell? ⟨w.heap.size + 1 + 1 + 1, 0, none⟩ = some x3 ∧ Below w.heap.size w w'' := by
  subst hw
  refine ⟨?_, ?_, ?_, ?_⟩
  · rw [World.cell?_setCell_other _ _ _ _ (by simp <;> omega), World.cell?_setCell_other _ _ _ _ (by simp <;> omega)]
    exact World.cell?_setCell_same _ _ _ k1
  · rw [World.cell?_setCell_other _ _ _ _ (by simp <;> omega)]
    exact World.cell?_setCell_same _ _ _ ((World.cell?_setCell_other _ _ _ _ (by simp <;> omega)).trans k2)
  · exact World.cell?_setCell_same _ _ _ ((World.cell?_setCell_other _ _ _ _ (by simp <;> omega)).trans ((World.cell?_setCell_other _ _ _ _ (by simp <;> omega)).trans k3))
  · exact ((hb.setCell (p := ⟨w.heap.size + 1, 0, none⟩) (by simp only; omega) _).setCell (p := ⟨w.heap.size + 1 + 1, 0, none⟩) (by simp only; omega) _).setCell (p := ⟨w.heap.size + 1 + 1 + 1, 0, none⟩) (by simp only; omega) _

set_option maxRecDepth 100000 in
set_option maxHeartbeats 4000000 in
theorem build_any (s : ByteArray) (st : Int) (sh : Bool) (w : World) (hs : s.size ≤ 8192) :
    Calls Tryz.prog 77 #[.string s, .agg #[.int .i64 st, .bool sh]] w fun e w' => ∃ c, e = .returned (.tuple #[.pointer c, .int .i64 (tableErr s.data.toList).1, .int .i64 (tableErr s.data.toList).2]) ∧ BuiltAns w.heap.size s st sh c w' ∧ Below w.heap.size w w' := by
  have hmf : ∀ (fn : Fn) (first cap : Array Value) (w : World), (Instr.makeFunc fn first cap).run Tryz.prog w = .ok (.func fn first cap) w := fun _ _ _ _ => rfl
  have hmm := @run_makeMap Tryz.prog
  have HST := hide (startWorld_start w st sh)
  unfold startWorld at HST
  go_enter_defers Tryz.func77, Tryz.ntmps77
  go_wp2_with fail
  generalize (((((((w.alloc (.cells #[.int .i64 st, .bool sh] 27)).alloc (.cells #[.pointer (some ⟨w.heap.size + 1 + 1 + 1 + 1 + 1, 0, none⟩)] 23)).alloc (.cells #[.int .i64 0] 3)).alloc (.cells #[.int .i64 0] 30)).alloc (.map #[] 0)).alloc (.cells #[.map (some (w.heap.size + 1 + 1 + 1 + 1)), .int .i64 st, .bool sh] 170)).alloc (.cells #[.map (some (w.heap.size + 1 + 1 + 1 + 1)), .int .i64 0, .slice none 0 0, .slice none 0 0] 202)) = W at *
  have HTE : Hid (tableErr s.data.toList = match Tm.readLines [] 1 (Tm.split 10 s.data.toList) with
    | (_, some (n, e)) => (n, e)
    | (lns, none) => Tm.together lns) := rfl
  refine (readLines_any s _ _ _ _ _ _ _ hs HST.out.rep).mono ?_
  rintro e w1 hans
  rcases hrl : Tm.readLines [] 1 (Tm.split 10 s.data.toList) with ⟨lns, _ | ⟨n, q⟩⟩
  · rw [hrl] at hans HTE
    obtain ⟨rfl, hb1, hn, col1, line1, vp1, vw1, hrep1⟩ := hans
    have HTE0 : Hid (tableErr s.data.toList = Tm.together lns) := HTE.out
    have HB1 := hide hb1
    have HR1 := hide hrep1
    have HRL := hide hrl
    clear hb1 hrep1 hrl HTE
    go_wp2_with fail
    refine (checkParts_any lns _ _ _ _ _ _ _ _ HR1.out hn).mono ?_
    rintro e w2 hans
    cases hf1 : lns.find? (Tm.badLoop lns) with
    | some o =>
      rw [hf1] at hans
      obtain ⟨ht, hb2, hc2⟩ := hans
      obtain rfl : e = _ := ht
      have HTE' : Hid (tableErr s.data.toList = (o.num, 3)) := by unfold Hid; rw [HTE0.out, Tm.together, hf1]
      have HB2 : Hid (Sole (w.heap.size + 1 + 1 + 1 + 1 + 1 + 1) (w.heap.size + 1 + 1 + 1 + 1) W w2) := HB1.out.trans hb2
      have HC := hide hc2
      clear hb2 hc2 hf1
      go_wp2
      refine leaves_cons (f := 119) (args := #[.pointer (some ⟨w.heap.size + 1 + 1 + 1 + 1 + 1 + 1, 0, none⟩), .pointer (some ⟨w.heap.size + 1, 0, none⟩), .pointer (some ⟨w.heap.size + 1 + 1, 0, none⟩), .pointer (some ⟨w.heap.size + 1 + 1 + 1, 0, none⟩)]) (by simp) (by simp [go_sem]) ?_
      refine (catch_panicking (w.heap.size + 1 + 1 + 1 + 1 + 1 + 1) (w.heap.size + 1) (w.heap.size + 1 + 1) (w.heap.size + 1 + 1 + 1) _ _ _ 3 o.num w2 (by omega) (by omega) (by omega) (by omega) (by rw [HB2.out.cell (p := ⟨w.heap.size + 1, 0, none⟩) (by simp only; omega) (by simp only; omega)]; exact HST.out.k1) (by rw [HB2.out.cell (p := ⟨w.heap.size + 1 + 1, 0, none⟩) (by simp only; omega) (by simp only; omega)]; exact HST.out.k2) (by rw [HB2.out.cell (p := ⟨w.heap.size + 1 + 1 + 1, 0, none⟩) (by simp only; omega) (by simp only; omega)]; exact HST.out.k3) (by rw [HB2.out.frozen (p := ⟨w.heap.size + 1, 0, none⟩) (by simp only; omega) (by simp only; omega)]; exact HST.out.f1) (by rw [HB2.out.frozen (p := ⟨w.heap.size + 1 + 1, 0, none⟩) (by simp only; omega) (by simp only; omega)]; exact HST.out.f2) (by rw [HB2.out.frozen (p := ⟨w.heap.size + 1 + 1 + 1, 0, none⟩) (by simp only; omega) (by simp only; omega)]; exact HST.out.f3) HC.out).mono ?_
      rintro x u' w'' ⟨rfl, rfl, hw⟩
      have HZ := hide (door_cells (w := w) (w1 := w2) (n := o.num) (q := 3) (by rw [HB2.out.cell (p := ⟨w.heap.size + 1, 0, none⟩) (by simp only; omega) (by simp only; omega)]; exact HST.out.k1) (by rw [HB2.out.cell (p := ⟨w.heap.size + 1 + 1, 0, none⟩) (by simp only; omega) (by simp only; omega)]; exact HST.out.k2) (by rw [HB2.out.cell (p := ⟨w.heap.size + 1 + 1 + 1, 0, none⟩) (by simp only; omega) (by simp only; omega)]; exact HST.out.k3) (HST.out.below.trans (HB2.out.below (by omega) (by omega))) hw)
      have z1 := HZ.out.1
      have z2 := HZ.out.2.1
      have z3 := HZ.out.2.2.1
      have HQ2 := hide HZ.out.2.2.2
      clear hw
      simp [Leaves, settle, results, Tryz.results77, go_sem, z1, z2, z3]
      exact ⟨none, ⟨rfl, by rw [HTE'.out], by rw [HTE'.out]⟩, BuiltAns.no (by rw [HTE'.out]; simp), HQ2.out⟩
    | none =>
    rw [hf1] at hans
    obtain ⟨rfl, hb2, col2, line2, vp2, vw2, hrep2⟩ := hans
    have HF1 := hide hf1
    have HB2 : Hid (Sole (w.heap.size + 1 + 1 + 1 + 1 + 1 + 1) (w.heap.size + 1 + 1 + 1 + 1) W w2) := HB1.out.trans hb2
    have HR2 := hide hrep2
    clear hb2 hrep2 hf1
    go_wp2_with fail
    refine (checkPrefixes_any lns _ _ _ _ _ _ _ _ HR2.out hn).mono ?_
    rintro e w3 hans
    cases hf2 : lns.find? (Tm.badPrefix lns) with
    | some o =>
      rw [hf2] at hans
      obtain ⟨ht, hb3, hc3⟩ := hans
      obtain rfl : e = _ := ht
      have HTE' : Hid (tableErr s.data.toList = (o.num, 5)) := by unfold Hid; rw [HTE0.out, Tm.together, HF1.out]; simp only; rw [hf2]
      have HB3 : Hid (Sole (w.heap.size + 1 + 1 + 1 + 1 + 1 + 1) (w.heap.size + 1 + 1 + 1 + 1) W w3) := HB2.out.trans hb3
      have HC := hide hc3
      clear hb3 hc3 hf2
      go_wp2
      refine leaves_cons (f := 119) (args := #[.pointer (some ⟨w.heap.size + 1 + 1 + 1 + 1 + 1 + 1, 0, none⟩), .pointer (some ⟨w.heap.size + 1, 0, none⟩), .pointer (some ⟨w.heap.size + 1 + 1, 0, none⟩), .pointer (some ⟨w.heap.size + 1 + 1 + 1, 0, none⟩)]) (by simp) (by simp [go_sem]) ?_
      refine (catch_panicking (w.heap.size + 1 + 1 + 1 + 1 + 1 + 1) (w.heap.size + 1) (w.heap.size + 1 + 1) (w.heap.size + 1 + 1 + 1) _ _ _ 5 o.num w3 (by omega) (by omega) (by omega) (by omega) (by rw [HB3.out.cell (p := ⟨w.heap.size + 1, 0, none⟩) (by simp only; omega) (by simp only; omega)]; exact HST.out.k1) (by rw [HB3.out.cell (p := ⟨w.heap.size + 1 + 1, 0, none⟩) (by simp only; omega) (by simp only; omega)]; exact HST.out.k2) (by rw [HB3.out.cell (p := ⟨w.heap.size + 1 + 1 + 1, 0, none⟩) (by simp only; omega) (by simp only; omega)]; exact HST.out.k3) (by rw [HB3.out.frozen (p := ⟨w.heap.size + 1, 0, none⟩) (by simp only; omega) (by simp only; omega)]; exact HST.out.f1) (by rw [HB3.out.frozen (p := ⟨w.heap.size + 1 + 1, 0, none⟩) (by simp only; omega) (by simp only; omega)]; exact HST.out.f2) (by rw [HB3.out.frozen (p := ⟨w.heap.size + 1 + 1 + 1, 0, none⟩) (by simp only; omega) (by simp only; omega)]; exact HST.out.f3) HC.out).mono ?_
      rintro x u' w'' ⟨rfl, rfl, hw⟩
      have HZ := hide (door_cells (w := w) (w1 := w3) (n := o.num) (q := 5) (by rw [HB3.out.cell (p := ⟨w.heap.size + 1, 0, none⟩) (by simp only; omega) (by simp only; omega)]; exact HST.out.k1) (by rw [HB3.out.cell (p := ⟨w.heap.size + 1 + 1, 0, none⟩) (by simp only; omega) (by simp only; omega)]; exact HST.out.k2) (by rw [HB3.out.cell (p := ⟨w.heap.size + 1 + 1 + 1, 0, none⟩) (by simp only; omega) (by simp only; omega)]; exact HST.out.k3) (HST.out.below.trans (HB3.out.below (by omega) (by omega))) hw)
      have z1 := HZ.out.1
      have z2 := HZ.out.2.1
      have z3 := HZ.out.2.2.1
      have HQ2 := hide HZ.out.2.2.2
      clear hw
      simp [Leaves, settle, results, Tryz.results77, go_sem, z1, z2, z3]
      exact ⟨none, ⟨rfl, by rw [HTE'.out], by rw [HTE'.out]⟩, BuiltAns.no (by rw [HTE'.out]; simp), HQ2.out⟩
    | none =>
    rw [hf2] at hans
    obtain ⟨rfl, hb3, col3, line3, vp3, vw3, hrep3⟩ := hans
    have HF2 := hide hf2
    have HB3 : Hid (Sole (w.heap.size + 1 + 1 + 1 + 1 + 1 + 1) (w.heap.size + 1 + 1 + 1 + 1) W w3) := HB2.out.trans hb3
    have HR3 := hide hrep3
    clear hb3 hrep3 hf2
    go_wp2_with fail
    refine (checkVariables_any lns _ _ _ _ _ _ _ _ HR3.out hn).mono ?_
    rintro e w4 hans
    cases hf3 : lns.find? (Tm.badWeight lns) with
    | some o =>
      rw [hf3] at hans
      obtain ⟨ht, hb4, hc4⟩ := hans
      obtain rfl : e = _ := ht
      have HTE' : Hid (tableErr s.data.toList = (o.num, 4)) := by unfold Hid; rw [HTE0.out, Tm.together, HF1.out]; simp only; rw [HF2.out]; simp only; rw [hf3]
      have HB4 : Hid (Sole (w.heap.size + 1 + 1 + 1 + 1 + 1 + 1) (w.heap.size + 1 + 1 + 1 + 1) W w4) := HB3.out.trans hb4
      have HC := hide hc4
      clear hb4 hc4 hf3
      go_wp2
      refine leaves_cons (f := 119) (args := #[.pointer (some ⟨w.heap.size + 1 + 1 + 1 + 1 + 1 + 1, 0, none⟩), .pointer (some ⟨w.heap.size + 1, 0, none⟩), .pointer (some ⟨w.heap.size + 1 + 1, 0, none⟩), .pointer (some ⟨w.heap.size + 1 + 1 + 1, 0, none⟩)]) (by simp) (by simp [go_sem]) ?_
      refine (catch_panicking (w.heap.size + 1 + 1 + 1 + 1 + 1 + 1) (w.heap.size + 1) (w.heap.size + 1 + 1) (w.heap.size + 1 + 1 + 1) _ _ _ 4 o.num w4 (by omega) (by omega) (by omega) (by omega) (by rw [HB4.out.cell (p := ⟨w.heap.size + 1, 0, none⟩) (by simp only; omega) (by simp only; omega)]; exact HST.out.k1) (by rw [HB4.out.cell (p := ⟨w.heap.size + 1 + 1, 0, none⟩) (by simp only; omega) (by simp only; omega)]; exact HST.out.k2) (by rw [HB4.out.cell (p := ⟨w.heap.size + 1 + 1 + 1, 0, none⟩) (by simp only; omega) (by simp only; omega)]; exact HST.out.k3) (by rw [HB4.out.frozen (p := ⟨w.heap.size + 1, 0, none⟩) (by simp only; omega) (by simp only; omega)]; exact HST.out.f1) (by rw [HB4.out.frozen (p := ⟨w.heap.size + 1 + 1, 0, none⟩) (by simp only; omega) (by simp only; omega)]; exact HST.out.f2) (by rw [HB4.out.frozen (p := ⟨w.heap.size + 1 + 1 + 1, 0, none⟩) (by simp only; omega) (by simp only; omega)]; exact HST.out.f3) HC.out).mono ?_
      rintro x u' w'' ⟨rfl, rfl, hw⟩
      have HZ := hide (door_cells (w := w) (w1 := w4) (n := o.num) (q := 4) (by rw [HB4.out.cell (p := ⟨w.heap.size + 1, 0, none⟩) (by simp only; omega) (by simp only; omega)]; exact HST.out.k1) (by rw [HB4.out.cell (p := ⟨w.heap.size + 1 + 1, 0, none⟩) (by simp only; omega) (by simp only; omega)]; exact HST.out.k2) (by rw [HB4.out.cell (p := ⟨w.heap.size + 1 + 1 + 1, 0, none⟩) (by simp only; omega) (by simp only; omega)]; exact HST.out.k3) (HST.out.below.trans (HB4.out.below (by omega) (by omega))) hw)
      have z1 := HZ.out.1
      have z2 := HZ.out.2.1
      have z3 := HZ.out.2.2.1
      have HQ2 := hide HZ.out.2.2.2
      clear hw
      simp [Leaves, settle, results, Tryz.results77, go_sem, z1, z2, z3]
      exact ⟨none, ⟨rfl, by rw [HTE'.out], by rw [HTE'.out]⟩, BuiltAns.no (by rw [HTE'.out]; simp), HQ2.out⟩
    | none =>
    rw [hf3] at hans
    obtain ⟨rfl, hb4, col4, line4, vp4, vw4, hrep4⟩ := hans
    have HTE' : Hid (tableErr s.data.toList = (0, 0)) := by unfold Hid; rw [HTE0.out, Tm.together, HF1.out]; simp only; rw [HF2.out]; simp only; rw [hf3]
    have HB4 : Hid (Sole (w.heap.size + 1 + 1 + 1 + 1 + 1 + 1) (w.heap.size + 1 + 1 + 1 + 1) W w4) := HB3.out.trans hb4
    have HR4 := hide hrep4
    clear hb4 hrep4 hf3
    have y1 : w4.cell? ⟨w.heap.size + 1, 0, none⟩ = some (.pointer (some ⟨w.heap.size + 1 + 1 + 1 + 1 + 1, 0, none⟩)) := (by rw [HB4.out.cell (p := ⟨w.heap.size + 1, 0, none⟩) (by simp only; omega) (by simp only; omega)]; exact HST.out.k1)
    have y2 : w4.cell? ⟨w.heap.size + 1 + 1, 0, none⟩ = some (.int .i64 0) := (by rw [HB4.out.cell (p := ⟨w.heap.size + 1 + 1, 0, none⟩) (by simp only; omega) (by simp only; omega)]; exact HST.out.k2)
    have y3 : w4.cell? ⟨w.heap.size + 1 + 1 + 1, 0, none⟩ = some (.int .i64 0) := (by rw [HB4.out.cell (p := ⟨w.heap.size + 1 + 1 + 1, 0, none⟩) (by simp only; omega) (by simp only; omega)]; exact HST.out.k3)
    have g1 : w4.frozen? ⟨w.heap.size + 1, 0, none⟩ = false := (by rw [HB4.out.frozen (p := ⟨w.heap.size + 1, 0, none⟩) (by simp only; omega) (by simp only; omega)]; exact HST.out.f1)
    have g2 : w4.frozen? ⟨w.heap.size + 1 + 1, 0, none⟩ = false := (by rw [HB4.out.frozen (p := ⟨w.heap.size + 1 + 1, 0, none⟩) (by simp only; omega) (by simp only; omega)]; exact HST.out.f2)
    have g3 : w4.frozen? ⟨w.heap.size + 1 + 1 + 1, 0, none⟩ = false := (by rw [HB4.out.frozen (p := ⟨w.heap.size + 1 + 1 + 1, 0, none⟩) (by simp only; omega) (by simp only; omega)]; exact HST.out.f3)
    go_wp2
    refine leaves_cons (f := 119) (args := #[.pointer (some ⟨w.heap.size + 1 + 1 + 1 + 1 + 1 + 1, 0, none⟩), .pointer (some ⟨w.heap.size + 1, 0, none⟩), .pointer (some ⟨w.heap.size + 1 + 1, 0, none⟩), .pointer (some ⟨w.heap.size + 1 + 1 + 1, 0, none⟩)]) (by simp) (by simp [go_sem]) ?_
    refine (catch_idle _ _ _ _ _).mono ?_
    rintro x u' w'' ⟨rfl, rfl, hw⟩
    have HZ := hide (door_idle (w := w) y1 y2 y3 (HST.out.below.trans (HB4.out.below (by omega) (by omega))) hw)
    have HCOLL : Hid (CollOwn w'' w.heap.size (w.heap.size + 1 + 1 + 1 + 1 + 1) (w.heap.size + 1 + 1 + 1 + 1) st sh lns) := by
      intro w3 hs3 hk3
      have e5 : ∀ o v, W.cell? ⟨w.heap.size + 1 + 1 + 1 + 1 + 1, o, none⟩ = some v → w''.cell? ⟨w.heap.size + 1 + 1 + 1 + 1 + 1, o, none⟩ = some v := fun o v hv => by
        rw [hw, World.cell?_setCell_other _ _ _ _ (by simp <;> omega), World.cell?_setCell_other _ _ _ _ (by simp <;> omega), World.cell?_setCell_other _ _ _ _ (by simp <;> omega), HB4.out.cell (p := ⟨w.heap.size + 1 + 1 + 1 + 1 + 1, o, none⟩) (by simp only; omega) (by simp only; omega)]; exact hv
      have hz : w''.heap.size = w4.heap.size := by rw [hw]; simp [World.setCell]
      have hk : ∀ g, w.heap.size + 1 + 1 + 1 + 1 ≤ g → w''.heap[g]? = w4.heap[g]? := fun g hg => by
        rw [hw, Below.heap_setCell _ _ _ _ (by simp only; omega), Below.heap_setCell _ _ _ _ (by simp only; omega), Below.heap_setCell _ _ _ _ (by simp only; omega)]
      have hlt := HR4.out.dr.lt
      have e6 : ∀ o v, W.cell? ⟨w.heap.size + 1 + 1 + 1 + 1 + 1, o, none⟩ = some v → w3.cell? ⟨w.heap.size + 1 + 1 + 1 + 1 + 1, o, none⟩ = some v := fun o v hv => by
        rw [World.cell?_of_block (a := ⟨w.heap.size + 1 + 1 + 1 + 1 + 1, o, none⟩) (hk3 (w.heap.size + 1 + 1 + 1 + 1 + 1) (by omega) (by omega))]; exact e5 o v hv
      exact ⟨by omega, e6 _ _ HST.out.m0, e6 _ _ HST.out.m1, e6 _ _ HST.out.m2, HR4.out.nd.rd_kept HR4.out.low (by omega) (fun g hg hl => (hk3 g (by omega) (by omega)).trans (hk g (by omega))) ((hk3 _ (by omega) (by omega)).trans (hk _ (Nat.le_refl _))), HR4.out.fit, hn⟩
    have z1 := HZ.out.1
    have z2 := HZ.out.2.1
    have z3 := HZ.out.2.2.1
    have HQ2 := hide HZ.out.2.2.2
    clear hw
    simp [Leaves, settle, results, Tryz.results77, go_sem, z1, z2, z3]
    exact ⟨_, ⟨rfl, by rw [HTE'.out], by rw [HTE'.out]⟩, ⟨fun h => absurd (by rw [HTE'.out]) h, fun _ => ⟨w.heap.size + 1 + 1 + 1 + 1 + 1, w.heap.size + 1 + 1 + 1 + 1, lns, rfl, HCOLL.out, HRL.out⟩⟩, HQ2.out⟩
  · rw [hrl] at hans HTE
    obtain ⟨ht, hb1, hc1⟩ := hans
    obtain rfl : e = _ := ht
    have HTE' : Hid (tableErr s.data.toList = (n, q)) := HTE.out
    have HB1 := hide hb1
    have HC := hide hc1
    have HQ : Hid (q ≠ 0) := readLines_err _ _ _ _ _ _ hrl
    clear hb1 hc1 hrl
    go_wp2
    refine leaves_cons (f := 119) (args := #[.pointer (some ⟨w.heap.size + 1 + 1 + 1 + 1 + 1 + 1, 0, none⟩), .pointer (some ⟨w.heap.size + 1, 0, none⟩), .pointer (some ⟨w.heap.size + 1 + 1, 0, none⟩), .pointer (some ⟨w.heap.size + 1 + 1 + 1, 0, none⟩)]) (by simp) (by simp [go_sem]) ?_
    refine (catch_panicking (w.heap.size + 1 + 1 + 1 + 1 + 1 + 1) (w.heap.size + 1) (w.heap.size + 1 + 1) (w.heap.size + 1 + 1 + 1) _ _ _ q n w1 (by omega) (by omega) (by omega) (by omega) (by rw [HB1.out.cell (p := ⟨w.heap.size + 1, 0, none⟩) (by simp only; omega) (by simp only; omega)]; exact HST.out.k1) (by rw [HB1.out.cell (p := ⟨w.heap.size + 1 + 1, 0, none⟩) (by simp only; omega) (by simp only; omega)]; exact HST.out.k2) (by rw [HB1.out.cell (p := ⟨w.heap.size + 1 + 1 + 1, 0, none⟩) (by simp only; omega) (by simp only; omega)]; exact HST.out.k3) (by rw [HB1.out.frozen (p := ⟨w.heap.size + 1, 0, none⟩) (by simp only; omega) (by simp only; omega)]; exact HST.out.f1) (by rw [HB1.out.frozen (p := ⟨w.heap.size + 1 + 1, 0, none⟩) (by simp only; omega) (by simp only; omega)]; exact HST.out.f2) (by rw [HB1.out.frozen (p := ⟨w.heap.size + 1 + 1 + 1, 0, none⟩) (by simp only; omega) (by simp only; omega)]; exact HST.out.f3) HC.out).mono ?_
    rintro x u' w'' ⟨rfl, rfl, hw⟩
    have HZ := hide (door_cells (w := w) (w1 := w1) (n := n) (q := q) (by rw [HB1.out.cell (p := ⟨w.heap.size + 1, 0, none⟩) (by simp only; omega) (by simp only; omega)]; exact HST.out.k1) (by rw [HB1.out.cell (p := ⟨w.heap.size + 1 + 1, 0, none⟩) (by simp only; omega) (by simp only; omega)]; exact HST.out.k2) (by rw [HB1.out.cell (p := ⟨w.heap.size + 1 + 1 + 1, 0, none⟩) (by simp only; omega) (by simp only; omega)]; exact HST.out.k3) (HST.out.below.trans (HB1.out.below (by omega) (by omega))) hw)
    have z1 := HZ.out.1
    have z2 := HZ.out.2.1
    have z3 := HZ.out.2.2.1
    have HQ2 := hide HZ.out.2.2.2
    clear hw
    simp [Leaves, settle, results, Tryz.results77, go_sem, z1, z2, z3]
    exact ⟨none, ⟨rfl, by rw [HTE'.out], by rw [HTE'.out]⟩, BuiltAns.no (by rw [HTE'.out]; exact HQ.out), HQ2.out⟩
end Go.Proofs.YtmnjjjhmnhfapaaGreatDoor
namespace Go.Proofs.YtmnjjjhmnhfapaaGreatDoor

theorem newTable_ends {s : List UInt8} {st : Int} {lns : List Tm.Ln} (h : Tm.newTable s st = (lns, 0, 0)) (r : Int) : Tm.ends lns 4 r = true := by
  refine Tm.ends_all ?_ r
  unfold Tm.newTable at h
  split at h
  · simp at h
  · split at h
    · simp at h
    · split at h
      · rename_i n e heq
        simp at h
        exact absurd h.2.2 (readLines_err _ _ _ _ _ _ heq)
      · rename_i heq
        injection h with h1 h2
        subst h1
        exact congrArg Prod.snd h2
end Go.Proofs.YtmnjjjhmnhfapaaGreatDoor
namespace Go.Proofs.YtmnjjjhmnhfapaaGreatDoor
open Go.RowKit

theorem newTable_err {s : List UInt8} {st : Int} (h1 : ¬ (st < 1 ∨ 4 < st)) (h2 : ¬ 8192 < s.length) : (Tm.newTable s st).2 = tableErr s := by
  unfold Tm.newTable tableErr
  rw [if_neg h1, if_neg h2]
  split <;> rename_i h <;> rw [h]

theorem together_zero {lns : List Tm.Ln} (h : (Tm.together lns).2 = 0) : (Tm.together lns).1 = 0 := by
  unfold Tm.together at h ⊢
  split <;> rename_i h1 <;> rw [h1] at h <;> simp only at h ⊢
  · exact absurd h (by decide)
  · split <;> rename_i h2 <;> rw [h2] at h <;> simp only at h ⊢
    · exact absurd h (by decide)
    · split <;> rename_i h3 <;> rw [h3] at h <;> simp only at h ⊢
      exact absurd h (by decide)
/-- What is said of a collator of the program's: where it is one, it lies whole from B on, and holds what the table says. -/
def CollSaid (s : ByteArray) (st : Int) (sh : Bool) (B : Nat) (c : Option Addr) (w : World) : Prop :=
  ∀ a, c = some a → ∃ bc bm lns, a = ⟨bc, 0, none⟩ ∧ CollOwn w B bc bm st sh lns ∧ Tm.newTable s.data.toList st = (lns, 0, 0)
theorem CollSaid.none {s : ByteArray} {st : Int} {sh : Bool} {B : Nat} {w : World} : CollSaid s st sh B none w := fun a h => by cases h
theorem collSaid_stays : Stays CollSaid := fun s st sh B B' c w w' h hB hs hk a ha => by
  obtain ⟨bc, bm, lns, h1, h2, h3⟩ := h a ha
  exact ⟨bc, bm, lns, h1, h2.stays hB hs hk, h3⟩
theorem newTable_read {s : List UInt8} {st : Int} {lns : List Tm.Ln} (h1 : ¬ (st < 1 ∨ 4 < st)) (h2 : ¬ 8192 < s.length) (h : Tm.readLines [] 1 (Tm.split 10 s) = (lns, none)) (h0 : (tableErr s).2 = 0) : Tm.newTable s st = (lns, 0, 0) := by
  have e : (tableErr s).1 = 0 := by
    unfold tableErr at h0 ⊢
    rw [h] at h0 ⊢
    simp only at h0 ⊢
    exact together_zero h0
  unfold Tm.newTable
  unfold tableErr at e h0
  rw [if_neg h1, if_neg h2]
  rw [h] at e h0 ⊢
  simp only at e h0 ⊢
  rw [e, h0]
theorem BuiltAns.said {B : Nat} {s : ByteArray} {st : Int} {sh : Bool} {c : Option Addr} {w' : World} (h : BuiltAns B s st sh c w') (h1 : ¬ (st < 1 ∨ 4 < st)) (h2 : ¬ 8192 < s.data.toList.length) : CollSaid s st sh B c w' := by
  intro a ha
  by_cases h0 : (tableErr s.data.toList).2 = 0
  · obtain ⟨bc, bm, lns, hc, hown, hr⟩ := h.2 h0
    rw [hc] at ha
    injection ha with ha
    exact ⟨bc, bm, lns, ha.symm, hown, newTable_read h1 h2 hr h0⟩
  · rw [h.1 h0] at ha; cases ha

set_option maxRecDepth 100000 in
set_option maxHeartbeats 1000000 in
theorem new_said : NewSaid CollSaid := by
  refine ⟨collSaid_stays, ?_⟩
  intro s st sh w hs
  have hb0 : Below w.heap.size w (w.alloc (.cells #[.int .i64 st, .bool sh] 27)) := (Below.refl _ _).alloc (Nat.le_refl _) _
  have HB0 := hide hb0
  clear hb0
  by_cases h1 : st < 1 ∨ 4 < st
  · have HT := hide (Tm.newTable_option (t := s.data.toList) h1)
    by_cases h0 : st < 1
    · have hd : decide (st < 1) = true := by simpa using h0
      clear h1
      go_enter Tryz.func34, Tryz.ntmps34
      go_wp2
      go_ret3
      refine ⟨none, ?_, ?_, CollSaid.none, HB0.out⟩
      · rw [HT.out]; rfl
      · rw [HT.out]; simp
    · have hd : decide (st < 1) = false := by simpa using h0
      have hd' : decide (4 < st) = true := by simp; omega
      clear h1
      go_enter Tryz.func34, Tryz.ntmps34
      go_wp2
      go_ret3
      refine ⟨none, ?_, ?_, CollSaid.none, HB0.out⟩
      · rw [HT.out]; rfl
      · rw [HT.out]; simp
  · have hd : decide (st < 1) = false := by simp; omega
    have hd' : decide (4 < st) = false := by simp; omega
    by_cases h2 : 8192 < s.data.toList.length
    · have HT := hide (Tm.newTable_long (t := s.data.toList) h1 h2)
      have hl : decide (8192 < (s.size : Int)) = true := by rw [len_bytes] at h2; simp; omega
      clear h1 h2
      go_enter Tryz.func34, Tryz.ntmps34
      go_wp2
      go_ret3
      refine ⟨none, ?_, ?_, CollSaid.none, HB0.out⟩
      · rw [HT.out]; rfl
      · rw [HT.out]; simp
    · have HT := hide (newTable_err h1 h2)
      have HBA : Hid (∀ {B : Nat} {c : Option Addr} {w' : World}, BuiltAns B s st sh c w' → CollSaid s st sh B c w') := fun h => h.said h1 h2
      have hl : decide (8192 < (s.size : Int)) = false := by rw [len_bytes] at h2; simp; omega
      have hsz : s.size ≤ 8192 := by rw [len_bytes] at h2; omega
      clear h1 h2
      go_enter Tryz.func34, Tryz.ntmps34
      go_wp2_with fail
      refine (build_any s st sh _ hsz).mono ?_
      rintro e w1 ⟨c, rfl, hans, hb1⟩
      have hc : c = none ↔ (tableErr s.data.toList).2 ≠ 0 := by
        constructor
        · intro h h0
          obtain ⟨bc, bm, lns, hx, _⟩ := hans.2 h0
          rw [hx] at h; cases h
        · exact hans.1
      have HC := hide hc
      have HS : Hid (CollSaid s st sh w.heap.size c w1) := collSaid_stays _ _ _ _ _ _ _ _ (HBA.out hans) (by simp) (Nat.le_refl _) (fun _ _ _ => rfl)
      have HB1 : Hid (Below w.heap.size w w1) := HB0.out.trans (hb1.mono (by simp))
      clear hc hb1 hans
      generalize tableErr s.data.toList = p at *
      obtain ⟨n, q⟩ := p
      simp only at HC
      go_wp2
      go_ret3
      refine ⟨c, ?_, ?_, HS.out, HB1.out⟩
      · rw [HT.out]; rfl
      · rw [HT.out]; exact HC.out
end Go.Proofs.YtmnjjjhmnhfapaaGreatDoor
