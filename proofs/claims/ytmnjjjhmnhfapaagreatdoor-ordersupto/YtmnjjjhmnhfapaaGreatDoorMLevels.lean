import Derived.Test.YtmnjjjhmnhfapaaGreatDoorMLawEKeepW
import Derived.Test.YtmnjjjhmnhfapaaGreatDoorMCodeCatch
import Derived.Test.YtmnjjjhmnhfapaaGreatDoorMCodeNew
import Derived.Test.YtmnjjjhmnhfapaaGreatDoorMCodeRank
namespace Go.Proofs.YtmnjjjhmnhfapaaGreatDoor
open Go.RowKit

/-- The law's book of lists: the rows of elements, each written full with the mark of its four. -/
structure EBookIs (w : World) (bb B : Nat) (vb : Value) (rows : List Value) : Prop where
  lt : bb < w.heap.size
  le : B ≤ bb
  cell : w.cell? ⟨bb, 1, none⟩ = some vb
  free : w.frozen? ⟨bb, 1, none⟩ = false
  nil : ∀ o, o = 0 ∨ o = 2 ∨ o = 3 → w.cell? ⟨bb, o, none⟩ = some (.slice none 0 0)
  row : w.ownsRow B 84 1 vb rows.length rows
  other : ∀ g, vb.ownBlock = some g → g ≠ bb
  four : rows.length % 4 = 0
  marks : ∀ (i : Nat) (u : Value), rows[i]? = some u → ∃ n, n ≤ 100003 ∧ Reads w u 4 n (elsCells (List.replicate n ⟨-1000 - (i : Int) / 4, 0, 0, true⟩)) ∧ ∀ g, u.ownBlock = some g → g ≠ bb ∧ vb.ownBlock ≠ some g

/-- Blocks of the book itself. -/
theorem EBookIs.stay {w w' : World} {bb B : Nat} {vb : Value} {rows : List Value} (h : EBookIs w bb B vb rows) (hb : Below w.heap.size w w') : EBookIs w' bb B vb rows := by
  refine ⟨Nat.lt_of_lt_of_le h.lt hb.size, h.le, ?_, ?_, fun o ho => ?_, ownsRow_same h.row (fun g hg => hb.block g (h.row.lt g hg).2), h.other, h.four, fun i u hu => ?_⟩
  · rw [hb.cell (p := ⟨bb, 1, none⟩) h.lt]; exact h.cell
  · rw [World.frozen?_of_block (hb.block bb h.lt)]; exact h.free
  · rw [hb.cell (p := ⟨bb, o, none⟩) h.lt]; exact h.nil o ho
  · obtain ⟨n, h1, h2, h3⟩ := h.marks i u hu
    exact ⟨n, h1, h2.below hb h2.2.1, h3⟩

/-- One list more. -/
theorem EBookIs.kept {w0 w w' : World} {bb B : Nat} {vb vb' v v1 v2 v3 : Value} {rows : List Value} {n : Nat} (h : EBookIs w0 bb B vb rows) (hb : Below w0.heap.size w0 w) (hk : EKept bb B w0.heap.size vb v rows n ⟨-1000 - ((rows.length : Nat) : Int) / 4, 0, 0, true⟩ w w' vb' v1 v2 v3) (hn : n ≤ 100000) :
    EBookIs w' bb B vb' (rows ++ [v, v1, v2, v3]) := by
  have h1 := h.stay hb
  have hz := hb.size
  have hz' := hk.size
  refine ⟨Nat.lt_of_lt_of_le h1.lt hk.size, h.le, hk.cell, hk.free, fun o ho => ?_, by simpa using hk.row, ?_, by simp; have := h.four; omega, ?_⟩
  · rw [hk.rest o (by omega)]; exact h1.nil o ho
  · intro g hg
    rcases hk.at' g hg with h2 | h2
    · exact h.other g h2
    · have := h.lt; omega
  · intro i u hu
    by_cases hi : i < rows.length
    · rw [List.getElem?_append_left hi] at hu
      obtain ⟨m, m1, m2, m3⟩ := h1.marks i u hu
      obtain ⟨m', _, m2', _⟩ := h.marks i u hu
      refine ⟨m, m1, m2.of_blocks hz' (fun g hg => hk.block g (m2'.2.1 g hg) (m3 g hg).1 (m3 g hg).2), fun g hg => ⟨(m3 g hg).1, fun hv => ?_⟩⟩
      rcases hk.at' g hv with h2 | h2
      · exact (m3 g hg).2 h2
      · have := m2'.2.1 g hg; omega
    · rw [List.getElem?_append_right (by omega)] at hu
      obtain ⟨j, hj⟩ : ∃ j, i - rows.length = j := ⟨_, rfl⟩
      rw [hj] at hu
      have hj4 : j < 4 := by have := (List.getElem?_eq_some_iff.1 hu).1; simpa using this
      have he : (i : Int) / 4 = ((rows.length : Nat) : Int) / 4 := by have := h.four; omega
      rw [he]
      have hfar : ∀ g, u.ownBlock = some g → g ≠ bb ∧ vb'.ownBlock ≠ some g := fun g hg => by
        have h2 := hk.far u (List.mem_of_getElem? hu) g hg
        exact ⟨by have := h.lt; omega, h2.2⟩
      match j, hj4, hu with
      | 0, _, hu => simp at hu; subst hu; exact ⟨n, by omega, hk.r0, hfar⟩
      | 1, _, hu => simp at hu; subst hu; exact ⟨n + 1, by omega, hk.r1, hfar⟩
      | 2, _, hu => simp at hu; subst hu; exact ⟨n + 2, by omega, hk.r2, hfar⟩
      | 3, _, hu => simp at hu; subst hu; exact ⟨n + 3, by omega, hk.r3, hfar⟩
/-- What a step of the book turns: its own block and its row alone. -/
structure Turns (bb : Nat) (vb vb' : Value) (w w' : World) : Prop where
  size : w.heap.size ≤ w'.heap.size
  os : w'.os = w.os
  tape : w'.tape = w.tape
  output : w'.output = w.output
  block : ∀ k, k < w.heap.size → k ≠ bb → vb.ownBlock ≠ some k → w'.heap[k]? = w.heap[k]?
  at' : ∀ g, vb'.ownBlock = some g → vb.ownBlock = some g ∨ w.heap.size ≤ g
theorem Turns.of {bb : Nat} {vb : Value} {w w' : World} (h : Below w.heap.size w w') : Turns bb vb vb w w' :=
  ⟨h.size, h.os, h.tape, h.output, fun k hk _ _ => h.block k hk, fun _ hg => .inl hg⟩

theorem Turns.refl (bb : Nat) (vb : Value) (w : World) : Turns bb vb vb w w := Turns.of (Below.refl _ _)
theorem Turns.trans {bb : Nat} {v0 v1 v2 : Value} {w0 w1 w2 : World} (h : Turns bb v0 v1 w0 w1) (k : Turns bb v1 v2 w1 w2) : Turns bb v0 v2 w0 w2 := by
  refine ⟨Nat.le_trans h.size k.size, k.os.trans h.os, k.tape.trans h.tape, k.output.trans h.output, fun g h1 h2 h3 => ?_, fun g hg => ?_⟩
  · have hs := h.size
    refine (k.block g (by omega) h2 (fun hv => ?_)).trans (h.block g h1 h2 h3)
    rcases h.at' g hv with h4 | h4
    · exact h3 h4
    · omega
  · have hs := h.size
    rcases k.at' g hg with h4 | h4
    · exact h.at' g h4
    · exact .inr (by omega)
/-- What stays, whatever the book does. -/
def Firm (bb : Nat) (vb : Value) (w : World) (P : World → Prop) : Prop := ∀ w' vb', Turns bb vb vb' w w' → P w'
theorem Firm.here {bb : Nat} {vb : Value} {w : World} {P : World → Prop} (h : Firm bb vb w P) : P w := h w vb (Turns.refl _ _ _)
theorem Firm.next {bb : Nat} {vb vb' : Value} {w w' : World} {P : World → Prop} (h : Firm bb vb w P) (t : Turns bb vb vb' w w') : Firm bb vb' w' P := fun _ _ t' => h _ _ (t.trans t')
theorem Firm.below {bb : Nat} {vb : Value} {w w' : World} {P : World → Prop} (h : Firm bb vb w P) (t : Below w.heap.size w w') : Firm bb vb w' P := h.next (Turns.of t)
theorem Firm.block {bb k : Nat} {vb : Value} {w : World} (h1 : k < w.heap.size) (h2 : k ≠ bb) (h3 : vb.ownBlock ≠ some k) : Firm bb vb w (fun w' => w'.heap[k]? = w.heap[k]?) := fun _ _ t => t.block k h1 h2 h3
/-- What lies at blocks of a time at which the book had none of them. -/
theorem Firm.coll {bb B bc bm : Nat} {vb : Value} {w0 w : World} {st : Int} {sh : Bool} {lns : List Tm.Ln} (h : CollOwn w0 B bc bm st sh lns) (hs : w0.heap.size ≤ w.heap.size) (hk : ∀ g, B ≤ g → g < w0.heap.size → w.heap[g]? = w0.heap[g]?) (hbb : bb < B ∨ w0.heap.size ≤ bb) (hvb : ∀ g, vb.ownBlock = some g → g < B ∨ w0.heap.size ≤ g) : Firm bb vb w (fun w' => Coll w' bc bm st sh lns) := fun w' _ t =>
  h w' (Nat.le_trans hs t.size) (fun g h1 h2 => (t.block g (by omega) (by omega) (fun hv => by have := hvb g hv; omega)).trans (hk g h1 h2))
theorem Firm.table {bb B : Nat} {vb vl : Value} {w0 w : World} {lns : List Tm.Ln} (h : TableOwn w0 B vl lns) (hs : w0.heap.size ≤ w.heap.size) (hk : ∀ g, B ≤ g → g < w0.heap.size → w.heap[g]? = w0.heap[g]?) (hbb : bb < B ∨ w0.heap.size ≤ bb) (hvb : ∀ g, vb.ownBlock = some g → g < B ∨ w0.heap.size ≤ g) : Firm bb vb w (fun w' => TableRd w' vl lns) := fun w' _ t =>
  h w' (Nat.le_trans hs t.size) (fun g h1 h2 => (t.block g (by omega) (by omega) (fun hv => by have := hvb g hv; omega)).trans (hk g h1 h2))
theorem Turns.below {bb B : Nat} {vb vb' : Value} {w w' : World} (t : Turns bb vb vb' w w') (hB : B ≤ w.heap.size) (hbb : B ≤ bb) (hvb : ∀ g, vb.ownBlock = some g → B ≤ g) : Below B w w' :=
  ⟨t.os, t.tape, t.output, t.size, fun k hk => t.block k (by omega) (by omega) (fun hv => by have := hvb k hv; omega)⟩
/-- A new book. -/
theorem EBookIs.new {w : World} {B : Nat} (hB : B ≤ w.heap.size) : EBookIs (w.alloc (.cells #[.slice none 0 0, .slice none 0 0, .slice none 0 0, .slice none 0 0] 40)) w.heap.size B (.slice none 0 0) [] := by
  refine ⟨by simp, hB, by rw [cell_new rfl]; rfl, frozen_new rfl 1, fun o ho => ?_, World.ownsRow_nil _ _ _ _, (fun g hg => by cases hg), rfl, fun i u hu => by simp at hu⟩
  rcases ho with rfl | rfl | rfl <;> (rw [cell_new rfl]; rfl)
theorem Firm.and {bb : Nat} {vb : Value} {w : World} {P Q : World → Prop} (h : Firm bb vb w P) (k : Firm bb vb w Q) : Firm bb vb w (fun w' => P w' ∧ Q w') := fun _ _ t => ⟨h _ _ t, k _ _ t⟩
theorem below_drewN {B q : Nat} {w w' : World} (h : Below B w w') : Below B w (w'.drewN q) := ⟨h.os, h.tape, h.output, h.size, h.block⟩
/-- Three cells of a variable that holds a table. -/
def Box (w : World) (b : Nat) (vl : Value) (st : Int) (sh : Bool) : Prop := w.cell? ⟨b, 0, none⟩ = some vl ∧ w.cell? ⟨b, 1, none⟩ = some (.int .i64 st) ∧ w.cell? ⟨b, 2, none⟩ = some (.bool sh)
/-- A collator, the document's table of it, and the variable that holds that. -/
structure Pair (w : World) (bc bm bt : Nat) (vl : Value) (st : Int) (sh : Bool) (lns : List Tm.Ln) : Prop where
  coll : Coll w bc bm st sh lns
  table : TableRd w vl lns
  box : Box w bt vl st sh
theorem Firm.pair {bb bc bm bt : Nat} {vb vl : Value} {w : World} {st : Int} {sh : Bool} {lns : List Tm.Ln} (h1 : Firm bb vb w (fun w' => Coll w' bc bm st sh lns)) (h2 : Firm bb vb w (fun w' => TableRd w' vl lns)) (h3 : Firm bb vb w (fun w' => Box w' bt vl st sh)) : Firm bb vb w (fun w' => Pair w' bc bm bt vl st sh lns) := fun _ _ t => ⟨h1 _ _ t, h2 _ _ t, h3 _ _ t⟩
end Go.Proofs.YtmnjjjhmnhfapaaGreatDoor
/-
  Plain facts on levels, the order of texts, and keys.
-/
namespace Go.Proofs.YtmnjjjhmnhfapaaGreatDoor
namespace Tm

/-- The number, unless it is 0. -/
def nz (x : Int) : List Int := if x = 0 then [] else [x]
/-- What an element gives to a level (0 to 3), not shifted. -/
def plainW (e : El) : Nat → List Int
  | 0 => nz e.p
  | 1 => nz e.s
  | 2 => nz e.t
  | _ => []
/-- Is what stands here behind a variable element? -/
def behind (bv : Bool) (e : El) : Bool := if e.p = 0 then bv else e.v
def empty (e : El) : Bool := e.p == 0 && e.s == 0 && e.t == 0
/-- What an element gives to a level (0 to 3), shifted; b: it is, or stands behind, a variable one. -/
def shiftW (b : Bool) (e : El) : Nat → List Int
  | 0 => if b then [] else nz e.p
  | 1 => if b then [] else nz e.s
  | 2 => if b then [] else nz e.t
  | _ => if b then nz e.p else if empty e then [] else [65535]
def lev (sh : Bool) (k : Nat) : Bool → List El → List Int
  | _, [] => []
  | bv, e :: r => (if sh then shiftW (behind bv e) e k else plainW e k) ++ lev sh k (behind bv e) r
/-- A level of elements (0 to 3). -/
def level (sh : Bool) (els : List El) (k : Nat) : List Int := lev sh k false els

def lastB : Bool → List El → Bool
  | bv, [] => bv
  | bv, e :: r => lastB (behind bv e) r
theorem lastB_snoc (e : El) : ∀ (l : List El) (bv : Bool), lastB bv (l ++ [e]) = behind (lastB bv l) e
  | [], _ => rfl
  | _ :: r, _ => lastB_snoc e r _
theorem lev_snoc (sh : Bool) (k : Nat) (e : El) : ∀ (l : List El) (bv : Bool), lev sh k bv (l ++ [e]) = lev sh k bv l ++ (if sh then shiftW (behind (lastB bv l) e) e k else plainW e k)
  | [], bv => by simp [lev, lastB]
  | x :: r, bv => by simp only [List.cons_append, lev, lastB]; rw [lev_snoc sh k e r]; simp
theorem level_snoc (sh : Bool) (k : Nat) (e : El) (l : List El) : level sh (l ++ [e]) k = level sh l k ++ (if sh then shiftW (behind (lastB false l) e) e k else plainW e k) := lev_snoc sh k e l false
theorem nz_length (x : Int) : (nz x).length ≤ 1 := by unfold nz; split <;> simp
theorem plainW_length (e : El) (k : Nat) : (plainW e k).length ≤ 1 := by
  unfold plainW; split <;> first | exact nz_length _ | simp
theorem shiftW_length (b : Bool) (e : El) (k : Nat) : (shiftW b e k).length ≤ 1 := by
  unfold shiftW
  split <;> split <;> first | exact nz_length _ | exact Nat.zero_le _ | (split <;> simp)
theorem lev_length (sh : Bool) (k : Nat) : ∀ (l : List El) (bv : Bool), (lev sh k bv l).length ≤ l.length
  | [], _ => by simp [lev]
  | e :: r, bv => by
    have := lev_length sh k r (behind bv e)
    have h1 := shiftW_length (behind bv e) e k
    have h2 := plainW_length e k
    simp only [lev, List.length_append, List.length_cons]
    split <;> omega

/-- The order of lists of numbers. -/
def cmpL : List Int → List Int → Int
  | [], [] => 0
  | [], _ :: _ => -1
  | _ :: _, [] => 1
  | a :: r, b :: t => if a < b then -1 else if b < a then 1 else cmpL r t
/-- The order of lists of lists. -/
def cmpLL : List (List Int) → List (List Int) → Int
  | [], [] => 0
  | [], _ :: _ => -1
  | _ :: _, [] => 1
  | a :: r, b :: t => if cmpL a b = 0 then cmpLL r t else cmpL a b
theorem cmpL_range : ∀ (a b : List Int), cmpL a b = -1 ∨ cmpL a b = 0 ∨ cmpL a b = 1
  | [], [] => by simp [cmpL]
  | [], _ :: _ => by simp [cmpL]
  | _ :: _, [] => by simp [cmpL]
  | a :: r, b :: t => by
    unfold cmpL
    split
    · simp
    · split
      · simp
      · exact cmpL_range r t
theorem cmpL_self : ∀ (a : List Int), cmpL a a = 0
  | [] => rfl
  | a :: r => by simp [cmpL, cmpL_self r]
theorem cmpL_zero : ∀ {a b : List Int}, cmpL a b = 0 → a = b
  | [], [], _ => rfl
  | [], _ :: _, h => by simp [cmpL] at h
  | _ :: _, [], h => by simp [cmpL] at h
  | a :: r, b :: t, h => by
    unfold cmpL at h
    split at h
    · simp at h
    · split at h
      · simp at h
      · rw [cmpL_zero h, show a = b by omega]
theorem cmpL_eq_zero (a b : List Int) : cmpL a b = 0 ↔ a = b := ⟨cmpL_zero, fun h => by rw [h]; exact cmpL_self b⟩
theorem cmpL_neg : ∀ (a b : List Int), cmpL b a = - cmpL a b
  | [], [] => rfl
  | [], _ :: _ => rfl
  | _ :: _, [] => rfl
  | a :: r, b :: t => by
    have ih := cmpL_neg r t
    simp only [cmpL]
    by_cases h1 : a < b
    · rw [if_neg (by omega), if_pos h1, if_pos h1]; rfl
    · by_cases h2 : b < a
      · rw [if_pos h2, if_neg h1, if_pos h2]
      · rw [if_neg h2, if_neg h1, if_neg h1, if_neg h2, ih]
/-- Less: transitive, with equals on either side. -/
theorem cmpL_trans : ∀ {a b c : List Int}, cmpL a b ≤ 0 → cmpL b c ≤ 0 → cmpL a c ≤ 0
  | [], _, [], _, _ => by simp [cmpL]
  | [], _, _ :: _, _, _ => by simp [cmpL]
  | _ :: _, [], _, h, _ => by simp [cmpL] at h
  | _ :: _, _ :: _, [], _, h => by simp [cmpL] at h
  | a :: r, b :: t, c :: u, h, k => by
    unfold cmpL at h k ⊢
    by_cases h1 : a < b
    · by_cases k1 : b < c
      · rw [if_pos (by omega)]; decide
      · rw [if_neg k1] at k
        by_cases k2 : c < b
        · rw [if_pos k2] at k; simp at k
        · rw [if_pos (by omega)]; decide
    · rw [if_neg h1] at h
      by_cases h2 : b < a
      · rw [if_pos h2] at h; simp at h
      · rw [if_neg h2] at h
        by_cases k1 : b < c
        · rw [if_pos (by omega)]; decide
        · rw [if_neg k1] at k
          by_cases k2 : c < b
          · rw [if_pos k2] at k; simp at k
          · rw [if_neg k2] at k
            rw [if_neg (by omega), if_neg (by omega)]
            exact cmpL_trans h k
theorem cmpLL_range : ∀ (a b : List (List Int)), cmpLL a b = -1 ∨ cmpLL a b = 0 ∨ cmpLL a b = 1
  | [], [] => by simp [cmpLL]
  | [], _ :: _ => by simp [cmpLL]
  | _ :: _, [] => by simp [cmpLL]
  | a :: r, b :: t => by
    unfold cmpLL
    split
    · exact cmpLL_range r t
    · exact cmpL_range a b
theorem cmpLL_zero : ∀ {a b : List (List Int)}, cmpLL a b = 0 → a = b
  | [], [], _ => rfl
  | [], _ :: _, h => by simp [cmpLL] at h
  | _ :: _, [], h => by simp [cmpLL] at h
  | a :: r, b :: t, h => by
    unfold cmpLL at h
    split at h
    · rename_i h1; rw [cmpL_zero h1, cmpLL_zero h]
    · rename_i h1; exact absurd h h1
theorem cmpLL_self : ∀ (a : List (List Int)), cmpLL a a = 0
  | [] => rfl
  | a :: r => by rw [cmpLL, if_pos (cmpL_self a)]; exact cmpLL_self r
theorem cmpLL_neg : ∀ (a b : List (List Int)), cmpLL b a = - cmpLL a b
  | [], [] => rfl
  | [], _ :: _ => rfl
  | _ :: _, [] => rfl
  | a :: r, b :: t => by
    have ih := cmpLL_neg r t
    have h := cmpL_neg a b
    simp only [cmpLL]
    by_cases h1 : cmpL a b = 0
    · rw [if_pos (by omega), if_pos h1, ih]
    · rw [if_neg (by omega), if_neg h1, h]
theorem cmpLL_trans : ∀ {a b c : List (List Int)}, cmpLL a b ≤ 0 → cmpLL b c ≤ 0 → cmpLL a c ≤ 0
  | [], _, [], _, _ => by simp [cmpLL]
  | [], _, _ :: _, _, _ => by simp [cmpLL]
  | _ :: _, [], _, h, _ => by simp [cmpLL] at h
  | _ :: _, _ :: _, [], _, h => by simp [cmpLL] at h
  | a :: r, b :: t, c :: u, h, k => by
    unfold cmpLL at h k ⊢
    by_cases h1 : cmpL a b = 0
    · have e := cmpL_zero h1
      subst e
      rw [if_pos h1] at h
      by_cases k1 : cmpL a c = 0
      · rw [if_pos k1] at k ⊢
        exact cmpLL_trans h k
      · rw [if_neg k1] at k ⊢
        exact k
    · rw [if_neg h1] at h
      by_cases k1 : cmpL b c = 0
      · have e := cmpL_zero k1
        subst e
        rw [if_neg h1]
        exact h
      · rw [if_neg k1] at k
        have h2 := cmpL_trans h k
        have h3 : cmpL a c ≠ 0 := fun e => by
          have e := cmpL_zero e
          subst e
          have := cmpL_neg a b
          omega
        rw [if_neg h3]
        exact h2

/-- The bytes of a number below 2^24, the greatest first. -/
def num3 (x : Int) : List UInt8 := [UInt8.ofNat (x.toNat / 65536), UInt8.ofNat (x.toNat / 256), UInt8.ofNat x.toNat]
def keyL (l : List Int) : List UInt8 := l.flatMap num3 ++ num3 0
def keyLL (l : List (List Int)) : List UInt8 := l.flatMap keyL

/-- The order of bytes. -/
def lessB : List UInt8 → List UInt8 → Bool
  | [], [] => false
  | [], _ :: _ => true
  | _ :: _, [] => false
  | a :: r, b :: t => if a < b then true else if b < a then false else lessB r t
def cmpB (a b : List UInt8) : Int := if lessB a b then -1 else if lessB b a then 1 else 0
theorem lessB_same (p a b : List UInt8) : lessB (p ++ a) (p ++ b) = lessB a b := by
  induction p with
  | nil => rfl
  | cons x r ih => simp only [List.cons_append, lessB]; rw [if_neg (by exact UInt8.lt_irrefl x), if_neg (by exact UInt8.lt_irrefl x), ih]
theorem lessB_self (a : List UInt8) : lessB a a = false := by
  have := lessB_same a [] []
  simpa [lessB] using this
theorem num3_less {x y : Int} (hx : 0 ≤ x ∧ x < 16777216) (hy : 0 ≤ y ∧ y < 16777216) (h : x < y) (a b : List UInt8) : lessB (num3 x ++ a) (num3 y ++ b) = true ∧ lessB (num3 y ++ b) (num3 x ++ a) = false := by
  obtain ⟨n, rfl⟩ : ∃ n : Nat, x = n := ⟨x.toNat, by omega⟩
  obtain ⟨m, rfl⟩ : ∃ m : Nat, y = m := ⟨y.toNat, by omega⟩
  have hn : n < 16777216 := by omega
  have hm : m < 16777216 := by omega
  have hl : n < m := by omega
  have q1 : ∀ k : Nat, k < 256 → (UInt8.ofNat k).toNat = k := fun k hk => by simp [UInt8.toNat_ofNat']; omega
  have q2 : ∀ k : Nat, (UInt8.ofNat k).toNat = k % 256 := fun k => by simp [UInt8.toNat_ofNat']
  simp only [num3, List.cons_append, List.nil_append, lessB, Int.toNat_natCast, UInt8.lt_iff_toNat_lt, q2]
  have e1 : n / 65536 % 256 = n / 65536 := Nat.mod_eq_of_lt (by omega)
  have e2 : m / 65536 % 256 = m / 65536 := Nat.mod_eq_of_lt (by omega)
  rw [e1, e2]
  by_cases h1 : n / 65536 < m / 65536
  · simp [h1, Nat.not_lt.2 (Nat.le_of_lt h1)]
  · have h1' : n / 65536 = m / 65536 := by omega
    rw [h1']
    simp only [Nat.lt_irrefl, if_false]
    by_cases h2 : n / 256 % 256 < m / 256 % 256
    · simp [h2, Nat.not_lt.2 (Nat.le_of_lt h2)]
    · have h2' : n / 256 % 256 = m / 256 % 256 := by omega
      rw [h2']
      simp only [Nat.lt_irrefl, if_false]
      have h3 : n % 256 < m % 256 := by omega
      simp [h3, Nat.not_lt.2 (Nat.le_of_lt h3)]
def Small (l : List Int) : Prop := ∀ x ∈ l, 0 ≤ x ∧ x < 16777216
def Weights (l : List Int) : Prop := ∀ x ∈ l, 0 < x ∧ x < 16777216
theorem Weights.small {l : List Int} (h : Weights l) : Small l := fun x hx => by have := h x hx; omega
/-- Keys of levels, with whatever behind them. -/
theorem keyL_less : ∀ {l m : List Int}, Weights l → Weights m → cmpL l m = -1 → ∀ a b, lessB (keyL l ++ a) (keyL m ++ b) = true ∧ lessB (keyL m ++ b) (keyL l ++ a) = false
  | [], [], _, _, h, _, _ => by simp [cmpL] at h
  | [], y :: m, _, hm, _, a, b => by
    simp only [keyL, List.flatMap_nil, List.nil_append, List.flatMap_cons, List.append_assoc]
    exact num3_less ⟨by omega, by omega⟩ ⟨by have := hm y (by simp); omega, (hm y (by simp)).2⟩ (hm y (by simp)).1 _ _
  | _ :: _, [], _, _, h, _, _ => by simp [cmpL] at h
  | x :: l, y :: m, hl, hm, h, a, b => by
    have hx := hl x (by simp)
    have hy := hm y (by simp)
    simp only [keyL, List.flatMap_cons, List.append_assoc]
    unfold cmpL at h
    by_cases h1 : x < y
    · exact num3_less ⟨by omega, hx.2⟩ ⟨by omega, hy.2⟩ h1 _ _
    · rw [if_neg h1] at h
      by_cases h2 : y < x
      · rw [if_pos h2] at h; simp at h
      · rw [if_neg h2] at h
        rw [show x = y by omega, lessB_same, lessB_same]
        have := keyL_less (fun z hz => hl z (by simp [hz])) (fun z hz => hm z (by simp [hz])) h a b
        simpa [keyL] using this
/-- Keys of the last list, with nothing behind them. -/
theorem keyL_last : ∀ {l m : List Int}, Small l → Small m → cmpL l m = -1 → lessB (keyL l) (keyL m) = true ∧ lessB (keyL m) (keyL l) = false
  | [], [], _, _, h => by simp [cmpL] at h
  | [], y :: m, _, hm, _ => by
    have hy := hm y (by simp)
    by_cases h0 : y = 0
    · subst h0
      simp only [keyL, List.flatMap_nil, List.nil_append, List.flatMap_cons, List.append_assoc]
      have e : num3 0 = num3 0 ++ [] := by simp
      constructor
      · conv => lhs; lhs; rw [e]
        rw [lessB_same]
        cases hq : m.flatMap num3 ++ num3 0 with
        | nil => simp [num3] at hq
        | cons z r => rfl
      · conv => lhs; rhs; rw [e]
        rw [lessB_same]
        cases hq : m.flatMap num3 ++ num3 0 with
        | nil => simp [num3] at hq
        | cons z r => rfl
    · simp only [keyL, List.flatMap_nil, List.nil_append, List.flatMap_cons, List.append_assoc]
      have := num3_less (x := 0) ⟨by omega, by omega⟩ hy (by omega) [] (m.flatMap num3 ++ num3 0)
      simpa using this
  | _ :: _, [], _, _, h => by simp [cmpL] at h
  | x :: l, y :: m, hl, hm, h => by
    have hx := hl x (by simp)
    have hy := hm y (by simp)
    simp only [keyL, List.flatMap_cons, List.append_assoc]
    unfold cmpL at h
    by_cases h1 : x < y
    · exact num3_less hx hy h1 _ _
    · rw [if_neg h1] at h
      by_cases h2 : y < x
      · rw [if_pos h2] at h; simp at h
      · rw [if_neg h2] at h
        rw [show x = y by omega, lessB_same, lessB_same]
        have := keyL_last (fun z hz => hl z (by simp [hz])) (fun z hz => hm z (by simp [hz])) h
        simpa [keyL] using this
theorem keyLL_less : ∀ {a b : List (List Int)} {x y : List Int}, a.length = b.length → (∀ l ∈ a, Weights l) → (∀ l ∈ b, Weights l) → Small x → Small y → cmpLL (a ++ [x]) (b ++ [y]) = -1 → lessB (keyLL (a ++ [x])) (keyLL (b ++ [y])) = true ∧ lessB (keyLL (b ++ [y])) (keyLL (a ++ [x])) = false
  | [], [], x, y, _, _, _, hx, hy, h => by
    simp only [List.nil_append, cmpLL] at h
    split at h
    · simp at h
    · have := keyL_last hx hy h
      simpa [keyLL] using this
  | l :: a, m :: b, x, y, hab, ha, hb, hx, hy, h => by
    simp only [List.cons_append, cmpLL] at h
    simp only [List.cons_append, keyLL, List.flatMap_cons]
    split at h
    · rename_i h0
      rw [cmpL_zero h0, lessB_same, lessB_same]
      exact keyLL_less (by simpa using hab) (fun q hq => ha q (by simp [hq])) (fun q hq => hb q (by simp [hq])) hx hy h
    · exact keyL_less (ha l (by simp)) (hb m (by simp)) h _ _
  | [], _ :: _, _, _, h, _, _, _, _, _ => by simp at h
  | _ :: _, [], _, _, h, _, _, _, _, _ => by simp at h
/-- Keys stand in the order of what they are made of. -/
theorem keyLL_cmp {a b : List (List Int)} {x y : List Int} (hab : a.length = b.length) (ha : ∀ l ∈ a, Weights l) (hb : ∀ l ∈ b, Weights l) (hx : Small x) (hy : Small y) : cmpB (keyLL (a ++ [x])) (keyLL (b ++ [y])) = cmpLL (a ++ [x]) (b ++ [y]) := by
  unfold cmpB
  rcases cmpLL_range (a ++ [x]) (b ++ [y]) with h | h | h
  · have := keyLL_less hab ha hb hx hy h
    rw [this.1, h]; rfl
  · have e := cmpLL_zero h
    rw [e, lessB_self, cmpLL_self]; rfl
  · have h' := cmpLL_neg (a ++ [x]) (b ++ [y])
    have := keyLL_less hab.symm hb ha hy hx (by omega)
    rw [this.1, this.2, h]; rfl
end Tm
end Go.Proofs.YtmnjjjhmnhfapaaGreatDoor
