import Derived.BigQuiet
import Derived.Test.YthaecjhnlpbfnaaDoorMCodeCatch
import Derived.Test.YthaecjhnlpbfnaaDoorMCodeNew
import Derived.Test.YthaecjhnlpbfnaaDoorMRefNormalW
import Derived.Test.YthaecjhnlpbfnaaDoorMRefSame
namespace Go.Proofs.YthaecjhnlpbfnaaDoor
open Go.RowKit

theorem norm_short {lns : List Tm.Ln} (hf : ∀ o ∈ lns, Tm.Fit o) {s : ByteArray} (hs : s.size ≤ 64) : (normOf lns s).length ≤ 1024 := by
  have hl3 : ∀ o ∈ lns, o.runes.length ≤ 3 := fun o ho => (hf o ho).few
  have h1 := Tm.flat_short (lns := lns) (parts_short hl3) 4 (runesOf s)
  have h2 := runesFrom_short (s := s) (f := s.size) (pos := 0)
  have h3 : (runesOf s).length ≤ 64 := by unfold runesOf; omega
  have h4 := Nat.mul_le_mul_right (2 ^ 4) h3
  rw [normOf, Tm.ord_length]
  omega

/-- What a step of the book turns: its own block and its row alone. -/
structure Turns (bb : Nat) (vb vb' : Value) (w w' : World) : Prop where
  size : w.heap.size ≤ w'.heap.size
  os : w'.os = w.os
  tape : w'.tape = w.tape
  output : w'.output = w.output
  block : ∀ k, k < w.heap.size → k ≠ bb → vb.ownBlock ≠ some k → w'.heap[k]? = w.heap[k]?
  at' : ∀ g, vb'.ownBlock = some g → vb.ownBlock = some g ∨ w.heap.size ≤ g
theorem Turns.of {bb : Nat} {vb : Value} {w w' : World} (h : Below w.heap.size w w') : Turns bb vb vb w w' :=
  ⟨h.size, h.os, h.tape, h.output, fun k hk _ _ => h.block k hk, fun _ hg => .inl hg⟩

set_option maxRecDepth 100000 in
set_option maxHeartbeats 2000000 in
theorem bookNormal_any (lns : List Tm.Ln) (bc bm bb B : Nat) (st st' : Int) (sh sh' : Bool) (vb vl : Value) (rows : List Value) (s : ByteArray) (w : World) (hcoll : Coll w bc bm st sh lns) (ht : TableRd w vl lns) (hends : ∀ r, Tm.ends lns 4 r = true) (hbook : BookIs w bb B vb rows) (hrows : rows.length ≤ 90000000) :
    Calls Tryd.prog 12 #[.pointer (some ⟨bb, 0, none⟩), .pointer (some ⟨bc, 0, none⟩), .agg #[vl, .int .i64 st', .bool sh'], .string s] w fun e w' => e = .returned (.bool true) ∧ ∃ vb' rows', BookIs w' bb B vb' rows' ∧ rows'.length ≤ rows.length + 4 ∧ Turns bb vb vb' w w' := by
  obtain ⟨a, cap, rfl⟩ := ht.shape
  have HCOLL := hide hcoll
  have HT := hide ht
  have HENDS := hide hends
  have HBK := hide hbook
  obtain ⟨W, hW⟩ : ∃ W, w.alloc (.cells #[.slice a lns.length cap, .int .i64 st', .bool sh'] 28) = W := ⟨_, rfl⟩
  have hb0 : Below w.heap.size w W := by rw [← hW]; exact (Below.refl _ _).alloc (Nat.le_refl _) _
  have hz0 : W.heap.size = w.heap.size + 1 := by rw [← hW]; simp
  have k0 : W.cell? ⟨w.heap.size, 0, none⟩ = some (.slice a lns.length cap) := by rw [← hW, cell_new rfl]; rfl
  have k1 : W.cell? ⟨w.heap.size, 1, none⟩ = some (.int .i64 st') := by rw [← hW, cell_new rfl]; rfl
  have k2 : W.cell? ⟨w.heap.size, 2, none⟩ = some (.bool sh') := by rw [← hW, cell_new rfl]; rfl
  have HB0 := hide hb0
  have hn := norm_short hcoll.fit (s := s)
  have HC0 := hide (hcoll.below hb0)
  have HT0 := hide (ht.below hb0)
  clear hcoll ht hends hbook hb0
  go_enter Tryd.func12, Tryd.ntmps12
  go_wp2_with fail
  refine (Normal_any lns HC0.out.fit HENDS.out bc bm s _ HC0.out.c0 HC0.out.rd).mono ?_
  rintro e w1 hans
  by_cases hs : s.size ≤ 64
  · rw [normAns, if_pos hs] at hans
    obtain ⟨v, rfl, hown, hb1⟩ := hans
    have hd : decide (64 < (s.size : Int)) = false := by simp <;> omega
    have hn := hn hs
    obtain ⟨av, capv, rfl⟩ := (Reads.of_owns hown).shape
    have hz1 := hb1.size
    rw [← (bcell hb1).1 _ _ (by omega)] at k0 k1 k2
    have HB1 : Hid (Below w.heap.size w w1) := HB0.out.trans (hb1.mono (by omega))
    have HO1 := hide (owns_mono (base' := w.heap.size) hown (by omega))
    have HT1 := hide (HT0.out.below hb1)
    clear hown hb1
    go_wp2_with fail
    refine (RefNormal_any _ st' sh' s lns _ HT1.out HC0.out.fit (by have := HC0.out.few; omega) HENDS.out hs).mono ?_
    rintro e w2 ⟨v2, rfl, hr2, hb2⟩
    obtain ⟨a2, cap2, rfl⟩ := hr2.shape
    have hz2 := hb2.size
    have HB2 : Hid (Below w.heap.size w w2) := HB1.out.trans (hb2.mono (by omega))
    have HO2 : Hid (w2.ownsRow w.heap.size 3 1 (.slice av (normOf lns s).length capv) (normOf lns s).length (ints (normOf lns s))) := ownsRow_same HO1.out (fun g hg => hb2.block g (HO1.out.lt g hg).2)
    have HR2 := hide hr2
    clear hb2 hr2 k0 k1 k2
    go_wp2_with fail
    refine (lawSame_any _ _ (normOf lns s) (normOf lns s) _ (Reads.of_owns HO2.out) HR2.out (by omega) (by omega)).mono ?_
    rintro e w3 ⟨rfl, q, rfl⟩
    have hz3 : w.heap.size ≤ w2.heap.size := by omega
    go_wp2_with fail
    refine (keepInts_any bb B w.heap.size vb _ rows (normOf lns s) (w2.drewN q) ?_ ?_ ?_ (by exact HO2.out) HBK.out.lt (fun g hg => ⟨(HBK.out.row.lt g hg).2, HBK.out.other g hg⟩) hz3 (by have := HBK.out.lt; have := HBK.out.le; omega) (by omega) (by omega)).mono ?_
    · exact (HBK.out.stay HB2.out).cell
    · exact (HBK.out.stay HB2.out).free
    · exact (HBK.out.stay HB2.out).row
    rintro e w4 ⟨rfl, vb', v1, v2, v3, hk⟩
    have HBK4 := hide (HBK.out.kept (w := w2.drewN q) ⟨HB2.out.os, HB2.out.tape, HB2.out.output, HB2.out.size, HB2.out.block⟩ hk (by omega))
    have HTU : Hid (Turns bb vb vb' w w4) := ⟨Nat.le_trans hz3 hk.size, hk.os.trans HB2.out.os, hk.tape.trans HB2.out.tape, hk.output.trans HB2.out.output, fun k h1 h2 h3 => (hk.block k h1 h2 h3).trans (HB2.out.block k h1), fun g hg => (hk.at' g hg).imp id (fun h => Nat.le_trans hz3 h)⟩
    clear hk
    go_wp2
    go_ret
    exact ⟨ret_bool (by simp), vb', _, HBK4.out, by simp, HTU.out⟩
  · rw [normAns, if_neg hs] at hans
    obtain ⟨rfl, rfl⟩ := hans
    have hd : decide (64 < (s.size : Int)) = true := by simp <;> omega
    go_wp2
    go_ret
    exact ⟨rfl, vb, rows, HBK.out.stay HB0.out, by omega, Turns.of HB0.out⟩
end Go.Proofs.YthaecjhnlpbfnaaDoor
namespace Go.Proofs.YthaecjhnlpbfnaaDoor
open Go.RowKit

theorem BookIs.at {w : World} {bb B R capb : Nat} {ab : Option Addr} {rows : List Value} (h : BookIs w bb B (.slice ab R capb) rows) {k : Nat} (hk : k < rows.length) :
    ∃ gb off n a c, ab = some ⟨gb, off, none⟩ ∧ w.cell? ⟨gb, off + k, none⟩ = some (.slice a n c) ∧ n ≤ 100003 ∧ ∀ j, j < n → ∃ g o, a = some ⟨g, o, none⟩ ∧ w.cell? ⟨g, o + j, none⟩ = some (.int .i64 (-1000 - (k : Int) / 4)) := by
  have hrd := Reads.of_owns h.row
  obtain ⟨gb, off, cap, he, _, hc⟩ := hrd.form (by omega)
  cases he
  obtain ⟨n, hn, hr, _⟩ := h.marks k rows[k] (by simp [hk])
  obtain ⟨a, c, hs⟩ := hr.shape
  have hcu := hc k rows[k] (by simp [hk])
  rw [hs] at hcu hr
  refine ⟨gb, off, n, a, c, rfl, hcu, hn, fun j hj => ?_⟩
  obtain ⟨g, o, cap', he', _, hc'⟩ := hr.form (by rw [ints_length]; simp; omega)
  cases he'
  have := hc' j (.int .i64 (-1000 - (k : Int) / 4)) (by rw [ints_get (by simp; exact hj)]; simp)
  exact ⟨g, o, rfl, this⟩

set_option maxRecDepth 100000 in
set_option maxHeartbeats 2000000 in
theorem whole_any (bb B : Nat) (vb : Value) (rows : List Value) (w : World) (h : BookIs w bb B vb rows) (hr : rows.length ≤ 100000000) :
    Calls Tryd.prog 13 #[.pointer (some ⟨bb, 0, none⟩)] w fun e w' => e = .returned (.bool true) ∧ ∃ q, w' = w.drewN q := by
  obtain ⟨ab, capb, rfl⟩ := (Reads.of_owns h.row).shape
  have HB := hide h
  have c0 := h.cell
  have c1 := h.nil 1 (by omega)
  have c2 := h.nil 2 (by omega)
  have c3 := h.nil 3 (by omega)
  have hbb := h.lt
  obtain ⟨R, hR⟩ : ∃ R, rows.length = R := ⟨_, rfl⟩
  rw [hR] at c0 hr HB
  have HR := hide hR
  clear h hR
  go_enter Tryd.func13, Tryd.ntmps13
  go_wp2
  go_loopw [3] (fun i wr => ∃ k : Nat, k ≤ R ∧ i = .int .i64 k ∧ ∃ q, wr = w.drewN q) (fun i _ => R - (intOf i).toNat)
  case atStart => exact ⟨0, Nat.zero_le _, rfl, 0, rfl⟩
  case round =>
    obtain ⟨k, hk, rfl, q, rfl⟩ := hrel
    by_cases hlt : k < R
    · obtain ⟨gb, off, n, a, c, rfl, cu, hn, hc⟩ := HB.out.at (k := k) (by rw [HR.out]; exact hlt)
      have q1 : (0 : Int) ≤ (k : Int) / 4 := by omega
      have q2 : (k : Int) / 4 ≤ 1000000000 := by omega
      have HC := hide hc
      clear hc
      go_wp2_with fail
      go_loopw [4] (fun i wr => ∃ j : Nat, j ≤ n ∧ i = .int .i64 j ∧ ∃ q, wr = w.drewN q) (fun i _ => n - (intOf i).toNat)
      case atStart => exact ⟨0, Nat.zero_le _, rfl, q, rfl⟩
      case round =>
        obtain ⟨j, hj, rfl, q', rfl⟩ := hrel
        by_cases hjl : j < n
        · obtain ⟨g, o, rfl, cj⟩ := HC.out j hjl
          have i1 : (0 : Int) ≤ (k : Int) := by omega
          have i2 : (k : Int) < (R : Int) := by omega
          have i3 : (0 : Int) ≤ (j : Int) := by omega
          have i4 : (j : Int) < (n : Int) := by omega
          have I5 : Hid (IntKind.i64.wrap ((k : Int) / 4) = (k : Int) / 4) := by unfold Hid; rw [IntKind.wrap_i64]; omega
          have HM := hide (fun w => markInt_any ((k : Int) / 4) w ⟨q1, q2⟩)
          obtain ⟨mk, hmk⟩ : ∃ mk : Int, -1000 - (k : Int) / 4 = mk := ⟨_, rfl⟩
          rw [hmk] at cj HM
          go_wp2_with fail
          go_quiet (first | (go_at_call 33; first | exact (HM.out _).mono (fun _ _ h => ⟨h.1, _, h.2⟩) | (rw [I5.out]; exact (HM.out _).mono (fun _ _ h => ⟨h.1, _, h.2⟩))))
          go_wp2
          go_roundw
          case rel => exact ⟨j + 1, by omega, by go_num, _, rfl⟩
          case measure => simp [intOf]; omega
        · go_wp2
          go_roundw
          case rel => exact ⟨k + 1, by omega, by go_num, q', rfl⟩
          case measure => simp [intOf]; omega
    · go_wp2_with fail
      go_loop [5] (fun i => i = .int .i64 0) (fun _ => 0)
      case atStart => rfl
      case round =>
        subst hrel
        go_wp2_with fail
        go_loop [7] (fun i => i = .int .i64 0) (fun _ => 0)
        case atStart => rfl
        case round =>
          subst hrel
          go_wp2_with fail
          go_loop [10] (fun i => i = .int .i64 0) (fun _ => 0)
          case atStart => rfl
          case round =>
            subst hrel
            go_wp2
            go_ret
            exact ⟨rfl, q, rfl⟩
end Go.Proofs.YthaecjhnlpbfnaaDoor
namespace Go.Proofs.YthaecjhnlpbfnaaDoor
open Go.RowKit

/-- The document's own table. -/
def exText : List UInt8 := [119, 32, 54, 49, 32, 61, 32, 49, 48, 46, 50, 48, 46, 50, 10, 119, 32, 54, 50, 32, 61, 32, 49, 49, 46, 50, 48, 46, 50, 10, 119, 32, 54, 51, 32, 54, 56, 32, 61, 32, 49, 51, 46, 50, 48, 46, 50, 10, 119, 32, 54, 51, 32, 61, 32, 49, 50, 46, 50, 48, 46, 50, 10, 119, 32, 51, 48, 49, 32, 61, 32, 48, 46, 50, 52, 46, 50, 10, 99, 32, 51, 48, 49, 32, 101, 54, 10, 100, 32, 101, 49, 32, 54, 49, 32, 51, 48, 49, 10, 119, 32, 50, 100, 32, 61, 32, 42, 51, 46, 50, 48, 46, 50]
theorem exText_ok : (Tm.newTable exText 3).2 = (0, 0) := by decide +kernel

set_option maxRecDepth 100000 in
theorem example_any (w : World) : Calls Tryd.prog 11 #[] w fun e w' => e = .returned (.string ⟨exText.toArray⟩) ∧ w' = w := by
  go_enter Tryd.func11, Tryd.ntmps11
  go_wp2
  go_ret
  exact ⟨rfl, rfl⟩

set_option maxRecDepth 100000 in
set_option maxHeartbeats 1000000 in
theorem plain_any {K : ByteArray → Int → Bool → Nat → Option Addr → World → Prop} (hNew : NewSaid K) (w : World) : Calls Tryd.prog 8 #[] w fun e w' => ∃ a, e = .returned (.pointer (some a)) ∧ K ⟨exText.toArray⟩ 3 false w.heap.size (some a) w' ∧ Below w.heap.size w w' := by
  go_enter Tryd.func8, Tryd.ntmps8
  go_wp2_with fail
  refine (example_any _).mono ?_
  rintro e w1 ⟨rfl, rfl⟩
  go_wp2_with fail
  refine (hNew.2 ⟨exText.toArray⟩ 3 false _ (by unfold maxLen; decide)).mono ?_
  rintro e w2 ⟨c, rfl, hc, hK, hb⟩
  have HK := hide hK
  clear hK
  have hx := exText_ok
  rw [hx] at hc
  obtain ⟨a, rfl⟩ : ∃ a, c = some a := by
    cases c with
    | none => exact absurd rfl (hc.1 rfl)
    | some a => exact ⟨a, rfl⟩
  have e1 : (Tm.newTable (ByteArray.mk exText.toArray).data.toList 3).2.1 = 0 := by simp [hx]
  have e2 : (Tm.newTable (ByteArray.mk exText.toArray).data.toList 3).2.2 = 0 := by simp [hx]
  rw [e1, e2]
  clear hx hc e1 e2
  go_wp2
  go_ret
  exact ⟨a, rfl, HK.out, hb⟩

set_option maxRecDepth 100000 in
set_option maxHeartbeats 1000000 in
theorem Tables_any {K : ByteArray → Int → Bool → Nat → Option Addr → World → Prop} (hNew : NewSaid K) (s : ByteArray) (st : Int) (sh : Bool) (w : World) (hs : s.size ≤ maxLen) :
    Calls Tryd.prog 3 #[.string s, .int .i64 st, .bool sh] w fun e w' => e = .returned (.bool true) ∧ Below w.heap.size w w' := by
  go_enter Tryd.func3, Tryd.ntmps3
  go_wp2_with fail
  refine (plain_any hNew _).mono ?_
  rintro e w1 ⟨a, rfl, _, hb1⟩
  go_wp2_with fail
  refine (opens_any hNew s st sh _ hs).mono ?_
  rintro e w2 ⟨⟨c, vl, rfl, hc, htab, _⟩, hb2⟩
  obtain ⟨al, capl, rfl⟩ := htab.rd.shape
  have HB : Hid (Below w.heap.size w w2) := hb1.trans (hb2.mono hb1.size)
  have hz : w.heap.size ≤ w2.heap.size := HB.out.size
  clear hb1 hb2 htab hc
  go_wp2
  go_ret
  exact ⟨rfl, HB.out.alloc hz _⟩
end Go.Proofs.YthaecjhnlpbfnaaDoor
namespace Go.Proofs.YthaecjhnlpbfnaaDoor
open Go.RowKit

theorem Turns.refl (bb : Nat) (vb : Value) (w : World) : Turns bb vb vb w w := Turns.of (Below.refl _ _)
theorem Turns.trans {bb : Nat} {v0 v1 v2 : Value} {w0 w1 w2 : World} (h : Turns bb v0 v1 w0 w1) (k : Turns bb v1 v2 w1 w2) : Turns bb v0 v2 w0 w2 := by
  refine ⟨Nat.le_trans h.size k.size, k.os.trans h.os, k.tape.trans h.tape, k.output.trans h.output, fun g h1 h2 h3 => ?_, fun g hg => ?_⟩
  · have hs := h.size
    refine (k.block g (by omega) h2 (fun hv => ?_)).trans (h.block g h1 h2 h3)
    rcases h.at' g hv with h4 | h4
    · exact h3 h4
    · omega
  · have hs := h.size
    rcases k.at' g hg with h4 | h4
    · exact h.at' g h4
    · exact .inr (by omega)
/-- What stays, whatever the book does. -/
def Firm (bb : Nat) (vb : Value) (w : World) (P : World → Prop) : Prop := ∀ w' vb', Turns bb vb vb' w w' → P w'
theorem Firm.here {bb : Nat} {vb : Value} {w : World} {P : World → Prop} (h : Firm bb vb w P) : P w := h w vb (Turns.refl _ _ _)
theorem Firm.next {bb : Nat} {vb vb' : Value} {w w' : World} {P : World → Prop} (h : Firm bb vb w P) (t : Turns bb vb vb' w w') : Firm bb vb' w' P := fun _ _ t' => h _ _ (t.trans t')
theorem Firm.below {bb : Nat} {vb : Value} {w w' : World} {P : World → Prop} (h : Firm bb vb w P) (t : Below w.heap.size w w') : Firm bb vb w' P := h.next (Turns.of t)
theorem Firm.block {bb k : Nat} {vb : Value} {w : World} (h1 : k < w.heap.size) (h2 : k ≠ bb) (h3 : vb.ownBlock ≠ some k) : Firm bb vb w (fun w' => w'.heap[k]? = w.heap[k]?) := fun _ _ t => t.block k h1 h2 h3
/-- What lies at blocks of a time at which the book had none of them. -/
theorem Firm.coll {bb B bc bm : Nat} {vb : Value} {w0 w : World} {st : Int} {sh : Bool} {lns : List Tm.Ln} (h : CollOwn w0 B bc bm st sh lns) (hs : w0.heap.size ≤ w.heap.size) (hk : ∀ g, B ≤ g → g < w0.heap.size → w.heap[g]? = w0.heap[g]?) (hbb : bb < B ∨ w0.heap.size ≤ bb) (hvb : ∀ g, vb.ownBlock = some g → g < B ∨ w0.heap.size ≤ g) : Firm bb vb w (fun w' => Coll w' bc bm st sh lns) := fun w' _ t =>
  h w' (Nat.le_trans hs t.size) (fun g h1 h2 => (t.block g (by omega) (by omega) (fun hv => by have := hvb g hv; omega)).trans (hk g h1 h2))
theorem Firm.table {bb B : Nat} {vb vl : Value} {w0 w : World} {lns : List Tm.Ln} (h : TableOwn w0 B vl lns) (hs : w0.heap.size ≤ w.heap.size) (hk : ∀ g, B ≤ g → g < w0.heap.size → w.heap[g]? = w0.heap[g]?) (hbb : bb < B ∨ w0.heap.size ≤ bb) (hvb : ∀ g, vb.ownBlock = some g → g < B ∨ w0.heap.size ≤ g) : Firm bb vb w (fun w' => TableRd w' vl lns) := fun w' _ t =>
  h w' (Nat.le_trans hs t.size) (fun g h1 h2 => (t.block g (by omega) (by omega) (fun hv => by have := hvb g hv; omega)).trans (hk g h1 h2))
theorem Turns.below {bb B : Nat} {vb vb' : Value} {w w' : World} (t : Turns bb vb vb' w w') (hB : B ≤ w.heap.size) (hbb : B ≤ bb) (hvb : ∀ g, vb.ownBlock = some g → B ≤ g) : Below B w w' :=
  ⟨t.os, t.tape, t.output, t.size, fun k hk => t.block k (by omega) (by omega) (fun hv => by have := hvb k hv; omega)⟩
/-- A new book. -/
theorem BookIs.new {w : World} {B : Nat} (hB : B ≤ w.heap.size) : BookIs (w.alloc (.cells #[.slice none 0 0, .slice none 0 0, .slice none 0 0, .slice none 0 0] 43)) w.heap.size B (.slice none 0 0) [] := by
  refine ⟨by simp, hB, by rw [cell_new rfl]; rfl, frozen_new rfl 0, fun o ho => ?_, World.ownsRow_nil _ _ _ _, (fun g hg => by cases hg), rfl, fun i u hu => by simp at hu⟩
  rcases ho with rfl | rfl | rfl <;> (rw [cell_new rfl]; rfl)
theorem newTable_ends {s : List UInt8} {st : Int} {lns : List Tm.Ln} (h : Tm.newTable s st = (lns, 0, 0)) (r : Int) : Tm.ends lns 4 r = true := by
  refine Tm.ends_all ?_ r
  unfold Tm.newTable at h
  split at h
  · simp at h
  · split at h
    · simp at h
    · split at h
      · rename_i n e heq
        simp at h
        exact absurd h.2.2 (readLines_err _ _ _ _ _ _ heq)
      · rename_i heq
        injection h with h1 h2
        subst h1
        exact congrArg Prod.snd h2
end Go.Proofs.YthaecjhnlpbfnaaDoor
/-
  A slice of texts that came in.
-/
namespace Go.Proofs.YthaecjhnlpbfnaaDoor
open Go.RowKit

/-- The texts, as the slice of strings reads. -/
def strs (l : List ByteArray) : List Value := l.map Value.string
theorem strs_length (l : List ByteArray) : (strs l).length = l.length := by simp [strs]
theorem strs_get {l : List ByteArray} {k : Nat} (h : k < l.length) : (strs l)[k]? = some (.string l[k]) := by simp [strs, h]
/-- A slice value reads as texts. -/
def TextsRd (w : World) (v : Value) (texts : List ByteArray) : Prop := ∃ a cap, v = .slice a texts.length cap ∧ (0 < texts.length → Reads w v 1 texts.length (strs texts))
end Go.Proofs.YthaecjhnlpbfnaaDoor
