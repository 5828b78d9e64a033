import Derived.Test.YtmnjjjhmnhfapaaDoorMLawBook
import Derived.Test.YtmnjjjhmnhfapaaDoorMLawSame
import Derived.Test.YtmnjjjhmnhfapaaDoorMCodeNormal
import Derived.Test.YtmnjjjhmnhfapaaDoorMCodeNew
import Derived.Test.YtmnjjjhmnhfapaaDoorMRefNormalW
namespace Go.Proofs.YtmnjjjhmnhfapaaDoor
open Go.RowKit

theorem norm_short {lns : List Tm.Ln} (hf : ∀ o ∈ lns, Tm.Fit o) {s : ByteArray} (hs : s.size ≤ 64) : (normOf lns s).length ≤ 1024 := by
  have hl3 : ∀ o ∈ lns, o.runes.length ≤ 3 := fun o ho => (hf o ho).few
  have h1 := Tm.flat_short (lns := lns) (parts_short hl3) 4 (runesOf s)
  have h2 := runesFrom_short (s := s) (f := s.size) (pos := 0)
  have h3 : (runesOf s).length ≤ 64 := by unfold runesOf; omega
  have h4 := Nat.mul_le_mul_right (2 ^ 4) h3
  rw [normOf, Tm.ord_length]
  omega

/-- What a step of the book turns: its own block and its row alone. -/
structure Turns (bb : Nat) (vb vb' : Value) (w w' : World) : Prop where
  size : w.heap.size ≤ w'.heap.size
  os : w'.os = w.os
  tape : w'.tape = w.tape
  output : w'.output = w.output
  block : ∀ k, k < w.heap.size → k ≠ bb → vb.ownBlock ≠ some k → w'.heap[k]? = w.heap[k]?
  at' : ∀ g, vb'.ownBlock = some g → vb.ownBlock = some g ∨ w.heap.size ≤ g
theorem Turns.of {bb : Nat} {vb : Value} {w w' : World} (h : Below w.heap.size w w') : Turns bb vb vb w w' :=
  ⟨h.size, h.os, h.tape, h.output, fun k hk _ _ => h.block k hk, fun _ hg => .inl hg⟩

set_option maxRecDepth 100000 in
set_option maxHeartbeats 2000000 in
theorem bookNormal_any (lns : List Tm.Ln) (bc bm bb B : Nat) (st st' : Int) (sh sh' : Bool) (vb vl : Value) (rows : List Value) (s : ByteArray) (w : World) (hcoll : Coll w bc bm st sh lns) (ht : TableRd w vl lns) (hends : ∀ r, Tm.ends lns 4 r = true) (hbook : BookIs w bb B vb rows) (hrows : rows.length ≤ 90000000) :
    Calls Tryd.prog 12 #[.pointer (some ⟨bb, 0, none⟩), .pointer (some ⟨bc, 0, none⟩), .agg #[vl, .int .i64 st', .bool sh'], .string s] w fun e w' => e = .returned (.bool true) ∧ ∃ vb' rows', BookIs w' bb B vb' rows' ∧ rows'.length ≤ rows.length + 4 ∧ Turns bb vb vb' w w' := by
  obtain ⟨a, cap, rfl⟩ := ht.shape
  have HCOLL := hide hcoll
  have HT := hide ht
  have HENDS := hide hends
  have HBK := hide hbook
  obtain ⟨W, hW⟩ : ∃ W, w.alloc (.cells #[.slice a lns.length cap, .int .i64 st', .bool sh'] 28) = W := ⟨_, rfl⟩
  have hb0 : Below w.heap.size w W := by rw [← hW]; exact (Below.refl _ _).alloc (Nat.le_refl _) _
  have hz0 : W.heap.size = w.heap.size + 1 := by rw [← hW]; simp
  have k0 : W.cell? ⟨w.heap.size, 0, none⟩ = some (.slice a lns.length cap) := by rw [← hW, cell_new rfl]; rfl
  have k1 : W.cell? ⟨w.heap.size, 1, none⟩ = some (.int .i64 st') := by rw [← hW, cell_new rfl]; rfl
  have k2 : W.cell? ⟨w.heap.size, 2, none⟩ = some (.bool sh') := by rw [← hW, cell_new rfl]; rfl
  have HB0 := hide hb0
  have hn := norm_short hcoll.fit (s := s)
  have HC0 := hide (hcoll.below hb0)
  have HT0 := hide (ht.below hb0)
  clear hcoll ht hends hbook hb0
  go_enter Tryd.func12, Tryd.ntmps12
  go_wp2_with fail
  refine (Normal_any lns HC0.out.fit HENDS.out bc bm s _ HC0.out.c0 HC0.out.rd).mono ?_
  rintro e w1 hans
  by_cases hs : s.size ≤ 64
  · rw [normAns, if_pos hs] at hans
    obtain ⟨v, rfl, hown, hb1⟩ := hans
    have hd : decide (64 < (s.size : Int)) = false := by simp <;> omega
    have hn := hn hs
    obtain ⟨av, capv, rfl⟩ := (Reads.of_owns hown).shape
    have hz1 := hb1.size
    rw [← (bcell hb1).1 _ _ (by omega)] at k0 k1 k2
    have HB1 : Hid (Below w.heap.size w w1) := HB0.out.trans (hb1.mono (by omega))
    have HO1 := hide (owns_mono (base' := w.heap.size) hown (by omega))
    have HT1 := hide (HT0.out.below hb1)
    clear hown hb1
    go_wp2_with fail
    refine (RefNormal_any _ st' sh' s lns _ HT1.out HC0.out.fit (by have := HC0.out.few; omega) HENDS.out hs).mono ?_
    rintro e w2 ⟨v2, rfl, hr2, hb2⟩
    obtain ⟨a2, cap2, rfl⟩ := hr2.shape
    have hz2 := hb2.size
    have HB2 : Hid (Below w.heap.size w w2) := HB1.out.trans (hb2.mono (by omega))
    have HO2 : Hid (w2.ownsRow w.heap.size 3 1 (.slice av (normOf lns s).length capv) (normOf lns s).length (ints (normOf lns s))) := ownsRow_same HO1.out (fun g hg => hb2.block g (HO1.out.lt g hg).2)
    have HR2 := hide hr2
    clear hb2 hr2 k0 k1 k2
    go_wp2_with fail
    refine (lawSame_any _ _ (normOf lns s) (normOf lns s) _ (Reads.of_owns HO2.out) HR2.out (by omega) (by omega)).mono ?_
    rintro e w3 ⟨rfl, q, rfl⟩
    have hz3 : w.heap.size ≤ w2.heap.size := by omega
    go_wp2_with fail
    refine (keepInts_any bb B w.heap.size vb _ rows (normOf lns s) (w2.drewN q) ?_ ?_ ?_ (by exact HO2.out) HBK.out.lt (fun g hg => ⟨(HBK.out.row.lt g hg).2, HBK.out.other g hg⟩) hz3 (by have := HBK.out.lt; have := HBK.out.le; omega) (by omega) (by omega)).mono ?_
    · exact (HBK.out.stay HB2.out).cell
    · exact (HBK.out.stay HB2.out).free
    · exact (HBK.out.stay HB2.out).row
    rintro e w4 ⟨rfl, vb', v1, v2, v3, hk⟩
    have HBK4 := hide (HBK.out.kept (w := w2.drewN q) ⟨HB2.out.os, HB2.out.tape, HB2.out.output, HB2.out.size, HB2.out.block⟩ hk (by omega))
    have HTU : Hid (Turns bb vb vb' w w4) := ⟨Nat.le_trans hz3 hk.size, hk.os.trans HB2.out.os, hk.tape.trans HB2.out.tape, hk.output.trans HB2.out.output, fun k h1 h2 h3 => (hk.block k h1 h2 h3).trans (HB2.out.block k h1), fun g hg => (hk.at' g hg).imp id (fun h => Nat.le_trans hz3 h)⟩
    clear hk
    go_wp2
    go_ret
    exact ⟨ret_bool (by simp), vb', _, HBK4.out, by simp, HTU.out⟩
  · rw [normAns, if_neg hs] at hans
    obtain ⟨rfl, rfl⟩ := hans
    have hd : decide (64 < (s.size : Int)) = true := by simp <;> omega
    go_wp2
    go_ret
    exact ⟨rfl, vb, rows, HBK.out.stay HB0.out, by omega, Turns.of HB0.out⟩
end Go.Proofs.YtmnjjjhmnhfapaaDoor
