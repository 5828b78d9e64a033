import Derived.Test.YtmnjjjhmnhfapaaGreatDoorMLawAsked
import Derived.Test.YtmnjjjhmnhfapaaGreatDoorMLawPlain
namespace Go.Proofs.YtmnjjjhmnhfapaaGreatDoor
open Go.RowKit
structure Opn where
 kind : Int
 ix : Int
 key : ByteArray
 val : ByteArray
 n : Int
 lim : Int
 a : Option Addr
 m : Nat
 c : Nat
structure Opn.Ok (o : Opn) : Prop where
 ix : -9223372036854775808 ≤ o.ix ∧ o.ix ≤ 9223372036854775807
 n : -9223372036854775808 ≤ o.n ∧ o.n ≤ 9223372036854775807
 lim : -9223372036854775808 ≤ o.lim ∧ o.lim ≤ 9223372036854775807
structure OpAt (w : World) (g q : Nat) (o : Opn) : Prop where
 lt : g < w.heap.size
 c0 : w.cell? ⟨g, q, none⟩ = some (.int .i64 o.kind)
 c1 : w.cell? ⟨g, q + 1, none⟩ = some (.int .i64 o.ix)
 c2 : w.cell? ⟨g, q + 2, none⟩ = some (.string o.key)
 c3 : w.cell? ⟨g, q + 3, none⟩ = some (.string o.val)
 c4 : w.cell? ⟨g, q + 4, none⟩ = some (.int .i64 o.n)
 c5 : w.cell? ⟨g, q + 5, none⟩ = some (.int .i64 o.lim)
 c6 : w.cell? ⟨g, q + 6, none⟩ = some (.slice o.a o.m o.c)
theorem OpAt.of {w w' : World} {g q : Nat} {o : Opn} (h : OpAt w g q o) (hs : w.heap.size ≤ w'.heap.size) (hk : w'.heap[g]? = w.heap[g]?) : OpAt w' g q o := by
 have hc : ∀ j, w'.cell? ⟨g, j, none⟩ = w.cell? ⟨g, j, none⟩ := fun j => World.cell?_of_block (a := ⟨g, j, none⟩) hk
 exact ⟨Nat.lt_of_lt_of_le h.lt hs, by rw [hc]; exact h.c0, by rw [hc]; exact h.c1, by rw [hc]; exact h.c2, by rw [hc]; exact h.c3, by rw [hc]; exact h.c4, by rw [hc]; exact h.c5, by rw [hc]; exact h.c6⟩
def OpsRd (w : World) (a : Option Addr) (n : Nat) : Prop := ∀ k, k < n → ∃ g off o, a = some ⟨g, off, none⟩ ∧ OpAt w g (off + k * 7) o ∧ o.Ok
theorem Kit.is_of {w1 w2 w : World} {X bw B C bc bm : Nat} {s : List UInt8} {st : Int} {sh : Bool} {lns : List Tm.Ln} {vl : Value} (hc : CollOwn w1 B bc bm st sh lns) (ht : TableOwn w2 C vl lns) (he : Tm.newTable s st = (lns, 0, 0))
  (h1 : w1.heap.size ≤ X) (h2 : w2.heap.size ≤ X) (h1b : bw < B ∨ w1.heap.size ≤ bw) (h2b : bw < C ∨ w2.heap.size ≤ bw) (hX : X ≤ w.heap.size) (k1 : ∀ g, B ≤ g → g < w1.heap.size → w.heap[g]? = w1.heap[g]?) (k2 : ∀ g, C ≤ g → g < w2.heap.size → w.heap[g]? = w2.heap[g]?) : KitIs X bw ⟨bc, bm, vl, st, sh, lns⟩ w := by
 intro w' hs hk
 exact ⟨hc w' (by omega) (fun g g1 g2 => (hk g (by omega) (by omega)).trans (k1 g g1 g2)), ht w' (by omega) (fun g g1 g2 => (hk g (by omega) (by omega)).trans (k2 g g1 g2)), hc.here.fit, by have := hc.here.few; show lns.length ≤ 1000000; omega, TableOk.of he (newTable_ends he)⟩
structure Wrote (w W : World) (b : Nat) : Prop where
 size : W.heap.size = w.heap.size
 block : ∀ g, g ≠ b → W.heap[g]? = w.heap[g]?
 frozen : ∀ o, W.frozen? ⟨b, o, none⟩ = w.frozen? ⟨b, o, none⟩
 os : W.os = w.os
 tape : W.tape = w.tape
 output : W.output = w.output
theorem Wrote.below {w W : World} {b B : Nat} (h : Wrote w W b) (hb : B ≤ b) : Below B w W :=
 ⟨h.os, h.tape, h.output, Nat.le_of_eq h.size.symm, fun g hg => h.block g (by omega)⟩
theorem put1 (w : World) {b o : Nat} (v : Value) {u : Value} (h : w.cell? ⟨b, o, none⟩ = some u) : ∃ W, w.setCell ⟨b, o, none⟩ v = W ∧ Wrote w W b ∧ W.cell? ⟨b, o, none⟩ = some v ∧ ∀ q, q ≠ o → W.cell? ⟨b, q, none⟩ = w.cell? ⟨b, q, none⟩ :=
 ⟨_, rfl, ⟨by simp [World.setCell], fun g hg => Below.heap_setCell _ _ _ _ hg, fun _ => World.frozen?_setCell _ _ _ _, rfl, rfl, rfl⟩, World.cell?_setCell_same _ _ _ h, fun q hq => World.cell?_setCell_other _ _ _ _ (by intro e; cases e; exact hq rfl)⟩
theorem Wrote.trans {w w1 w2 : World} {b : Nat} (h : Wrote w w1 b) (k : Wrote w1 w2 b) : Wrote w w2 b :=
 ⟨k.size.trans h.size, fun g hg => (k.block g hg).trans (h.block g hg), fun o => (k.frozen o).trans (h.frozen o), k.os.trans h.os, k.tape.trans h.tape, k.output.trans h.output⟩
theorem put3 (w : World) {b o0 o1 o2 : Nat} (v0 v1 v2 : Value) {u0 u1 u2 : Value} (h0 : w.cell? ⟨b, o0, none⟩ = some u0) (h1 : w.cell? ⟨b, o1, none⟩ = some u1) (h2 : w.cell? ⟨b, o2, none⟩ = some u2) (n01 : o0 ≠ o1) (n02 : o0 ≠ o2) (n12 : o1 ≠ o2) :
  ∃ W, ((w.setCell ⟨b, o0, none⟩ v0).setCell ⟨b, o1, none⟩ v1).setCell ⟨b, o2, none⟩ v2 = W ∧ Wrote w W b ∧ W.cell? ⟨b, o0, none⟩ = some v0 ∧ W.cell? ⟨b, o1, none⟩ = some v1 ∧ W.cell? ⟨b, o2, none⟩ = some v2 ∧ ∀ q, q ≠ o0 → q ≠ o1 → q ≠ o2 → W.cell? ⟨b, q, none⟩ = w.cell? ⟨b, q, none⟩ := by
 obtain ⟨W1, e1, r1, s1, t1⟩ := put1 w v0 h0
 obtain ⟨W2, e2, r2, s2, t2⟩ := put1 W1 v1 ((t1 o1 (Ne.symm n01)).trans h1)
 obtain ⟨W3, e3, r3, s3, t3⟩ := put1 W2 v2 ((t2 o2 (Ne.symm n12)).trans ((t1 o2 (Ne.symm n02)).trans h2))
 refine ⟨W3, by rw [e1, e2, e3], (r1.trans r2).trans r3, ?_, ?_, s3, fun q q0 q1 q2 => by rw [t3 q q2, t2 q q1, t1 q q0]⟩
 ·rw [t3 o0 n02, t2 o0 n01, s1]
 ·rw [t3 o1 n12, s2]
theorem Wd.new {w : World} {X bw : Nat} {K1 K2 : Kit} (c1 : KitCells w bw 0 K1) (c2 : KitCells w bw 4 K2) (hm : w.cell? ⟨bw, 13, none⟩ = some (.int .i64 5)) (hc : ∀ o, 8 ≤ o → o ≤ 12 → w.cell? ⟨bw, o, none⟩ = some (.slice none 0 0)) (hf : ∀ o, w.frozen? ⟨bw, o, none⟩ = false) (k1 : KitIs X bw K1 w) (k2 : KitIs X bw K2 w) (hb : bw < X) (hX : X ≤ w.heap.size) : Wd w X bw K1 K2 (fun _ => False) (.slice none 0 0) [] (.slice none 0 0) [] 0 :=
 ⟨⟨fun _ e => e.elim, by omega, hc 11 (by omega) (by omega), hf 11, fun o ho => hc o (by omega) (by omega), World.ownsRow_nil _ _ _ _, fun g e => (by cases e), rfl, fun i u h => (by simp at h)⟩, c1, c2, hm, hc 8 (by omega) (by omega), hf, World.ownsRow_nil _ _ _ _, fun g e => (by cases e), k1, k2, fun p hp => (by cases hp), fun p hp => (by cases hp), List.Pairwise.nil, fun p hp => (by cases hp), hb, hX⟩
def UpInv (X bw : Nat) (K1 K2 : Kit) (W7 wr : World) (k : Nat) : Prop := ∃ SB vb rows vp ps, Wd wr X bw K1 K2 SB vb rows vp ps k ∧ rows.length ≤ 4 * k ∧ ps.length ≤ k ∧ (k = 0 ∨ 0 < ps.length) ∧ Foot (fun i => X ≤ i ∨ i = bw) W7 wr
theorem UpInv.step {X bw : Nat} {K1 K2 : Kit} {W7 wr : World} {k : Nat} (h : UpInv X bw K1 K2 W7 wr k) (hk : k ≤ 20000000) (o : Opn) (ho : o.Ok) (h0 : k = 0 → o.kind = 1) :
  Calls Tryz.prog 53 #[.pointer (some ⟨bw, 0, none⟩), .agg #[.int .i64 o.kind, .int .i64 o.ix, .string o.key, .string o.val, .int .i64 o.n, .int .i64 o.lim, .slice o.a o.m o.c]] wr fun e w' => e = .returned (.bool true) ∧ Hid (UpInv X bw K1 K2 W7 w' (k + 1)) := by
 obtain ⟨SB, vb, rows, vp, ps, hw, h1, h2, h3, hf⟩ := h
 refine (step_any X bw K1 K2 SB vb rows vp ps k o.kind o.ix o.n o.lim o.key o.val o.a o.m o.c wr hw ho.ix ho.n ho.lim (h3.imp h0 id) (by omega) (by omega) (by omega)).mono ?_
 rintro e w' ⟨rfl, SB', vb', rows', vp', ps', hw', r1, r2, r3, hf'⟩
 exact ⟨rfl, SB', vb', rows', vp', ps', hw', by omega, by omega, .inr r2, hf.trans hf' (fun i e => .inl e)⟩
theorem UpInv.whole {X bw : Nat} {K1 K2 : Kit} {W7 wr : World} {k : Nat} (h : UpInv X bw K1 K2 W7 wr k) (hk : k ≤ 20000000) :
  Calls Tryz.prog 16 #[.pointer (some ⟨bw, 9, none⟩)] wr fun e w' => e = .returned (.bool true) ∧ Hid (UpInv X bw K1 K2 W7 w' k) := by
 obtain ⟨SB, vb, rows, vp, ps, hw, h1, h2, h3, hf⟩ := h
 refine (wholeN_any bw 9 X SB vb rows wr hw.book (by omega)).mono ?_
 rintro e w' ⟨rfl, hb⟩
 exact ⟨rfl, SB, vb, rows, vp, ps, hw.below hb, h1, h2, h3, hf.trans (Foot.of hb) (fun i e => .inl e)⟩
theorem UpInv.asked {X bw : Nat} {K1 K2 : Kit} {W7 wr : World} {k : Nat} (h : UpInv X bw K1 K2 W7 wr k) (hk : k ≤ 10000010) :
  Calls Tryz.prog 54 #[.pointer (some ⟨bw, 0, none⟩)] wr fun e w' => e = .returned (.bool true) ∧ Hid (Foot (fun i => X ≤ i ∨ i = bw) W7 w') := by
 obtain ⟨SB, vb, rows, vp, ps, hw, h1, h2, h3, hf⟩ := h
 refine (asked_any X bw K1 K2 SB vb rows vp ps k wr hw (by omega) (by omega)).mono ?_
 rintro e w' ⟨rfl, hf'⟩
 exact ⟨rfl, hf.trans hf' (fun i e => .inl e)⟩
theorem UpInv.lt {X bw : Nat} {K1 K2 : Kit} {W7 wr : World} {k : Nat} (h : UpInv X bw K1 K2 W7 wr k) : bw < wr.heap.size := by
 obtain ⟨SB, vb, rows, vp, ps, hw, _⟩ := h
 exact hw.book.lt
theorem UpInv.op {X bw : Nat} {K1 K2 : Kit} {W7 wr : World} {k g q : Nat} {o : Opn} (h : UpInv X bw K1 K2 W7 wr k) (ho : OpAt W7 g q o) (hg : g < X) (hg2 : g ≠ bw) : OpAt wr g q o := by
 obtain ⟨SB, vb, rows, vp, ps, hw, h1, h2, h3, hf⟩ := h
 exact ho.of hf.size (hf.block g ho.lt (fun e => by omega))
theorem firstOps {w W : World} (h : w.alloc (.cells #[.int .i64 1, .int .i64 0, .string ⟨#[]⟩, .string ⟨#[]⟩, .int .i64 1, .int .i64 0, .slice none 0 0, .int .i64 2, .int .i64 0, .string ⟨#[195, 161]⟩, .string ⟨#[49]⟩, .int .i64 0, .int .i64 0, .slice none 0 0, .int .i64 4, .int .i64 0, .string ⟨#[97, 204, 129]⟩, .string ⟨#[]⟩, .int .i64 0, .int .i64 0, .slice none 0 0] 110) = W) (k : Nat) (hk : k < 3) : ∃ o, OpAt W w.heap.size (k * 7) o ∧ o.Ok ∧ (k = 0 → o.kind = 1) := by
 have hlt : w.heap.size < W.heap.size := by rw [← h]; simp
 have h012 : k = 0 ∨ k = 1 ∨ k = 2 := by omega
 rcases h012 with rfl | rfl | rfl
 ·exact ⟨⟨1, 0, ⟨#[]⟩, ⟨#[]⟩, 1, 0, none, 0, 0⟩, ⟨hlt, by rw [← h, cell_new rfl]; rfl, by rw [← h, cell_new rfl]; rfl, by rw [← h, cell_new rfl]; rfl, by rw [← h, cell_new rfl]; rfl, by rw [← h, cell_new rfl]; rfl, by rw [← h, cell_new rfl]; rfl, by rw [← h, cell_new rfl]; rfl⟩, ⟨by decide, by decide, by decide⟩, fun _ => rfl⟩
 ·exact ⟨⟨2, 0, ⟨#[195, 161]⟩, ⟨#[49]⟩, 0, 0, none, 0, 0⟩, ⟨hlt, by rw [← h, cell_new rfl]; rfl, by rw [← h, cell_new rfl]; rfl, by rw [← h, cell_new rfl]; rfl, by rw [← h, cell_new rfl]; rfl, by rw [← h, cell_new rfl]; rfl, by rw [← h, cell_new rfl]; rfl, by rw [← h, cell_new rfl]; rfl⟩, ⟨by decide, by decide, by decide⟩, fun e => by omega⟩
 ·exact ⟨⟨4, 0, ⟨#[97, 204, 129]⟩, ⟨#[]⟩, 0, 0, none, 0, 0⟩, ⟨hlt, by rw [← h, cell_new rfl]; rfl, by rw [← h, cell_new rfl]; rfl, by rw [← h, cell_new rfl]; rfl, by rw [← h, cell_new rfl]; rfl, by rw [← h, cell_new rfl]; rfl, by rw [← h, cell_new rfl]; rfl, by rw [← h, cell_new rfl]; rfl⟩, ⟨by decide, by decide, by decide⟩, fun e => by omega⟩
set_option maxRecDepth 100000 in
set_option maxHeartbeats 8000000 in
theorem UpTo_any (s : ByteArray) (st : Int) (sh : Bool) (a : Option Addr) (n c : Nat) (w : World) (hs : s.size ≤ maxLen) (hops : OpsRd w a n) (hn : n ≤ 10000000) :
  Calls Tryz.prog 17 #[.string s, .agg #[.int .i64 st, .bool sh], .slice a n c, .int .i64 5] w fun e w' => e = .returned (.int .i64 (-1)) ∧ Below w.heap.size w w' := by
 have HOPS := hide hops
 clear hops
 go_enter Tryz.func17, Tryz.ntmps17
 go_wp2_with fail
 refine (plain_any new_said _).mono ?_
 rintro e w1 ⟨ax, rfl, hKx, hb1⟩
 obtain ⟨bx, bmx, lnsx, rfl, hCx, hEx⟩ := hKx _ rfl
 have HCX := hide hCx
 have HEX := hide hEx
 have HB1 := hide hb1
 have hz1 := hb1.size
 clear hKx hCx hEx hb1
 go_wp2_with fail
 refine (example_any _).mono ?_
 rintro e w1' ⟨rfl, rfl⟩
 have hz1' : w.heap.size + 1 ≤ w1.heap.size := by simpa using hz1
 obtain ⟨bw, hbw⟩ : ∃ bw, w1.heap.size = bw := ⟨_, rfl⟩
 obtain ⟨Wa, hWa⟩ : ∃ Wa, w1.alloc (.cells #[.pointer none, .slice none 0 0, .int .i64 0, .bool false, .pointer (some ⟨bx, 0, none⟩), .slice none 0 0, .int .i64 0, .bool false, .slice none 0 0, .slice none 0 0, .slice none 0 0, .slice none 0 0, .slice none 0 0, .int .i64 5] 108) = Wa := ⟨_, rfl⟩
 have HBa : Hid (Below bw w1 Wa) := by unfold Hid; rw [← hWa, ← hbw]; exact (Below.refl _ _).alloc (Nat.le_refl _) _
 have hza : Wa.heap.size = bw + 1 := by rw [← hWa, ← hbw]; simp
 have HCa : Hid (∀ j v, [.pointer none, .slice none 0 0, .int .i64 0, .bool false, .pointer (some ⟨bx, 0, none⟩), .slice none 0 0, .int .i64 0, .bool false, .slice none 0 0, .slice none 0 0, .slice none 0 0, .slice none 0 0, .slice none 0 0, .int .i64 5][j]? = some v → Wa.cell? ⟨bw, j, none⟩ = some v) := fun j v h => by
  rw [← hWa, cell_new hbw.symm]
  simpa using h
 have HFa : Hid (∀ o, Wa.frozen? ⟨bw, o, none⟩ = false) := fun o => by rw [← hWa, frozen_new hbw.symm]
 rw [hWa, hbw]
 clear hWa
 go_wp2_with fail
 refine (RefNew_any ⟨exText.toArray⟩ 3 false _ (by unfold maxLen; decide)).mono ?_
 rintro e w2 ⟨⟨vlx, rfl, hTx, hgx, hlx, hbx⟩, hb2⟩
 rw [HEX.out] at hTx hgx hlx ⊢
 obtain ⟨ax', capx', rfl⟩ := hTx.rd.shape
 have HTX2 := hide hTx
 have HB2 := hide hb2
 have hz2 := hb2.size
 have hC2 : ∀ j v, [.pointer none, .slice none 0 0, .int .i64 0, .bool false, .pointer (some ⟨bx, 0, none⟩), .slice none 0 0, .int .i64 0, .bool false, .slice none 0 0, .slice none 0 0, .slice none 0 0, .slice none 0 0, .slice none 0 0, .int .i64 5][j]? = some v → w2.cell? ⟨bw, j, none⟩ = some v := fun j v h => by
  rw [hb2.cell (p := ⟨bw, j, none⟩) (by show bw < Wa.heap.size; omega)]; exact HCa.out j v h
 have HC2 := hide hC2
 have HF2 : Hid (∀ o, w2.frozen? ⟨bw, o, none⟩ = false) := fun o => by rw [hb2.frozen (p := ⟨bw, o, none⟩) (by show bw < Wa.heap.size; omega)]; exact HFa.out o
 have x5 := hC2 5 _ rfl
 have x6 := hC2 6 _ rfl
 have x7 := hC2 7 _ rfl
 have f5 := HF2.out 5
 have f6 := HF2.out 6
 have f7 := HF2.out 7
 have o0 : w2.cell? ⟨w.heap.size, 0, none⟩ = some (.int .i64 st) := by
  rw [hb2.cell (p := ⟨w.heap.size, 0, none⟩) (by show w.heap.size < Wa.heap.size; omega), HBa.out.cell (p := ⟨w.heap.size, 0, none⟩) (by show w.heap.size < bw; omega), HB1.out.cell (p := ⟨w.heap.size, 0, none⟩) (by simp), cell_new rfl]; rfl
 have o1 : w2.cell? ⟨w.heap.size, 1, none⟩ = some (.bool sh) := by
  rw [hb2.cell (p := ⟨w.heap.size, 1, none⟩) (by show w.heap.size < Wa.heap.size; omega), HBa.out.cell (p := ⟨w.heap.size, 1, none⟩) (by show w.heap.size < bw; omega), HB1.out.cell (p := ⟨w.heap.size, 1, none⟩) (by simp), cell_new rfl]; rfl
 clear hTx hgx hlx hbx hb2 hC2
 go_wp2_with fail
 obtain ⟨W3, hW3, hwr3, y5, y6, y7, hoth3⟩ := put3 w2 (.slice ax' lnsx.length capx') (.int .i64 3) (.bool false) x5 x6 x7 (by omega) (by omega) (by omega)
 rw [hW3]
 have HWR3 := hide hwr3
 have HOT3 := hide hoth3
 have hz3 := hwr3.size
 clear hW3 hwr3 hoth3 x5 x6 x7 f5 f6 f7 o0 o1
 refine (opens_any new_said s st sh _ hs).mono ?_
 rintro e w4 ⟨⟨cc, vl, rfl, hcc, hT4, hgd, hln, hvb, hK4⟩, hb4⟩
 obtain ⟨al, capl, rfl⟩ := hT4.rd.shape
 have HT4 := hide hT4
 have HB4 := hide hb4
 have HK4 := hide hK4
 have HCC := hide hcc
 have hz4 := hb4.size
 have hC4 : ∀ j v, j ≠ 5 → j ≠ 6 → j ≠ 7 → [.pointer none, .slice none 0 0, .int .i64 0, .bool false, .pointer (some ⟨bx, 0, none⟩), .slice none 0 0, .int .i64 0, .bool false, .slice none 0 0, .slice none 0 0, .slice none 0 0, .slice none 0 0, .slice none 0 0, .int .i64 5][j]? = some v → w4.cell? ⟨bw, j, none⟩ = some v := fun j v j5 j6 j7 h => by
  rw [hb4.cell (p := ⟨bw, j, none⟩) (by show bw < W3.heap.size; omega), HOT3.out j j5 j6 j7]; exact HC2.out j v h
 have HC4 := hide hC4
 have HF4 : Hid (∀ o, w4.frozen? ⟨bw, o, none⟩ = false) := fun o => by rw [hb4.frozen (p := ⟨bw, o, none⟩) (by show bw < W3.heap.size; omega), HWR3.out.frozen]; exact HF2.out o
 have HY : Hid (w4.cell? ⟨bw, 5, none⟩ = some (.slice ax' lnsx.length capx') ∧ w4.cell? ⟨bw, 6, none⟩ = some (.int .i64 3) ∧ w4.cell? ⟨bw, 7, none⟩ = some (.bool false)) := by
  unfold Hid
  rw [hb4.cell (p := ⟨bw, 5, none⟩) (by show bw < W3.heap.size; omega), hb4.cell (p := ⟨bw, 6, none⟩) (by show bw < W3.heap.size; omega), hb4.cell (p := ⟨bw, 7, none⟩) (by show bw < W3.heap.size; omega)]
  exact ⟨y5, y6, y7⟩
 clear hT4 hb4 hK4 hcc hgd hln hvb y5 y6 y7 hC4
 obtain ⟨W5, hW5⟩ : ∃ W5, w4.alloc (.cells #[.slice al (Tm.newTable s.data.toList st).1.length capl, .int .i64 st, .bool sh] 29) = W5 := ⟨_, rfl⟩
 have hz5 : W5.heap.size = w4.heap.size + 1 := by rw [← hW5]; simp
 have hB5 : Below w4.heap.size w4 W5 := by rw [← hW5]; exact (Below.refl _ _).alloc (Nat.le_refl _) _
 have HB5 := hide hB5
 have hc5 : ∀ j, W5.cell? ⟨bw, j, none⟩ = w4.cell? ⟨bw, j, none⟩ := fun j => hB5.cell (p := ⟨bw, j, none⟩) (by show bw < w4.heap.size; omega)
 have hf5 : ∀ j, W5.frozen? ⟨bw, j, none⟩ = false := fun j => by rw [hB5.frozen (p := ⟨bw, j, none⟩) (by show bw < w4.heap.size; omega)]; exact HF4.out j
 have x0 : W5.cell? ⟨bw, 0, none⟩ = some (.pointer none) := by rw [hc5]; exact HC4.out 0 _ (by omega) (by omega) (by omega) rfl
 have x1 : W5.cell? ⟨bw, 1, none⟩ = some (.slice none 0 0) := by rw [hc5]; exact HC4.out 1 _ (by omega) (by omega) (by omega) rfl
 have x2 : W5.cell? ⟨bw, 2, none⟩ = some (.int .i64 0) := by rw [hc5]; exact HC4.out 2 _ (by omega) (by omega) (by omega) rfl
 have x3 : W5.cell? ⟨bw, 3, none⟩ = some (.bool false) := by rw [hc5]; exact HC4.out 3 _ (by omega) (by omega) (by omega) rfl
 have x4 : W5.cell? ⟨bw, 4, none⟩ = some (.pointer (some ⟨bx, 0, none⟩)) := by rw [hc5]; exact HC4.out 4 _ (by omega) (by omega) (by omega) rfl
 have x5 : W5.cell? ⟨bw, 5, none⟩ = some (.slice ax' lnsx.length capx') := by rw [hc5]; exact HY.out.1
 have x6 : W5.cell? ⟨bw, 6, none⟩ = some (.int .i64 3) := by rw [hc5]; exact HY.out.2.1
 have x7 : W5.cell? ⟨bw, 7, none⟩ = some (.bool false) := by rw [hc5]; exact HY.out.2.2
 have t0 : W5.cell? ⟨w4.heap.size, 0, none⟩ = some (.slice al (Tm.newTable s.data.toList st).1.length capl) := by rw [← hW5, cell_new rfl]; rfl
 have t1 : W5.cell? ⟨w4.heap.size, 1, none⟩ = some (.int .i64 st) := by rw [← hW5, cell_new rfl]; rfl
 have t2 : W5.cell? ⟨w4.heap.size, 2, none⟩ = some (.bool sh) := by rw [← hW5, cell_new rfl]; rfl
 have f0 := hf5 0
 have f1 := hf5 1
 have f2 := hf5 2
 have f3 := hf5 3
 have HF5 := hide hf5
 have HCM5 : Hid (∀ o v, 8 ≤ o → [.pointer none, .slice none 0 0, .int .i64 0, .bool false, .pointer (some ⟨bx, 0, none⟩), .slice none 0 0, .int .i64 0, .bool false, .slice none 0 0, .slice none 0 0, .slice none 0 0, .slice none 0 0, .slice none 0 0, .int .i64 5][o]? = some v → W5.cell? ⟨bw, o, none⟩ = some v) := fun o v ho h => by rw [hc5]; exact HC4.out o v (by omega) (by omega) (by omega) h
 have HW5 := hide hW5
 generalize hL : (Tm.newTable s.data.toList st).1.length = L at *
 clear hc5 hB5 hf5 hW5
 obtain ⟨K2, hK2⟩ : ∃ K2 : Kit, K2 = ⟨bx, bmx, .slice ax' lnsx.length capx', 3, false, lnsx⟩ := ⟨_, rfl⟩
 have HCH : Hid (∀ W6 W, Wrote W5 W6 bw → Below W6.heap.size W6 W → ∀ g, g ≠ bw → g < w4.heap.size → W.heap[g]? = w4.heap[g]?) := fun W6 W h1 h2 g g1 g2 => by
  have := h1.size
  rw [h2.block g (by omega), h1.block g g1, HB5.out.block g g2]
 have HKB : Hid (∀ W6 X W, Wrote W5 W6 bw → W6.heap.size ≤ X → X ≤ W.heap.size → Below W6.heap.size W6 W → KitIs X bw K2 W) := fun W6 X W h1 h2 h3 h4 => by
  have := h1.size
  rw [hK2]
  have hch : ∀ g, g ≠ bw → g < w2.heap.size → W.heap[g]? = w2.heap[g]? := fun g g1 g2 => by
   rw [HCH.out W6 W h1 h4 g g1 (by omega), HB4.out.block g (by omega), HWR3.out.block g g1]
  refine Kit.is_of HCX.out HTX2.out HEX.out (by omega) (by omega) (.inr (by omega)) (.inl (by omega)) h3 (fun g g1 g2 => ?_) (fun g g1 g2 => hch g (by omega) g2)
  rw [hch g (by omega) (by omega), HB2.out.block g (by omega), HBa.out.block g (by omega)]
 have HC2K : Hid (∀ W6, (∀ q, 4 ≤ q → W6.cell? ⟨bw, q, none⟩ = W5.cell? ⟨bw, q, none⟩) → KitCells W6 bw 4 K2) := fun W6 h => by
  rw [hK2]
  exact ⟨(h 4 (by omega)).trans x4, (h 5 (by omega)).trans x5, (h 6 (by omega)).trans x6, (h 7 (by omega)).trans x7⟩
 have HWW5 : Hid (Below w.heap.size w W5) := by
  have h0 : Below w.heap.size w w1 := ((Below.refl _ _).alloc (Nat.le_refl _) _).trans (HB1.out.mono (by simp))
  have h2 : Below w.heap.size w w2 := (h0.trans (HBa.out.mono (by omega))).trans (HB2.out.mono (by omega))
  have h3 : Below w.heap.size w W3 := h2.trans (HWR3.out.below (by omega))
  exact (h3.trans (HB4.out.mono (by omega))).trans (HB5.out.mono (by omega))
 go_upto_region 6 with fail
 rw [HW5.out]
 rcases cc with _ | ac
 case' none =>
  go_upto_region 13 with fail
  obtain ⟨Wb, hWb, hwrb, b0, botb⟩ := put1 W5 (.pointer none) x0
  rw [hWb]
  obtain ⟨Wc, hWc, hwrc, b1, b2, b3, botc⟩ := put3 Wb (.slice al L capl) (.int .i64 st) (.bool sh) ((botb 1 (by omega)).trans x1) ((botb 2 (by omega)).trans x2) ((botb 3 (by omega)).trans x3) (by omega) (by omega) (by omega)
  rw [hWc]
  obtain ⟨We, hWe, hwre, e0, bote⟩ := put1 Wc (.pointer (some ⟨bx, 0, none⟩)) ((botc 0 (by omega) (by omega) (by omega)).trans b0)
  rw [hWe]
  obtain ⟨W6, hW6, hwr6, e1, e2, e3, bot6⟩ := put3 We (.slice ax' lnsx.length capx') (.int .i64 3) (.bool false) ((bote 1 (by omega)).trans b1) ((bote 2 (by omega)).trans b2) ((bote 3 (by omega)).trans b3) (by omega) (by omega) (by omega)
  rw [hW6]
  have HWR6 : Hid (Wrote W5 W6 bw) := ((hwrb.trans hwrc).trans hwre).trans hwr6
  have HBOT6 : Hid (∀ q, 4 ≤ q → W6.cell? ⟨bw, q, none⟩ = W5.cell? ⟨bw, q, none⟩) := fun q hq => by rw [bot6 q (by omega) (by omega) (by omega), bote q (by omega), botc q (by omega) (by omega) (by omega), botb q (by omega)]
  have HK1 : Hid (∃ K1, KitCells W6 bw 0 K1 ∧ ∀ X W, W6.heap.size ≤ X → X ≤ W.heap.size → Below W6.heap.size W6 W → KitIs X bw K1 W) := ⟨K2, by rw [hK2]; exact ⟨(bot6 0 (by omega) (by omega) (by omega)).trans e0, e1, e2, e3⟩, fun X W h1 h2 h3 => HKB.out W6 X W HWR6.out h1 h2 h3⟩
  clear hWb hwrb b0 botb hWc hwrc b1 b2 b3 botc hWe hwre e0 bote hW6 hwr6 e1 e2 e3 bot6
 case' some =>
  obtain ⟨bc, bm, lns, rfl, hco, hnt⟩ := HK4.out _ rfl
  have HCO := hide hco
  have HNT := hide hnt
  have hL' : lns.length = L := by rw [← hL, hnt]
  rw [hnt] at HT4
  have HL' := hide hL'
  clear hL hco hnt hL'
  go_upto_region 13 with fail
  obtain ⟨Wb, hWb, hwrb, b0, botb⟩ := put1 W5 (.pointer (some ⟨bc, 0, none⟩)) x0
  rw [hWb]
  obtain ⟨W6, hW6, hwr6, e1, e2, e3, bot6⟩ := put3 Wb (.slice al L capl) (.int .i64 st) (.bool sh) ((botb 1 (by omega)).trans x1) ((botb 2 (by omega)).trans x2) ((botb 3 (by omega)).trans x3) (by omega) (by omega) (by omega)
  rw [hW6]
  have HWR6 : Hid (Wrote W5 W6 bw) := hwrb.trans hwr6
  have HBOT6 : Hid (∀ q, 4 ≤ q → W6.cell? ⟨bw, q, none⟩ = W5.cell? ⟨bw, q, none⟩) := fun q hq => by rw [bot6 q (by omega) (by omega) (by omega), botb q (by omega)]
  have HK1 : Hid (∃ K1, KitCells W6 bw 0 K1 ∧ ∀ X W, W6.heap.size ≤ X → X ≤ W.heap.size → Below W6.heap.size W6 W → KitIs X bw K1 W) := by
   have hz6 := HWR6.out.size
   refine ⟨⟨bc, bm, .slice al L capl, st, sh, lns⟩, ⟨(bot6 0 (by omega) (by omega) (by omega)).trans b0, e1, e2, e3⟩, fun X W h1 h2 h3 => ?_⟩
   exact Kit.is_of HCO.out HT4.out HNT.out (by omega) (by omega) (.inl (by omega)) (.inl (by omega)) h2 (fun g g1 g2 => HCH.out W6 W HWR6.out h3 g (by omega) g2) (fun g g1 g2 => HCH.out W6 W HWR6.out h3 g (by omega) g2)
  clear hWb hwrb b0 botb hW6 hwr6 e1 e2 e3 bot6
 all_goals
  have hz6 := HWR6.out.size
  have HCK2 := hide (HC2K.out W6 HBOT6.out)
  have HFZ6 : Hid (∀ o, W6.frozen? ⟨bw, o, none⟩ = false) := fun o => by rw [HWR6.out.frozen]; exact HF5.out o
  have HCM6 : Hid ((∀ o, 8 ≤ o → o ≤ 12 → W6.cell? ⟨bw, o, none⟩ = some (.slice none 0 0)) ∧ W6.cell? ⟨bw, 13, none⟩ = some (.int .i64 5)) := by
   refine ⟨fun o h1 h2 => ?_, by rw [HBOT6.out 13 (by omega)]; exact HCM5.out 13 _ (by omega) rfl⟩
   rw [HBOT6.out o (by omega)]
   have : o = 8 ∨ o = 9 ∨ o = 10 ∨ o = 11 ∨ o = 12 := by omega
   rcases this with rfl | rfl | rfl | rfl | rfl <;> exact HCM5.out _ _ (by omega) rfl
  have HWW6 : Hid (Below w.heap.size w W6) := HWW5.out.trans (HWR6.out.below (by omega))
  clear x0 x1 x2 x3 x4 x5 x6 x7 t0 t1 t2 f0 f1 f2 f3
  go_upto_region 14 with fail
  obtain ⟨W7, hW7⟩ : ∃ W7, W6.alloc (.cells #[.int .i64 1, .int .i64 0, .string ⟨#[]⟩, .string ⟨#[]⟩, .int .i64 1, .int .i64 0, .slice none 0 0, .int .i64 2, .int .i64 0, .string ⟨#[195, 161]⟩, .string ⟨#[49]⟩, .int .i64 0, .int .i64 0, .slice none 0 0, .int .i64 4, .int .i64 0, .string ⟨#[97, 204, 129]⟩, .string ⟨#[]⟩, .int .i64 0, .int .i64 0, .slice none 0 0] 110) = W7 := ⟨_, rfl⟩
  rw [hW7]
  have HOP1 := hide (firstOps hW7)
  have hb7 : Below W6.heap.size W6 W7 := by rw [← hW7]; exact (Below.refl _ _).alloc (Nat.le_refl _) _
  have hz7 : W7.heap.size = W6.heap.size + 1 := by rw [← hW7]; simp
  have HWW7 : Hid (Below w.heap.size w W7) := HWW6.out.trans (hb7.mono (by omega))
  obtain ⟨X, hX⟩ : ∃ X, W7.heap.size = X := ⟨_, rfl⟩
  have HUP : Hid (∃ K1, UpInv X bw K1 K2 W7 W7 0) := by
   obtain ⟨K1, hc1, hk1⟩ := HK1.out
   have hc7 : ∀ j, W7.cell? ⟨bw, j, none⟩ = W6.cell? ⟨bw, j, none⟩ := fun j => hb7.cell (p := ⟨bw, j, none⟩) (by show bw < W6.heap.size; omega)
   refine ⟨K1, _, _, [], _, [], Wd.new (hc1.keep (fun q _ => hc7 q)) (HCK2.out.keep (fun q _ => hc7 q)) ((hc7 13).trans HCM6.out.2) (fun o h1 h2 => (hc7 o).trans (HCM6.out.1 o h1 h2)) (fun o => ?_) (hk1 X W7 (by omega) (by omega) hb7) (HKB.out W6 X W7 HWR6.out (by omega) (by omega) hb7) (by omega) (by omega), by simp, by simp, .inl rfl, Foot.refl _ _⟩
   rw [hb7.frozen (p := ⟨bw, o, none⟩) (by show bw < W6.heap.size; omega)]
   exact HFZ6.out o
  obtain ⟨K1, hup⟩ := HUP.out
  have HUP0 := hide hup
  obtain ⟨b7, hb7e⟩ : ∃ b7, w4.heap.size + 1 = b7 := ⟨_, rfl⟩
  have hb76 : W6.heap.size = b7 := by omega
  rw [hb7e]
  rw [hb76] at HOP1
  have hbwX : bw < b7 := by omega
  have hwX : w.heap.size ≤ bw := by omega
  have h7X : b7 < X := by omega
  have hWX : X ≤ W7.heap.size := by omega
  have HB7 := hide hb7
  have HX := hide hX
  clear hup HUP hb7 hW7 hX hz1 hz1' hza hz2 hz3 hz4 hz5 hz6 hz7 hb7e hb76 hK2 hbw
  go_wp2_with fail
  go_loopw [14] (fun i wr => ∃ k : Nat, k ≤ 3 ∧ i = .int .i64 k ∧ Hid (UpInv X bw K1 K2 W7 wr k)) (fun i _ => 3 - (intOf i).toNat)
  case atStart => exact ⟨0, by omega, rfl, HUP0.out⟩
  case round =>
   obtain ⟨k, hk, rfl, HU⟩ := hrel
   by_cases hlt : k < 3
   ·obtain ⟨o, ho, hok, ho1⟩ := HOP1.out k hlt
    obtain ⟨hg, q0, q1, q2, q3, q4, q5, q6⟩ := HU.out.op ho h7X (by omega)
    have HST := hide (HU.out.step (by omega) o hok ho1)
    have i1 : (0 : Int) ≤ (k : Int) := by omega
    have i2 : (k : Int) < 3 := by omega
    clear ho ho1
    go_wp2_with (go_at_call 53; refine HST.out.mono ?_; rintro e w8 ⟨rfl, HU8⟩)
    go_roundw
    case rel => exact ⟨k + 1, by omega, by go_num, HU8⟩
    case measure => simp [intOf]; omega
   ·obtain ⟨k3, rfl⟩ : ∃ k3, k3 = k := ⟨_, rfl⟩
    have E3 : Hid (k3 = 3) := by unfold Hid; omega
    obtain ⟨wo, rfl⟩ : ∃ wo : World, wo = wr := ⟨_, rfl⟩
    go_wp2_with fail
    go_loopw [15] (fun i wr => ∃ k : Nat, k ≤ n ∧ i = .int .i64 k ∧ Hid (UpInv X bw K1 K2 W7 wr (k + 3))) (fun i _ => n - (intOf i).toNat)
    case atStart => exact ⟨0, by omega, rfl, by have h := HU.out; rw [E3.out] at h; exact h⟩
    case round =>
     clear HU
     obtain ⟨k, hk, rfl, HV⟩ := hrel
     by_cases hlt2 : k < n
     ·obtain ⟨g, off, o, hae, ho, hok⟩ := HOPS.out k hlt2
      subst hae
      obtain ⟨hg, q0, q1, q2, q3, q4, q5, q6⟩ := HV.out.op (ho.of HWW7.out.size (HWW7.out.block g ho.lt)) (by have := ho.lt; omega) (by have := ho.lt; omega)
      have HST := hide (HV.out.step (by omega) o hok (fun e => by omega))
      have i1 : (0 : Int) ≤ (k : Int) := by omega
      have i2 : (k : Int) < (n : Int) := by omega
      clear ho
      go_wp2_with (first | (go_at_call 53; refine HST.out.mono ?_; rintro e w8 ⟨rfl, HU8⟩; have hb8 := HU8.out.lt) | (go_at_call 16; refine (HU8.out.whole (by omega)).mono ?_; rintro e w9 ⟨rfl, HU9⟩))
      go_roundw
      case rel => exact ⟨k + 1, by omega, by go_num, by rw [show k + 1 + 3 = k + 3 + 1 by omega]; exact HU9⟩
      case measure => simp [intOf]; omega
     ·go_wp2_with (go_at_call 54; refine (HV.out.asked (by omega)).mono ?_; rintro e w8 ⟨rfl, HF8⟩)
      go_ret
      exact ⟨rfl, HF8.out.os.trans HWW7.out.os, HF8.out.tape.trans HWW7.out.tape, HF8.out.output.trans HWW7.out.output, Nat.le_trans HWW7.out.size HF8.out.size, fun g hg => (HF8.out.block g (by have := HWW7.out.size; omega) (fun e => by omega)).trans (HWW7.out.block g hg)⟩
set_option maxRecDepth 100000 in
theorem Shelves_any (s : ByteArray) (st : Int) (sh : Bool) (a : Option Addr) (n c : Nat) (w : World) (hs : s.size ≤ maxLen) (hops : OpsRd w a n) (hn : n ≤ 10000000) :
  Calls Tryz.prog 4 #[.string s, .int .i64 st, .bool sh, .slice a n c] w fun e w' => e = .returned (.bool true) ∧ Below w.heap.size w w' := by
 have HC := hide (UpTo_any s st sh a n c w hs hops hn)
 clear hops
 go_enter Tryz.func4, Tryz.ntmps4
 go_wp2_with (go_at_call 17; refine HC.out.mono ?_; rintro e w1 ⟨rfl, hb⟩; have HB := hide hb; clear hb)
 go_ret
 exact ⟨rfl, HB.out⟩
end Go.Proofs.YtmnjjjhmnhfapaaGreatDoor
