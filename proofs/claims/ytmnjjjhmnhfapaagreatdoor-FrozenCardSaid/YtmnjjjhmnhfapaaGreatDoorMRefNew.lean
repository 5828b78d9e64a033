import Derived.Deep.DeepCutAuto
import Derived.Test.YtmnjjjhmnhfapaaGreatDoorMOwnTab
import Derived.Test.YtmnjjjhmnhfapaaGreatDoorMPlain
namespace Go.Proofs.YtmnjjjhmnhfapaaGreatDoor
open Go.RowKit

theorem Tryz.infoLine : (Tryz.prog.info? 86).map (fun i => (i.zero, i.size, i.bytes)) = some (some (.agg #[.string ⟨#[]⟩, .slice none 0 0, .slice none 0 0, .int .i64 0]), 4, 72) := by kernel_rfl

/-- The table that is being made lies in block B + 2. -/
structure Newing (w1 : World) (B : Nat) (st : Int) (sh : Bool) (v : Value) (wr : World) : Prop where
  below : Below (B + 2) w1 wr
  keep : ∀ g, g < w1.heap.size → g ≠ B + 2 → wr.heap[g]? = w1.heap[g]?
  c0 : wr.cell? ⟨B + 2, 0, none⟩ = some v
  c1 : wr.cell? ⟨B + 2, 1, none⟩ = some (.int .i64 st)
  c2 : wr.cell? ⟨B + 2, 2, none⟩ = some (.bool sh)
  fr : ∀ o, wr.frozen? ⟨B + 2, o, none⟩ = false

theorem Newing.of_blocks {w1 : World} {B : Nat} {st : Int} {sh : Bool} {v : Value} {wr w2 : World} (h : Newing w1 B st sh v wr) (hb : Below (B + 3) wr w2) (hk : ∀ g, g < w1.heap.size → g ≠ B + 2 → w2.heap[g]? = wr.heap[g]?) : Newing w1 B st sh v w2 := by
  have hL : w2.heap[B + 2]? = wr.heap[B + 2]? := hb.block _ (by omega)
  have hc : ∀ o, w2.cell? ⟨B + 2, o, none⟩ = wr.cell? ⟨B + 2, o, none⟩ := fun o => World.cell?_of_block (w := wr) hL
  have hf : ∀ o, w2.frozen? ⟨B + 2, o, none⟩ = wr.frozen? ⟨B + 2, o, none⟩ := fun o => World.frozen?_of_block (w := wr) hL
  exact ⟨h.below.trans (hb.mono (by omega)), fun g hg hne => (hk g hg hne).trans (h.keep g hg hne), by rw [hc]; exact h.c0, by rw [hc]; exact h.c1, by rw [hc]; exact h.c2, fun o => by rw [hf]; exact h.fr o⟩
theorem Newing.far {w1 : World} {B : Nat} {st : Int} {sh : Bool} {v : Value} {wr w2 : World} (h : Newing w1 B st sh v wr) (hB : B + 3 ≤ w1.heap.size) (hb : Below wr.heap.size wr w2) : Newing w1 B st sh v w2 := by
  have := h.below.size
  exact h.of_blocks (hb.mono (by omega)) (fun g hg _ => hb.block g (by omega))
theorem Newing.grown {w1 : World} {B : Nat} {st : Int} {sh : Bool} {v : Value} {wr w2 : World} {row : Option Nat} (h : Newing w1 B st sh v wr) (hB : B + 3 ≤ w1.heap.size) (hg : wr.grownBy w2 row) (hr : ∀ k, row = some k → w1.heap.size ≤ k) : Newing w1 B st sh v w2 := by
  have := h.below.size
  refine h.of_blocks ((Below.refl _ _).grown hg (by omega) (fun k hk => by have := hr k hk; omega)) (fun g hg' _ => hg.block g (by omega) (fun e => by have := hr g e.symm; omega))
theorem Newing.set {w1 : World} {B : Nat} {st : Int} {sh : Bool} {v v' : Value} {wr : World} (h : Newing w1 B st sh v wr) : Newing w1 B st sh v' (wr.setCell ⟨B + 2, 0, none⟩ v') :=
  ⟨h.below.setCell (by simp) _, fun g hg hne => by rw [Below.heap_setCell _ _ _ _ (by simpa using hne)]; exact h.keep g hg hne, cset_same h.c0, by rw [cset_other (by simp)]; exact h.c1, by rw [cset_other (by simp)]; exact h.c2, fun o => by simp [h.fr]⟩

/-- Of what was there only block b has turned. -/
structure Up (b : Nat) (w w' : World) : Prop where
  size : w.heap.size ≤ w'.heap.size
  block : ∀ g, g ≠ b → g < w.heap.size → w'.heap[g]? = w.heap[g]?
theorem Up.refl (b : Nat) (w : World) : Up b w w := ⟨Nat.le_refl _, fun _ _ _ => rfl⟩
theorem Up.setCell {b : Nat} {w w' : World} (h : Up b w w') {p : Addr} (hp : p.block = b) (u : Value) : Up b w (w'.setCell p u) :=
  ⟨by simpa [World.setCell] using h.size, fun g hg hl => by rw [Below.heap_setCell _ _ _ _ (by omega)]; exact h.block g hg hl⟩
theorem Up.drew {b : Nat} {w w' : World} (h : Up b w w') : Up b w w'.drew := ⟨h.size, h.block⟩
theorem Up.alloc {b : Nat} {w w' : World} (h : Up b w w') (o : Obj) : Up b w (w'.alloc o) :=
  ⟨by have := h.size; simp; omega, fun g hg hl => by rw [Below.heap_alloc _ _ _ (by have := h.size; omega)]; exact h.block g hg hl⟩
/-- The table's lines behind stores into the result's block. -/
theorem OwnTab.only {w w' : World} {base b : Nat} {v : Value} {lns : List Tm.Ln} (h : OwnTab w base v lns) (ho : Up b w w') (hb : b < base) : OwnTab w' base v lns :=
  h.of_blocks ho.size (fun g hg hl => ho.block g (by omega) hl)
theorem OwnTab.lt {w : World} {base : Nat} {v : Value} {lns : List Tm.Ln} (h : OwnTab w base v lns) : ∀ g, v.ownBlock = some g → base ≤ g := by
  obtain ⟨xs, hl, hown, hok⟩ := h
  exact fun g hg => (hown.lt g hg).1

theorem LineOk.below {w w' : World} {base : Nat} {v : Value} {x : ByteArray × Value × Value} {ln : Tm.Ln} (h : LineOk w base v x ln) (hb : Below w.heap.size w w') : LineOk w' base v x ln := by
  obtain ⟨h1, h2, h3, h4, h5⟩ := h
  exact ⟨h1, h2.below hb h2.2.1, h3.below hb h3.2.1, h4, h5⟩
theorem lineCells_one {x : ByteArray × Value × Value} {n : Int} (h1 : x.2.1.oneCell' = true) (h2 : x.2.2.oneCell' = true) : ∀ u ∈ lineCells x n, u.oneCell' = true := by
  intro u hu
  simp [lineCells] at hu
  rcases hu with rfl | rfl | rfl | rfl
  · rfl
  · exact h1
  · exact h2
  · rfl

theorem cell_new {W : World} {cs : Array Value} {t : TypeId} {b : Nat} (hb : b = W.heap.size) (o : Nat) : (W.alloc (.cells cs t)).cell? ⟨b, o, none⟩ = cs[o]? := by
  subst hb; rw [cell_of_row _ _ o cs t (0, 0) (heap_alloc_new W _)]
theorem cell_old {W : World} {x : Obj} {b : Nat} (hb : b < W.heap.size) (o : Nat) : (W.alloc x).cell? ⟨b, o, none⟩ = W.cell? ⟨b, o, none⟩ :=
  World.cell?_of_block (w := W) (Below.heap_alloc W x b hb)
theorem frozen_new {W : World} {cs : Array Value} {t : TypeId} {b : Nat} (hb : b = W.heap.size) (o : Nat) : (W.alloc (.cells cs t)).frozen? ⟨b, o, none⟩ = false := by
  subst hb; simp
theorem frozen_old {W : World} {x : Obj} {b : Nat} (hb : b < W.heap.size) (o : Nat) : (W.alloc x).frozen? ⟨b, o, none⟩ = W.frozen? ⟨b, o, none⟩ :=
  World.frozen?_of_block (w := W) (Below.heap_alloc W x b hb)

/-- The lines lie in blocks from B on: whatever keeps these keeps them. -/
def TableOwn (w : World) (B : Nat) (v : Value) (lns : List Tm.Ln) : Prop :=
  ∀ w', w.heap.size ≤ w'.heap.size → (∀ g, B ≤ g → g < w.heap.size → w'.heap[g]? = w.heap[g]?) → TableRd w' v lns
theorem TableOwn.rd {w : World} {B : Nat} {v : Value} {lns : List Tm.Ln} (h : TableOwn w B v lns) : TableRd w v lns := h w (Nat.le_refl _) (fun _ _ _ => rfl)
theorem OwnTab.own {w : World} {base B : Nat} {v : Value} {lns : List Tm.Ln} (h : OwnTab w base v lns) (hb : B ≤ base) : TableOwn w B v lns :=
  fun _ hs hk => (h.of_blocks hs (fun g hg hl => hk g (by omega) hl)).rd

/-- What New answers. -/
def newAns (r : List Tm.Ln × Int × Int) (st : Int) (sh : Bool) (B : Nat) (e : Ending) (w' : World) : Prop :=
  ∃ vl, e = .returned (.tuple #[.agg #[vl, .int .i64 st, .bool sh], .int .i64 r.2.1, .int .i64 r.2.2]) ∧ TableOwn w' B vl r.1 ∧ (∀ o ∈ r.1, Tm.Good o) ∧ r.1.length ≤ 8193 ∧ (∀ g, vl.ownBlock = some g → B ≤ g)

set_option maxRecDepth 100000 in
set_option maxHeartbeats 2000000 in
theorem RefNew_any (s : ByteArray) (st : Int) (sh : Bool) (w : World) (hs : s.size ≤ maxLen) :
    Calls Tryz.prog 11 #[.string s, .agg #[.int .i64 st, .bool sh]] w fun e w' => newAns (Tm.newTable s.data.toList st) st sh w.heap.size e w' ∧ Below w.heap.size w w' := by
  obtain ⟨i0, hi, hz0, hz1, hz2⟩ := info_parts Tryz.infoLine
  unfold maxLen at hs
  by_cases hopt : st < 1 ∨ 4 < st
  · have HN := hide (Tm.newTable_option (t := s.data.toList) hopt)
    have hlow : (st < 1 ∧ decide (st < 1) = true) ∨ (decide (st < 1) = false ∧ decide (4 < st) = true ∧ 4 < st) := by simp; omega
    clear hopt
    have ANS : Hid (∀ w' : World, newAns (Tm.newTable s.data.toList st) st sh w.heap.size (.returned (.tuple #[.agg #[.slice none 0 0, .int .i64 st, .bool sh], .int .i64 0, .int .i64 6])) w') := by
      intro w'
      rw [HN.out]
      exact ⟨_, rfl, (OwnTab.nil w' w.heap.size).own (Nat.le_refl _), by simp, by simp, fun g hg => by simp [Value.ownBlock] at hg⟩
    rcases hlow with ⟨h1, h2⟩ | ⟨h1, h2, h3⟩
    all_goals
      go_enter Tryz.func11, Tryz.ntmps11
      go_wp2
      refine bodyPost_ret (v := .tuple #[.agg #[.slice none 0 0, .int .i64 st, .bool sh], .int .i64 0, .int .i64 6]) (by simp [results, Tryz.results11, go_sem]) rfl ⟨ANS.out _, ?_⟩
      (repeat (first | with_reducible exact Below.refl _ _ | with_reducible refine Below.alloc ?_ (by simp; try omega) _ | with_reducible refine Below.setCell ?_ (by simp) _))
  · have d1 : decide (st < 1) = false := by simp; omega
    have d2 : decide (4 < st) = false := by simp; omega
    have HOPT := hide hopt
    clear hopt
    by_cases hlong : 8192 < s.size
    · have HN := hide (Tm.newTable_long (t := s.data.toList) HOPT.out (by rw [len_bytes]; exact hlong))
      have ANS : Hid (∀ w' : World, newAns (Tm.newTable s.data.toList st) st sh w.heap.size (.returned (.tuple #[.agg #[.slice none 0 0, .int .i64 st, .bool sh], .int .i64 0, .int .i64 7])) w') := by
        intro w'
        rw [HN.out]
        exact ⟨_, rfl, (OwnTab.nil w' w.heap.size).own (Nat.le_refl _), by simp, by simp, fun g hg => by simp [Value.ownBlock] at hg⟩
      go_enter Tryz.func11, Tryz.ntmps11
      go_wp2
      refine bodyPost_ret (v := .tuple #[.agg #[.slice none 0 0, .int .i64 st, .bool sh], .int .i64 0, .int .i64 7]) (by simp [results, Tryz.results11, go_sem]) rfl ⟨ANS.out _, ?_⟩
      (repeat (first | with_reducible exact Below.refl _ _ | with_reducible refine Below.alloc ?_ (by simp; try omega) _ | with_reducible refine Below.setCell ?_ (by simp) _))
    · have HLONG : Hid (¬ 8192 < s.data.toList.length) := by unfold Hid; rw [len_bytes]; exact hlong
      go_enter Tryz.func11, Tryz.ntmps11
      go_wp2_with fail
      refine (words_any s 10 10 rfl _ (by omega)).mono ?_
      rintro e w1 ⟨v, bs, rfl, hown, hsp, hb⟩
      have HSZ := hide (word_sizes hsp (by omega))
      obtain ⟨a, cap, rfl⟩ := (Reads.of_owns hown).shape
      have HR := hide (Reads.of_owns hown)
      have hbl := hown.lt
      have hzw := hb.size
      simp at hzw
      have hlen : bs.length ≤ 8193 := by
        have h := Tm.split_count 10 s.data.toList
        rw [← hsp, List.length_map, len_bytes] at h
        omega
      have hcs := (bcell hb).1
      have hfs := (bcell hb).2
      have hNew : Newing w1 w.heap.size st sh (.slice none 0 0) w1 :=
        ⟨Below.refl _ _, fun _ _ _ => rfl, by rw [hcs _ _ (by simp), cell_new (by simp)]; rfl, by rw [hcs _ _ (by simp), cell_new (by simp)]; rfl, by rw [hcs _ _ (by simp), cell_new (by simp)]; rfl, fun o => by rw [hfs _ _ (by simp), frozen_new (by simp)]⟩
      have r0 : w1.cell? ⟨w.heap.size + 1, 0, none⟩ = some (.slice none 0 0) := by rw [hcs _ _ (by simp), cell_old (by simp), cell_new (by simp)]; rfl
      have r1 : w1.cell? ⟨w.heap.size + 1, 1, none⟩ = some (.int .i64 0) := by rw [hcs _ _ (by simp), cell_old (by simp), cell_new (by simp)]; rfl
      have r2 : w1.cell? ⟨w.heap.size + 1, 2, none⟩ = some (.bool false) := by rw [hcs _ _ (by simp), cell_old (by simp), cell_new (by simp)]; rfl
      have rf : ∀ o, w1.frozen? ⟨w.heap.size + 1, o, none⟩ = false := fun o => by rw [hfs _ _ (by simp), frozen_old (by simp), frozen_new (by simp)]
      have HB : Hid (Below w.heap.size w w1) := ((((Below.refl _ _).alloc (Nat.le_refl _) _).alloc (by simp) _).alloc (by simp; omega) _).trans (hb.mono (by simp; omega))
      have HSP := hide hsp
      have HOWN : Hid (∀ g, (Value.slice a bs.length cap).ownBlock = some g → w.heap.size + 3 ≤ g ∧ g < w1.heap.size) := fun g hg => by have := hbl g hg; simp at this; omega
      clear hown hb hsp hcs hfs hbl
      go_wp2_with fail
      go_loopw [9] (fun t wr => ∃ (k : Nat) (lns : List Tm.Ln) (vl : Value), t = .int .i64 k ∧ k ≤ bs.length ∧ lns.length ≤ k ∧ Newing w1 w.heap.size st sh vl wr ∧ OwnTab wr w1.heap.size vl lns ∧ Tm.ReadAt (bs.map (·.data.toList)) k lns ∧ (∀ o ∈ lns, Tm.Good o))
        (fun t _ => bs.length - (intOf t).toNat)
      case atStart => exact ⟨0, [], _, rfl, Nat.zero_le _, Nat.le_refl _, hNew, OwnTab.nil _ _, Tm.ReadAt_zero _, by simp⟩
      case round =>
        obtain ⟨k, lns, vl, rfl, hk, hlk, hN, hO, hat, hgood⟩ := hrel
        have HAT := hide hat
        have HG := hide hgood
        have HN := hide hN
        obtain ⟨al, capl, rfl⟩ := hO.shape
        have t0 : wr.cell? ⟨w.heap.size + 1 + 1, 0, none⟩ = some (.slice al lns.length capl) := hN.c0
        have t1 : wr.cell? ⟨w.heap.size + 1 + 1, 1, none⟩ = some (.int .i64 st) := hN.c1
        have t2 : wr.cell? ⟨w.heap.size + 1 + 1, 2, none⟩ = some (.bool sh) := hN.c2
        have tf : ∀ o, wr.frozen? ⟨w.heap.size + 1 + 1, o, none⟩ = false := hN.fr
        have hzr := hN.below.size
        have q0 : wr.cell? ⟨w.heap.size + 1, 0, none⟩ = some (.slice none 0 0) := by rw [hN.below.cell (by simp)]; exact r0
        have q1 : wr.cell? ⟨w.heap.size + 1, 1, none⟩ = some (.int .i64 0) := by rw [hN.below.cell (by simp)]; exact r1
        have q2 : wr.cell? ⟨w.heap.size + 1, 2, none⟩ = some (.bool false) := by rw [hN.below.cell (by simp)]; exact r2
        have qf : ∀ o, wr.frozen? ⟨w.heap.size + 1, o, none⟩ = false := fun o => by rw [hN.below.frozen (by simp)]; exact rf o
        clear hat hgood hN
        have HB0 : Hid (Below w.heap.size w wr) := HB.out.trans (HN.out.below.mono (by omega))
        by_cases hlt : k < bs.length
        · obtain ⟨g, off, he, hg, hck⟩ := strs_at HR.out hlt
          cases he
          have hgo := HOWN.out g rfl
          have hck' : wr.cell? ⟨g, off + k, none⟩ = some (.string bs[k]) := by
            rw [World.cell?_of_block (w := w1) (HN.out.keep g hgo.2 (by omega))]; exact hck
          have hsk := HSZ.out bs[k] (List.getElem_mem hlt)
          have hdrop : (bs.map (·.data.toList)).drop k = bs[k].data.toList :: (bs.map (·.data.toList)).drop (k + 1) := by
            rw [List.drop_eq_getElem_cons (by simpa using hlt)]; simp
          have HD := hide hdrop
          generalize bs[k] = bk at *
          clear hck hdrop
          have hat2 := HAT.out
          unfold Tm.ReadAt at hat2
          rw [HD.out] at hat2
          have HA2 := hide hat2
          clear hat2
          by_cases hskip : bk.data.toList.head? = none ∨ bk.data.toList.head? = some 35
          · have HS : Hid (Tm.ReadAt (bs.map (·.data.toList)) (k + 1) lns) := by
              unfold Hid Tm.ReadAt
              rw [HA2.out, Tm.readLines_skip hskip]; simp
            have hway : bk.toList.isEmpty = true ∨ (bk.toList.isEmpty = false ∧ ∃ h : 0 < bk.size, ((bk[0].toNat : Int) == 35) = true) := by
              rw [empty_of]
              rcases Nat.eq_zero_or_pos bk.size with h0 | h0
              · left; simp [h0]
              · right
                refine ⟨decide_eq_false (by omega), h0, ?_⟩
                rw [head_of bk h0] at hskip
                rcases hskip with h | h
                · cases h
                · simp at h; rw [h]; rfl
            clear hskip
            rcases hway with h1 | ⟨h1, hp, h2⟩
            all_goals
              go_wp2
              go_roundw
              case rel => exact ⟨k + 1, lns, _, by go_num, by omega, by omega, HN.out, hO, HS.out, HG.out⟩
              case measure => simp [intOf]; omega
          · have hway : bk.toList.isEmpty = false ∧ ∃ h : 0 < bk.size, ((bk[0].toNat : Int) == 35) = false := by
              rw [empty_of]
              have h0 : 0 < bk.size := by
                rcases Nat.eq_zero_or_pos bk.size with h0 | h0
                · exfalso; apply hskip; left
                  have : bk.data.toList = [] := List.eq_nil_of_length_eq_zero (by rw [len_bytes]; exact h0)
                  rw [this]; rfl
                · exact h0
              refine ⟨decide_eq_false (by omega), h0, ?_⟩
              cases hq : ((bk[0].toNat : Int) == 35)
              · rfl
              · exfalso; apply hskip; right
                rw [head_of bk h0, u8_eq_of (n := 35) hq (by omega)]; rfl
            obtain ⟨h1, hp, h2⟩ := hway
            have HSK := hide hskip
            clear hskip
            go_wp2_with fail
            refine (parse_any bk _ _ hsk).mono ?_
            rintro e w2 ⟨⟨kb, vr, ve, ok, rfl, ⟨ar, nr, capr, rfl⟩, ⟨ae, ne, cape, rfl⟩, hok⟩, hb2⟩
            have ERR : Hid (∀ (code : Int) (_ : Tm.readLines [] 1 (bs.map (·.data.toList)) = (lns, some ((k : Int) + 1, code))) (wa w' : World) (_ : OwnTab wa w1.heap.size (.slice al lns.length capl) lns) (_ : Up (w.heap.size + 1) wa w'),
                newAns (Tm.newTable s.data.toList st) st sh w.heap.size (.returned (.tuple #[.agg #[.slice al lns.length capl, .int .i64 st, .bool sh], .int .i64 ((k : Int) + 1), .int .i64 code])) w') := by
              intro code hr wa w' ho hon
              rw [HSP.out] at hr
              rw [Tm.newTable_wrong HOPT.out HLONG.out hr]
              exact ⟨_, rfl, (ho.only hon (by omega)).own (by omega), HG.out, by simp only; omega, fun g hg => by have := ho.lt g hg; omega⟩
            have gz : w.heap.size + 1 + 1 < w2.heap.size := by have := hb2.size; omega
            have gz1 : w.heap.size + 1 < w2.heap.size := by omega
            have gz2 : w1.heap.size ≤ w2.heap.size := by have := hb2.size; omega
            have fa : ∀ b o, b < wr.heap.size → w2.cell? ⟨b, o, none⟩ = wr.cell? ⟨b, o, none⟩ := (bcell hb2).1
            have ff : ∀ b o, b < wr.heap.size → w2.frozen? ⟨b, o, none⟩ = wr.frozen? ⟨b, o, none⟩ := (bcell hb2).2
            rw [← fa _ _ (by omega)] at t0 t1 t2 q0 q1 q2
            have tf2 : ∀ o, w2.frozen? ⟨w.heap.size + 1 + 1, o, none⟩ = false := fun o => by rw [ff _ _ (by omega)]; exact tf o
            have qf2 : ∀ o, w2.frozen? ⟨w.heap.size + 1, o, none⟩ = false := fun o => by rw [ff _ _ (by omega)]; exact qf o
            have hO2 := hO.below hb2
            have HN2 := hide (HN.out.far (by omega) hb2)
            have HBW := hide (HB0.out.trans (hb2.mono (by have := HB0.out.size; omega)))
            clear fa ff tf qf hck' hsk
            cases ok
            · have HE : Hid (Tm.readLines [] 1 (bs.map (·.data.toList)) = (lns, some ((k : Int) + 1, 1))) := by
                unfold Hid
                rw [HA2.out, Tm.readLines_bad HSK.out (by simpa using hok)]
              clear hok hb2 hO
              go_wp2
              refine bodyPost_ret (v := .tuple #[.agg #[.slice al lns.length capl, .int .i64 st, .bool sh], .int .i64 ((k : Int) + 1), .int .i64 1]) (by simp [results, Tryz.results11, go_sem, q0, q1, q2, gz1]) rfl ⟨ERR.out 1 HE.out w2 _ hO2 ?_, ?_⟩
              · (repeat (first | with_reducible exact Up.refl _ _ | with_reducible refine Up.drew ?_ | with_reducible refine Up.alloc ?_ _ | with_reducible refine Up.setCell ?_ (by simp) _))
              · (repeat (first | with_reducible exact HBW.out | with_reducible refine Below.drew ?_ | with_reducible refine Below.setCell ?_ (by simp) _ | with_reducible refine Below.alloc ?_ (by simp [World.setCell]; omega) _))
            · simp only [if_true] at hok
              obtain ⟨ln, hpl, hkl, hnl, hrr, hre, hbr, hbe⟩ := hok
              have hgl := Tm.parse_good hpl
              have eN : nr = ln.runes.length := by obtain ⟨_, _, _, _, he, _⟩ := hrr; cases he; rfl
              have eE : ne = ln.els.length := by obtain ⟨_, _, _, _, he, _⟩ := hre; cases he; rfl
              subst eN eE
              have LX : Hid (LineOk w2 w1.heap.size (.slice al lns.length capl) (kb, .slice ar ln.runes.length capr, .slice ae ln.els.length cape) ln) := by
                refine ⟨hkl.symm, hrr, hre, fun g hg => ⟨by have := hbr g hg; omega, fun h => ?_⟩, fun g hg => ⟨by have := hbe g hg; omega, fun h => ?_⟩⟩
                · have h1 := hbr g hg
                  have h2 := hO.rd.1 g h.symm
                  omega
                · have h1 := hbe g hg
                  have h2 := hO.rd.1 g h.symm
                  omega
              have HPL := hide hpl
              have HNL := hide hnl
              have FACTS : Hid (∀ wx, Below (w2.heap.size + 1) (w2.alloc (.cells #[.string kb, .slice ar ln.runes.length capr, .slice ae ln.els.length cape, .int .i64 ((k : Int) + 1)] 86)) wx →
                  (wx.cell? ⟨w.heap.size + 1 + 1, 0, none⟩ = some (.slice al lns.length capl) ∧ wx.cell? ⟨w.heap.size + 1 + 1, 1, none⟩ = some (.int .i64 st) ∧ wx.cell? ⟨w.heap.size + 1 + 1, 2, none⟩ = some (.bool sh) ∧ (∀ o, wx.frozen? ⟨w.heap.size + 1 + 1, o, none⟩ = false)) ∧
                  (wx.cell? ⟨w.heap.size + 1, 0, none⟩ = some (.slice none 0 0) ∧ wx.cell? ⟨w.heap.size + 1, 1, none⟩ = some (.int .i64 0) ∧ wx.cell? ⟨w.heap.size + 1, 2, none⟩ = some (.bool false) ∧ (∀ o, wx.frozen? ⟨w.heap.size + 1, o, none⟩ = false)) ∧
                  (wx.cell? ⟨w2.heap.size, 0, none⟩ = some (.string kb) ∧ wx.cell? ⟨w2.heap.size, 1, none⟩ = some (.slice ar ln.runes.length capr) ∧ wx.cell? ⟨w2.heap.size, 2, none⟩ = some (.slice ae ln.els.length cape) ∧ wx.cell? ⟨w2.heap.size, 3, none⟩ = some (.int .i64 ((k : Int) + 1))) ∧
                  OwnTab wx w1.heap.size (.slice al lns.length capl) lns ∧ LineOk wx w1.heap.size (.slice al lns.length capl) (kb, .slice ar ln.runes.length capr, .slice ae ln.els.length cape) ln ∧ Below w.heap.size w wx ∧ Newing w1 w.heap.size st sh (.slice al lns.length capl) wx ∧ w2.heap.size + 1 ≤ wx.heap.size) := by
                intro wx hx
                have ha : Below w2.heap.size w2 wx := ((Below.refl _ _).alloc (Nat.le_refl _) _).trans (hx.mono (by omega))
                have h1 : ∀ b o, b < w2.heap.size → wx.cell? ⟨b, o, none⟩ = w2.cell? ⟨b, o, none⟩ := (bcell ha).1
                have h2 : ∀ b o, b < w2.heap.size → wx.frozen? ⟨b, o, none⟩ = w2.frozen? ⟨b, o, none⟩ := (bcell ha).2
                refine ⟨⟨by rw [h1 _ _ gz]; exact t0, by rw [h1 _ _ gz]; exact t1, by rw [h1 _ _ gz]; exact t2, fun o => by rw [h2 _ _ gz]; exact tf2 o⟩, ⟨by rw [h1 _ _ gz1]; exact q0, by rw [h1 _ _ gz1]; exact q1, by rw [h1 _ _ gz1]; exact q2, fun o => by rw [h2 _ _ gz1]; exact qf2 o⟩,
                  ⟨by rw [hx.cell (by simp), cell_new rfl]; rfl, by rw [hx.cell (by simp), cell_new rfl]; rfl, by rw [hx.cell (by simp), cell_new rfl]; rfl, by rw [hx.cell (by simp), cell_new rfl]; rfl⟩, hO2.below ha, LX.out.below ha, HBW.out.trans (ha.mono (by omega)), HN2.out.far (by omega) ha, by have := hx.size; simpa using this⟩
              clear hpl hnl hb2
              go_wp2_with fail
              refine (twice_any _ st sh kb _ _ _ ln lns _ (hO2.rd.below ((Below.refl _ _).alloc (Nat.le_refl _) _)) (hrr.below ((Below.refl _ _).alloc (Nat.le_refl _) _) hrr.2.1) hkl.symm (by omega) (by have := hgl.few; omega) (fun o ho => by have := (HG.out o ho).few; omega) hgl.some (fun o ho => (HG.out o ho).some) ⟨_, _, _, rfl⟩).mono ?_
              rintro e w3 ⟨rfl, hb3⟩
              simp only [World.size_alloc] at hb3
              have HB3 := hide hb3
              obtain ⟨⟨a0, a1, a2, a3⟩, ⟨p0, p1, p2, p3⟩, ⟨l0, l1, l2, l3⟩, hO3, hL3, hbw3, hN3, hz3⟩ := FACTS.out w3 hb3
              have HBW3 := hide hbw3
              have gy : w.heap.size + 1 + 1 < w3.heap.size := by omega
              have gy1 : w.heap.size + 1 < w3.heap.size := by omega
              have hre3 := hL3.2.2.1
              clear hb3 hbw3 hN3 hL3 t0 t1 t2 tf2 q0 q1 q2 qf2 hO2 hrr hre hO hbr hbe
              cases htw : Tm.twice lns ln
              · go_wp2_with fail
                refine (light_any _ _ _ _ ln.els _ hre3 (by have := hgl.els; omega)).mono ?_
                rintro e w4 ⟨rfl, hb4⟩
                obtain ⟨⟨a0, a1, a2, a3⟩, ⟨p0, p1, p2, p3⟩, ⟨l0, l1, l2, l3⟩, hO4, hL4, hbw4, hN4, hz4⟩ := FACTS.out w4 (HB3.out.trans (hb4.mono hz3))
                have HBW4 := hide hbw4
                have HN4 := hide hN4
                have gx : w.heap.size + 1 + 1 < w4.heap.size := by omega
                have gx1 : w.heap.size + 1 < w4.heap.size := by omega
                cases hlg : ln.els.any Tm.lightEl
                · have HS : Hid (Tm.ReadAt (bs.map (·.data.toList)) (k + 1) (lns ++ [ln])) := by
                    unfold Hid Tm.ReadAt
                    rw [HA2.out, Tm.readLines_ok HSK.out HPL.out htw hlg]; simp
                  obtain ⟨xs, hxl, hown4, hok4⟩ := hO4
                  have HOK := hide hok4
                  have hwa : w4.grownBy (w4.alloc (.cells #[.string kb, .slice ar ln.runes.length capr, .slice ae ln.els.length cape, .int .i64 ((k : Int) + 1)] 86)) none := World.grownBy_alloc _ _ _
                  have hlk' : lns.length ≤ 8193 := by omega
                  clear hb4 hbw4 hN4 hO3 hre3 hok4
                  go_wp2_with (at_builtin; go_must (refine wpList_append_own_at _ rfl _ _ 25 rfl w1.heap.size 86 i0 (.agg #[.string ⟨#[]⟩, .slice none 0 0, .slice none 0 0, .int .i64 0]) 4 72 Tryz.underlying25 hi hz0 hz1 hz2 rfl (by decide) _ _ _ rfl (hown4.alloc _) ⟨w4.heap.size, 0, none⟩ 1 1 (lineCells (kb, .slice ar ln.runes.length capr, .slice ae ln.els.length cape) ((k : Int) + 1)) rfl rfl (news_line rfl) (lineCells_one rfl rfl) (by unfold maxLen; omega) (by omega) (by simp; omega) ?_))
                  intro v' w5 hown5 hgrow _ hat5
                  have hO5 : OwnTab w5 w1.heap.size v' (lns ++ [ln]) := by
                    refine OwnTab.snoc hxl (fun k h h' => (HOK.out k h h').below ((Below.refl _ _).alloc (Nat.le_refl _) _)) (hL4.below ((Below.refl _ _).alloc (Nat.le_refl _) _)) ?_ hgrow (by simpa using hat5)
                    rw [HNL.out]; exact hown5
                  have hN5 : Newing w1 w.heap.size st sh (.slice al lns.length capl) w5 := (HN4.out.far (by omega) ((Below.refl _ _).alloc (Nat.le_refl _) _)).grown (by omega) hgrow (fun g hg => (hown4.lt g hg).1)
                  have HN5 : Hid (Newing w1 w.heap.size st sh v' (w5.setCell ⟨w.heap.size + 1 + 1, 0, none⟩ v')) := hN5.set
                  have HO5 : Hid (OwnTab (w5.setCell ⟨w.heap.size + 1 + 1, 0, none⟩ v') w1.heap.size v' (lns ++ [ln])) := hO5.setCell (by simp; omega) _
                  have z0 : w5.cell? ⟨w.heap.size + 1 + 1, 0, none⟩ = some (.slice al lns.length capl) := hN5.c0
                  have zf : ∀ o, w5.frozen? ⟨w.heap.size + 1 + 1, o, none⟩ = false := hN5.fr
                  have HG5 : Hid (∀ o ∈ lns ++ [ln], Tm.Good o) := by
                    intro o ho
                    rcases List.mem_append.1 ho with h | h
                    · exact HG.out o h
                    · simp at h; subst h; exact hgl
                  obtain ⟨al', capl', rfl⟩ := hO5.shape
                  clear hown5 hgrow hat5 hO5 hN5 hown4 hL4 hwa
                  go_wp2
                  go_roundw
                  case rel => exact ⟨k + 1, lns ++ [ln], .slice al' (lns.length + 1) capl', by go_num, by omega, by simp; omega, by simpa using HN5.out, by simpa using HO5.out, HS.out, HG5.out⟩
                  case measure => simp [intOf]; omega
                · have HE : Hid (Tm.readLines [] 1 (bs.map (·.data.toList)) = (lns, some ((k : Int) + 1, 4))) := by
                    unfold Hid
                    rw [HA2.out, Tm.readLines_light HSK.out HPL.out htw hlg]
                  clear hb4 hbw4 hN4 hL4 hO3 hre3
                  go_wp2
                  refine bodyPost_ret (v := .tuple #[.agg #[.slice al lns.length capl, .int .i64 st, .bool sh], .int .i64 ((k : Int) + 1), .int .i64 4]) (by simp [results, Tryz.results11, go_sem, p0, p1, p2]) rfl ⟨ERR.out 4 HE.out w4 _ hO4 ?_, ?_⟩
                  · (repeat (first | with_reducible exact Up.refl _ _ | with_reducible refine Up.drew ?_ | with_reducible refine Up.alloc ?_ _ | with_reducible refine Up.setCell ?_ (by simp) _))
                  · (repeat (first | with_reducible exact HBW4.out | with_reducible refine Below.drew ?_ | with_reducible refine Below.setCell ?_ (by simp) _ | with_reducible refine Below.alloc ?_ (by simp [World.setCell]; omega) _))
              · have HE : Hid (Tm.readLines [] 1 (bs.map (·.data.toList)) = (lns, some ((k : Int) + 1, 2))) := by
                  unfold Hid
                  rw [HA2.out, Tm.readLines_twice HSK.out HPL.out htw]
                go_wp2
                refine bodyPost_ret (v := .tuple #[.agg #[.slice al lns.length capl, .int .i64 st, .bool sh], .int .i64 ((k : Int) + 1), .int .i64 2]) (by simp [results, Tryz.results11, go_sem, p0, p1, p2]) rfl ⟨ERR.out 2 HE.out w3 _ hO3 ?_, ?_⟩
                · (repeat (first | with_reducible exact Up.refl _ _ | with_reducible refine Up.drew ?_ | with_reducible refine Up.alloc ?_ _ | with_reducible refine Up.setCell ?_ (by simp) _))
                · (repeat (first | with_reducible exact HBW3.out | with_reducible refine Below.drew ?_ | with_reducible refine Below.setCell ?_ (by simp) _ | with_reducible refine Below.alloc ?_ (by simp [World.setCell]; omega) _))
        · have HE : Hid (Tm.newTable s.data.toList st = (lns, (Tm.together lns).1, (Tm.together lns).2)) := by
            refine Tm.newTable_all HOPT.out HLONG.out ?_
            rw [← HSP.out, HAT.out, List.drop_eq_nil_of_le (by simp; omega)]
            rfl
          go_wp2_with fail
          refine (together_any _ st sh lns _ hO.rd (by omega) (fun o ho => (HG.out o ho).few) (fun o ho => by have := (HG.out o ho).els; omega) (fun o ho => (HG.out o ho).some)).mono ?_
          rintro e w2 ⟨rfl, hb2⟩
          have fa : ∀ b o, b < wr.heap.size → w2.cell? ⟨b, o, none⟩ = wr.cell? ⟨b, o, none⟩ := (bcell hb2).1
          have ff : ∀ b o, b < wr.heap.size → w2.frozen? ⟨b, o, none⟩ = wr.frozen? ⟨b, o, none⟩ := (bcell hb2).2
          rw [← fa _ _ (by omega)] at t0 t1 t2 q0 q1 q2
          have tf2 : ∀ o, w2.frozen? ⟨w.heap.size + 1 + 1, o, none⟩ = false := fun o => by rw [ff _ _ (by omega)]; exact tf o
          have qf2 : ∀ o, w2.frozen? ⟨w.heap.size + 1, o, none⟩ = false := fun o => by rw [ff _ _ (by omega)]; exact qf o
          have hO2 := hO.below hb2
          have HBW := hide (HB0.out.trans (hb2.mono (by have := HB0.out.size; omega)))
          clear fa ff tf qf hO hb2
          generalize (Tm.together lns).1 = n1 at *
          generalize (Tm.together lns).2 = n2 at *
          go_wp2
          refine bodyPost_ret (v := .tuple #[.agg #[.slice al lns.length capl, .int .i64 st, .bool sh], .int .i64 n1, .int .i64 n2]) (by simp [results, Tryz.results11, go_sem, q0, q1, q2]) rfl ⟨?_, ?_⟩
          · rw [HE.out]
            refine ⟨_, rfl, (hO2.only (b := w.heap.size + 1) ?_ (by omega)).own (by omega), HG.out, by simp only; omega, fun g hg => by have := hO2.lt g hg; omega⟩
            (repeat (first | with_reducible exact Up.refl _ _ | with_reducible refine Up.drew ?_ | with_reducible refine Up.alloc ?_ _ | with_reducible refine Up.setCell ?_ (by simp) _))
          · (repeat (first | with_reducible exact HBW.out | with_reducible refine Below.drew ?_ | with_reducible refine Below.setCell ?_ (by simp) _ | with_reducible refine Below.alloc ?_ (by simp [World.setCell]; omega) _))
end Go.Proofs.YtmnjjjhmnhfapaaGreatDoor
