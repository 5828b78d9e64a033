import Derived.Deep.CutBlock
import Derived.Test.YtmnjjjhmnhfapaaGreatDoorMRefElem
import Derived.Test.YtmnjjjhmnhfapaaGreatDoorMRefParts
namespace Go.Proofs.YtmnjjjhmnhfapaaGreatDoor
open Go.RowKit
theorem Tryz.infoInt : (Tryz.prog.info? 3).map (fun i => (i.zero, i.size, i.bytes)) = some (some (.int .i64 0), 1, 8) := by kernel_rfl
theorem Tryz.infoEl : (Tryz.prog.info? 102).map (fun i => (i.zero, i.size, i.bytes)) = some (some (.agg #[.int .i64 0, .int .i64 0, .int .i64 0, .bool false]), 4, 32) := by kernel_rfl
def parseAns (r : Option Tm.Ln) (n : Int) (B : Nat) (e : Ending) (w' : World) : Prop :=
 ∃ (kb : ByteArray) (vr ve : Value) (ok : Bool), e = .returned (.tuple #[.agg #[.string kb, vr, ve, .int .i64 n], .bool ok]) ∧ (∃ a m c, vr = .slice a m c) ∧ (∃ a m c, ve = .slice a m c) ∧
  (if ok then ∃ ln, r = some ln ∧ ln.kind = kb.data.toList ∧ ln.num = n ∧ Reads w' vr 1 ln.runes.length (ints ln.runes) ∧ Reads w' ve 4 ln.els.length (elsCells ln.els) ∧
   (∀ g, vr.ownBlock = some g → B ≤ g) ∧ (∀ g, ve.ownBlock = some g → B ≤ g) else r = none)
theorem strs_at {w : World} {a : Option Addr} {m cap : Nat} {bs : List ByteArray} (h : Reads w (.slice a m cap) 1 bs.length (bs.map Value.string)) {k : Nat} (hk : k < bs.length) :
  ∃ g off, a = some ⟨g, off, none⟩ ∧ g < w.heap.size ∧ w.cell? ⟨g, off + k, none⟩ = some (.string bs[k]) := by
 obtain ⟨g, off, cap', he, hg, hc⟩ := h.form (by simp; omega)
 cases he
 exact ⟨g, off, rfl, hg, hc k _ (by simp [hk])⟩
theorem cset_same {w : World} {a : Addr} {u v : Value} (h : w.cell? a = some u) : (w.setCell a v).cell? a = some v := World.cell?_setCell_same _ _ _ h
theorem cset_other {w : World} {a b : Addr} {v : Value} (h : a ≠ b) : (w.setCell a v).cell? b = w.cell? b := World.cell?_setCell_other _ _ _ _ h
theorem news_one {w : World} {x : Value} {t : TypeId} : ∀ j u, [x][j]? = some u → (w.alloc (.cells #[x] t)).cell? ((⟨w.heap.size, 0, none⟩ : Addr).add j) = some u := by
 intro j u hj
 match j, hj with
 | 0, hj => simp at hj; subst hj; simp [Addr.add]
theorem owns_below {w w' : World} {base : Nat} {e : TypeId} {size : Nat} {v : Value} {n : Nat} {xs : List Value} (h : w.ownsRow base e size v n xs) (hb : Below w.heap.size w w') : w'.ownsRow base e size v n xs :=
 h.kept (row := none) ⟨hb.os, hb.tape, hb.output, hb.size, fun k hk _ => hb.block k hk⟩ (by cases hv : v.ownBlock <;> simp)
theorem owns_setCell {w : World} {base : Nat} {e : TypeId} {size : Nat} {v : Value} {n : Nat} {xs : List Value} (h : w.ownsRow base e size v n xs) {a : Addr} (ha : v.ownBlock ≠ some a.block) (u : Value) : (w.setCell a u).ownsRow base e size v n xs := by
 refine ⟨h.1, ?_⟩
 rcases h.2 with h2 | ⟨g, cap, cur, hv, hg, hh, r⟩
 ·exact Or.inl h2
 ·refine Or.inr ⟨g, cap, cur, hv, hg, ?_, r⟩
  rw [Below.heap_setCell _ _ _ _ (by subst hv; simp [Value.ownBlock] at ha; exact ha)]; exact hh
theorem news_four {w : World} {x : Tm.El} {t : TypeId} {H : Nat} (hH : w.heap.size = H) : ∀ j u, (elCells x)[j]? = some u → (w.alloc (.cells #[.int .i64 x.p, .int .i64 x.s, .int .i64 x.t, .bool x.v] t)).cell? ((⟨H, 0, none⟩ : Addr).add j) = some u := by
 subst hH
 intro j u hj
 match j, hj with
 | 0, hj => simp [elCells] at hj; subst hj; simp [Addr.add]
 | 1, hj => simp [elCells] at hj; subst hj; simp [Addr.add]
 | 2, hj => simp [elCells] at hj; subst hj; simp [Addr.add]
 | 3, hj => simp [elCells] at hj; subst hj; simp [Addr.add]
structure Only (b : Nat) (w w' : World) : Prop where
 size : w'.heap.size = w.heap.size
 block : ∀ g, g ≠ b → w'.heap[g]? = w.heap[g]?
theorem Only.refl (b : Nat) (w : World) : Only b w w := ⟨rfl, fun _ _ => rfl⟩
theorem Only.setCell {b : Nat} {w w' : World} (h : Only b w w') {p : Addr} (hp : p.block = b) (u : Value) : Only b w (w'.setCell p u) :=
 ⟨by simpa [World.setCell] using h.size, fun g hg => by rw [Below.heap_setCell _ _ _ _ (by omega)]; exact h.block g hg⟩
theorem Only.drew {b : Nat} {w w' : World} (h : Only b w w') : Only b w w'.drew := ⟨h.size, h.block⟩
theorem Only.reads {b : Nat} {w w' : World} (h : Only b w w') {v : Value} {size n : Nat} {xs : List Value} (hr : Reads w v size n xs) (hb : ∀ g, v.ownBlock = some g → g ≠ b) : Reads w' v size n xs :=
 hr.of_blocks (by rw [h.size]; exact Nat.le_refl _) (fun g hg => h.block g (hb g hg))
structure Making (w1 : World) (kb : ByteArray) (n : Int) (vr ve : Value) (wr : World) : Prop where
 below : Below w1.heap.size w1 wr
 room : w1.heap.size + 1 ≤ wr.heap.size
 c0 : wr.cell? ⟨w1.heap.size, 0, none⟩ = some (.string kb)
 c1 : wr.cell? ⟨w1.heap.size, 1, none⟩ = some vr
 c2 : wr.cell? ⟨w1.heap.size, 2, none⟩ = some ve
 c3 : wr.cell? ⟨w1.heap.size, 3, none⟩ = some (.int .i64 n)
 fr : ∀ o, wr.frozen? ⟨w1.heap.size, o, none⟩ = false
theorem Making.start (w1 : World) (kb : ByteArray) (n : Int) (vr ve : Value) : Making w1 kb n vr ve (w1.alloc (.cells #[.string kb, vr, ve, .int .i64 n] 86)) :=
 ⟨(Below.refl _ _).alloc (Nat.le_refl _) _, by simp, by simp, by simp, by simp, by simp, by simp⟩
theorem Making.grown {w1 : World} {kb : ByteArray} {n : Int} {vr ve : Value} {wr w2 : World} {row : Option Nat} (h : Making w1 kb n vr ve wr) (hg : wr.grownBy w2 row) (hr : ∀ k, row = some k → w1.heap.size + 1 ≤ k) : Making w1 kb n vr ve w2 := by
 have hL : w2.heap[w1.heap.size]? = wr.heap[w1.heap.size]? := hg.block _ (by have := h.room; omega) (fun e => by have := hr _ e.symm; omega)
 have hc : ∀ o, w2.cell? ⟨w1.heap.size, o, none⟩ = wr.cell? ⟨w1.heap.size, o, none⟩ := fun o => World.cell?_of_block (w := wr) hL
 have hf : ∀ o, w2.frozen? ⟨w1.heap.size, o, none⟩ = wr.frozen? ⟨w1.heap.size, o, none⟩ := fun o => World.frozen?_of_block (w := wr) hL
 exact ⟨h.below.grown hg (by have := h.room; omega) (fun k hk => by have := hr k hk; omega), Nat.le_trans h.room hg.size, by rw [hc]; exact h.c0, by rw [hc]; exact h.c1, by rw [hc]; exact h.c2, by rw [hc]; exact h.c3, fun o => by rw [hf]; exact h.fr o⟩
theorem Making.alloc {w1 : World} {kb : ByteArray} {n : Int} {vr ve : Value} {wr : World} (h : Making w1 kb n vr ve wr) (o : Obj) : Making w1 kb n vr ve (wr.alloc o) :=
 h.grown (World.grownBy_alloc wr o none) (fun k hk => by cases hk)
theorem Making.far {w1 : World} {kb : ByteArray} {n : Int} {vr ve : Value} {wr w2 : World} (h : Making w1 kb n vr ve wr) (hb : Below wr.heap.size wr w2) : Making w1 kb n vr ve w2 := by
 have hc : ∀ o, w2.cell? ⟨w1.heap.size, o, none⟩ = wr.cell? ⟨w1.heap.size, o, none⟩ := fun o => hb.cell (by have := h.room; simp; omega)
 have hf : ∀ o, w2.frozen? ⟨w1.heap.size, o, none⟩ = wr.frozen? ⟨w1.heap.size, o, none⟩ := fun o => hb.frozen (by have := h.room; simp; omega)
 exact ⟨h.below.trans (hb.mono (by have := h.room; omega)), Nat.le_trans h.room hb.size, by rw [hc]; exact h.c0, by rw [hc]; exact h.c1, by rw [hc]; exact h.c2, by rw [hc]; exact h.c3, fun o => by rw [hf]; exact h.fr o⟩
theorem Making.runes {w1 : World} {kb : ByteArray} {n : Int} {vr ve v' : Value} {wr : World} (h : Making w1 kb n vr ve wr) : Making w1 kb n v' ve (wr.setCell ⟨w1.heap.size, 1, none⟩ v') :=
 ⟨h.below.setCell (by simp) _, by simpa [World.setCell] using h.room, by rw [cset_other (by simp)]; exact h.c0, cset_same h.c1, by rw [cset_other (by simp)]; exact h.c2, by rw [cset_other (by simp)]; exact h.c3, fun o => by simp [h.fr]⟩
theorem Making.elems {w1 : World} {kb : ByteArray} {n : Int} {vr ve v' : Value} {wr : World} (h : Making w1 kb n vr ve wr) : Making w1 kb n vr v' (wr.setCell ⟨w1.heap.size, 2, none⟩ v') :=
 ⟨h.below.setCell (by simp) _, by simpa [World.setCell] using h.room, by rw [cset_other (by simp)]; exact h.c0, by rw [cset_other (by simp)]; exact h.c1, cset_same h.c2, by rw [cset_other (by simp)]; exact h.c3, fun o => by simp [h.fr]⟩
set_option maxRecDepth 100000 in
set_option maxHeartbeats 1000000 in
theorem parse_any (s : ByteArray) (n : Int) (w : World) (hs : s.size ≤ 8192) :
  Calls Tryz.prog 36 #[.string s, .int .i64 n] w fun e w' => parseAns (Tm.parse s.data.toList n) n w.heap.size e w' ∧ Below w.heap.size w w' := by
 obtain ⟨i0, hi, hz0, hz1, hz2⟩ := info_parts Tryz.infoInt
 obtain ⟨i1, hi', hy0, hy1, hy2⟩ := info_parts Tryz.infoEl
 go_enter Tryz.func36, Tryz.ntmps36
 go_wp2_with fail
 refine (words_any s 32 32 rfl _ hs).mono ?_
 rintro e w1 ⟨v, bs, rfl, hown, hsp, hb⟩
 have hsz := hide (word_sizes hsp hs)
 obtain ⟨a, cap, rfl⟩ := (Reads.of_owns hown).shape
 have HR : Hid (∀ k (hk : k < bs.length), _) := fun k hk => strs_at (Reads.of_owns hown) hk
 have hb0 : Below w.heap.size w w1 := ((Below.refl _ _).alloc (Nat.le_refl _) _).trans (hb.mono (by simp))
 have hpos : 0 < bs.length := by
  have h := Tm.split_ne 32 s.data.toList
  rw [← hsp] at h
  exact List.length_pos_iff.2 (fun h' => h (by rw [h']; rfl))
 have hlen : bs.length ≤ 8193 := by
  have h := Tm.split_count 32 s.data.toList
  rw [← hsp, List.length_map, len_bytes] at h
  omega
 obtain ⟨g, off, rfl, hg, hk0⟩ := HR.out 0 hpos
 simp only [Nat.add_zero] at hk0
 have hz1w := hb.size
 simp at hz1w
 have fr : ∀ o, w1.cell? ⟨w.heap.size, o, none⟩ = (w.alloc (.cells #[.string ⟨#[]⟩, .slice none 0 0, .slice none 0 0, .int .i64 0] 86)).cell? ⟨w.heap.size, o, none⟩ := fun o => hb.cell (by simp)
 have ff : ∀ o, w1.frozen? ⟨w.heap.size, o, none⟩ = false := fun o => by rw [hb.frozen (by simp)]; simp
 have r0 : w1.cell? ⟨w.heap.size, 0, none⟩ = some (.string ⟨#[]⟩) := by rw [fr]; simp
 have r1 : w1.cell? ⟨w.heap.size, 1, none⟩ = some (.slice none 0 0) := by rw [fr]; simp
 have r2 : w1.cell? ⟨w.heap.size, 2, none⟩ = some (.slice none 0 0) := by rw [fr]; simp
 have r3 : w1.cell? ⟨w.heap.size, 3, none⟩ = some (.int .i64 0) := by rw [fr]; simp
 have HB := hide hb0
 have HSP := hide hsp
 generalize hkb : bs[0] = kb at *
 have HKB := hide hkb
 clear hown hb hb0 fr hsp hkb
 go_upto_block 0 with fail
 go_cut [8] from 22 to 52 (fun t wx => ∃ (i : Nat) (rs : List Int) (vr : Value), t = .int .i64 i ∧ i ≤ bs.length ∧ rs.length ≤ i ∧ Making w1 kb n vr (.slice none 0 0) wx ∧ wx.ownsRow (w1.heap.size + 1) 3 1 vr rs.length (ints rs) ∧
   ((i = bs.length ∧ Tm.runesTo (bs.map (·.data.toList)).tail = some (rs, none)) ∨ (i < bs.length ∧ Tm.runesTo (bs.map (·.data.toList)).tail = some (rs, some ((bs.map (·.data.toList)).drop (i + 1))))))
 case first =>
  go_wp2_with fail
  go_loopw [8] (fun t wx => ∃ (i : Nat) (rs : List Int) (vr : Value), t = .int .i64 i ∧ 1 ≤ i ∧ i ≤ bs.length ∧ rs.length ≤ i ∧ Making w1 kb n vr (.slice none 0 0) wx ∧ wx.ownsRow (w1.heap.size + 1) 3 1 vr rs.length (ints rs) ∧ Tm.RunesAt (bs.map (·.data.toList)) i rs)
   (fun t _ => bs.length - (intOf t).toNat)
  case atStart => exact ⟨1, [], _, rfl, Nat.le_refl _, hpos, by simp, Making.start w1 kb n _ _, World.ownsRow_nil _ _ _ _, Tm.RunesAt_one _⟩
  case round =>
   obtain ⟨k, rs, vr, rfl, hk1, hk, hrs, hM, hown, hat⟩ := hrel
   obtain ⟨ar, capr, rfl⟩ := (Reads.of_owns hown).shape
   have HAT := hide hat
   have hr := hM.room
   clear hat
   by_cases hlt : k < bs.length
   ·obtain ⟨g', off', he, _, hck⟩ := HR.out k hlt
    cases he
    rw [← hM.below.cell (p := ⟨g, off + k, none⟩) hg] at hck
    have hsk := hsz.out bs[k] (List.getElem_mem hlt)
    generalize hbk : bs[k] = bk at *
    have HBK := hide hbk
    clear hbk
    have hwk : ∃ h, (bs.map (·.data.toList))[k]'h = bk.data.toList := ⟨by simpa using hlt, by simp [HBK.out]⟩
    obtain ⟨hkl, hwk⟩ := hwk
    have HWK := hide hwk
    clear hwk
    have q0 : wr.cell? ⟨w.heap.size, 0, none⟩ = some (.string ⟨#[]⟩) := by rw [hM.below.cell (by simp; omega)]; exact r0
    have q1 : wr.cell? ⟨w.heap.size, 1, none⟩ = some (.slice none 0 0) := by rw [hM.below.cell (by simp; omega)]; exact r1
    have q2 : wr.cell? ⟨w.heap.size, 2, none⟩ = some (.slice none 0 0) := by rw [hM.below.cell (by simp; omega)]; exact r2
    have q3 : wr.cell? ⟨w.heap.size, 3, none⟩ = some (.int .i64 0) := by rw [hM.below.cell (by simp; omega)]; exact r3
    have qf : ∀ o, wr.frozen? ⟨w.heap.size, o, none⟩ = false := fun o => by rw [hM.below.frozen (by simp; omega)]; exact ff o
    have m0 := hM.c0
    have m1 := hM.c1
    have m2 := hM.c2
    have m3 := hM.c3
    have mf := hM.fr
    have hne : ¬ w1.heap.size = w.heap.size := by omega
    have hne' : ¬ w.heap.size = w1.heap.size := by omega
    cases heq : (bk.toList == [61])
    ·have hb61 : bk.data.toList ≠ [61] := by rw [← ByteArray.toList_eq]; simpa using heq
     go_wp2_with fail
     refine (number_any bk _ (by unfold maxLen; omega)).mono ?_
     rintro e w2 ⟨rfl, rfl⟩
     generalize hp : Tm.num bk.data.toList = p
     have HP := hide hp
     clear hp
     by_cases hbad : p < 0 ∨ 1114111 < p
     ·have HN := hide (Tm.RunesAt_bad HAT.out hkl (by rw [HWK.out]; exact hb61) (by rw [HWK.out, HP.out]; exact hbad))
      have hlow : (p < 0 ∧ decide (p < 0) = true) ∨ (0 ≤ p ∧ 1114111 < p) := by simp; omega
      clear hbad hb61
      rcases hlow with ⟨hlow, _⟩ | ⟨hlow, hhi⟩
      all_goals
       go_wp2
       refine bodyPost_ret (v := .tuple #[.agg #[.string kb, .slice ar rs.length capr, .slice none 0 0, .int .i64 n], .bool false]) (by simp [results, Tryz.results36, go_sem, q0, q1, q2, q3]) rfl ⟨⟨kb, _, _, false, rfl, ⟨_, _, _, rfl⟩, ⟨_, _, _, rfl⟩, ?_⟩, ?_⟩
       ·show Tm.parse _ _ = none
        unfold Tm.parse
        rw [← HSP.out]
        exact Tm.parseWords_norunes HN.out
       ·(repeat (first | with_reducible exact HB.out.trans (hM.below.mono (by omega)) | with_reducible refine Below.drew ?_ | with_reducible refine Below.setCell ?_ (by simp) _))
     ·have hp0 : 0 ≤ p := by omega
      have hp1 : p ≤ 1114111 := by omega
      have HN := hide (Tm.RunesAt_step HAT.out hkl (by rw [HWK.out]; exact hb61) (by rw [HWK.out, HP.out]; exact hbad))
      clear hbad hb61
      rw [HWK.out, HP.out] at HN
      have hd0 : decide (p < 0) = false := by simp; omega
      have hd1 : decide (1114111 < p) = false := by simp; omega
      go_wp2_with (at_builtin; refine wpList_append_own _ rfl _ _ 83 rfl (w1.heap.size + 1) 3 i0 (.int .i64 0) 1 8 Tryz.underlying83 hi hz0 hz1 hz2 rfl (by decide) _ _ _ rfl (hown.alloc _) ⟨w2.heap.size, 0, none⟩ 1 1 [.int .i64 p] rfl rfl news_one (by intro u hu; simp at hu; subst hu; rfl) (by unfold maxLen; omega) (by omega) (by simp; omega) ?_)
      intro v' w3 hown' hgrow _
      have R := (hM.alloc (.cells #[.int .i64 p] 3)).grown hgrow (fun k hk => (hown.lt k hk).1)
      have s1 := R.c1
      have sf := R.fr
      have hown2 : w3.ownsRow (w1.heap.size + 1) 3 1 v' (rs ++ [p]).length (ints (rs ++ [p])) := by simpa [ints] using hown'
      have R2 : Making w1 kb n v' (.slice none 0 0) (w3.setCell ⟨w1.heap.size, 1, none⟩ v') := R.runes
      have hown3 : (w3.setCell ⟨w1.heap.size, 1, none⟩ v').ownsRow (w1.heap.size + 1) 3 1 v' (rs ++ [p]).length (ints (rs ++ [p])) := ownsRow_setCell_below hown2 (by simp) _
      obtain ⟨ar', capr', rfl⟩ := (Reads.of_owns hown2).shape
      clear hown' hgrow hown hown2 hM R q0 q1 q2 q3 qf m0 m1 m2 m3 mf
      go_wp2
      go_roundw
      case rel => exact ⟨k + 1, rs ++ [p], .slice ar' (rs.length + 1) capr', by go_num, by omega, by omega, by simp; omega, by simpa using R2, by simpa using hown3, HN.out⟩
      case measure => simp [intOf]; omega
    ·have hb61 : bk.data.toList = [61] := by rw [← ByteArray.toList_eq]; simpa using heq
     have HN := hide (Tm.RunesAt_sign HAT.out hkl (by rw [HWK.out]; exact hb61))
     clear hb61
     go_wp2
     go_meet
     case rel => exact ⟨k, rs, _, rfl, hk, hrs, hM, hown, .inr ⟨hlt, HN.out⟩⟩
   ·have HE := hide (Tm.RunesAt_end HAT.out (by simp; omega))
    go_wp2
    go_meet
    case rel => exact ⟨k, rs, _, rfl, hk, hrs, hM, hown, .inl ⟨by omega, HE.out⟩⟩
 case rest =>
  obtain ⟨i, rs, vr, rfl, hi1, hrs, hM, hown, hru⟩ := hcut
  obtain ⟨ar, capr, rfl⟩ := (Reads.of_owns hown).shape
  have HRU := hide hru
  have hr := hM.room
  clear hru
  have hMz : ∀ g, (Value.slice ar rs.length capr).ownBlock = some g → g < wc.heap.size := fun g hg => (hown.lt g hg).2
  go_wp2_with fail
  go_loopw [10] (fun t wx => ∃ (k : Nat) (es : List Tm.El) (ve : Value), t = .int .i64 k ∧ i + 1 ≤ k ∧ k ≤ bs.length + 1 ∧ es.length ≤ k ∧ Making w1 kb n (.slice ar rs.length capr) ve wx ∧ wx.ownsRow (w1.heap.size + 1) 3 1 (.slice ar rs.length capr) rs.length (ints rs) ∧
    wx.ownsRow wc.heap.size 102 4 ve es.length (elsCells es) ∧ wc.heap.size ≤ wx.heap.size ∧ Tm.ElemsAt (bs.map (·.data.toList)) (i + 1) k es)
   (fun t _ => bs.length + 1 - (intOf t).toNat)
  case atStart => exact ⟨i + 1, [], _, by go_num, Nat.le_refl _, by omega, by simp, hM, hown, World.ownsRow_nil _ _ _ _, Nat.le_refl _, Tm.ElemsAt_one _ _⟩
  case round =>
   obtain ⟨k, es, ve, rfl, hk1, hk, hes, hM', hown', hown2, hzz, hat⟩ := hrel
   obtain ⟨ae, cape, rfl⟩ := (Reads.of_owns hown2).shape
   have HAT := hide hat
   clear hat
   by_cases hlt : k < bs.length
   ·obtain ⟨g', off', he, _, hck⟩ := HR.out k hlt
    cases he
    rw [← hM'.below.cell (p := ⟨g, off + k, none⟩) hg] at hck
    have hsk := hsz.out bs[k] (List.getElem_mem hlt)
    generalize hbk : bs[k] = bk at *
    have HBK := hide hbk
    clear hbk
    have hwk : ∃ h, (bs.map (·.data.toList))[k]'h = bk.data.toList := ⟨by simpa using hlt, by simp [HBK.out]⟩
    obtain ⟨hkl, hwk⟩ := hwk
    have HWK := hide hwk
    clear hwk
    go_wp2_with fail
    refine (element_any bk _ hsk).mono ?_
    rintro e w2 ⟨⟨p, q, t, vb, ok, rfl, hel⟩, hb2⟩
    have hM2 := hM'.far hb2
    have hownr := owns_below hown' hb2
    have howne := owns_below hown2 hb2
    have hz2' := hb2.size
    have hr2 := hM2.room
    have q0 : w2.cell? ⟨w.heap.size, 0, none⟩ = some (.string ⟨#[]⟩) := by rw [hM2.below.cell (by simp; omega)]; exact r0
    have q1 : w2.cell? ⟨w.heap.size, 1, none⟩ = some (.slice none 0 0) := by rw [hM2.below.cell (by simp; omega)]; exact r1
    have q2 : w2.cell? ⟨w.heap.size, 2, none⟩ = some (.slice none 0 0) := by rw [hM2.below.cell (by simp; omega)]; exact r2
    have q3 : w2.cell? ⟨w.heap.size, 3, none⟩ = some (.int .i64 0) := by rw [hM2.below.cell (by simp; omega)]; exact r3
    have qf : ∀ o, w2.frozen? ⟨w.heap.size, o, none⟩ = false := fun o => by rw [hM2.below.frozen (by simp; omega)]; exact ff o
    have m0 := hM2.c0
    have m1 := hM2.c1
    have m2 := hM2.c2
    have m3 := hM2.c3
    have mf := hM2.fr
    have hne : ¬ w1.heap.size = w.heap.size := by omega
    have hne' : ¬ w.heap.size = w1.heap.size := by omega
    have hn2 : ¬ w1.heap.size = w2.heap.size := by omega
    have hn3 : ¬ w.heap.size = w2.heap.size := by omega
    have hn4 : ¬ w1.heap.size = w2.heap.size + 1 := by omega
    have hn5 : w1.heap.size < w2.heap.size := by omega
    have hn6 : w.heap.size < w2.heap.size := by omega
    clear hM' hown' hown2 hb2 hck
    cases ok
    ·have HN := hide (Tm.ElemsAt_bad HAT.out hkl (by rw [HWK.out]; simpa using hel))
     clear hel hownr howne
     go_wp2
     refine bodyPost_ret (v := .tuple #[.agg #[.string kb, .slice ar rs.length capr, .slice ae es.length cape, .int .i64 n], .bool false]) (by simp [results, Tryz.results36, go_sem, q0, q1, q2, q3, hn6]) rfl ⟨⟨kb, _, _, false, rfl, ⟨_, _, _, rfl⟩, ⟨_, _, _, rfl⟩, ?_⟩, ?_⟩
     ·show Tm.parse _ _ = none
      unfold Tm.parse
      rw [← HSP.out]
      rcases HRU.out with ⟨h1, h2⟩ | ⟨h1, h2⟩
      ·have h3 := HN.out
       rw [List.drop_eq_nil_of_le (by simp; omega)] at h3
       cases h3
      ·exact Tm.parseWords_noelems h2 HN.out
     ·(repeat (first | with_reducible exact HB.out.trans (hM2.below.mono (by omega)) | with_reducible refine Below.drew ?_ | with_reducible refine Below.setCell ?_ (by simp) _ | with_reducible refine Below.alloc ?_ (by simp; omega) _))
    ·have HN := hide (Tm.ElemsAt_step HAT.out hkl (by rw [HWK.out]; simpa using hel))
     clear hel
     go_wp2_with (at_builtin; go_must (refine wpList_append_own _ rfl _ _ 84 rfl wc.heap.size 102 i1 (.agg #[.int .i64 0, .int .i64 0, .int .i64 0, .bool false]) 4 32 Tryz.underlying84 hi' hy0 hy1 hy2 rfl (by decide) _ _ _ rfl ((howne.alloc _).alloc _) ⟨w2.heap.size + 1, 0, none⟩ 1 1 (elCells ⟨p, q, t, vb⟩) rfl rfl (news_four (x := ⟨p, q, t, vb⟩) (by simp)) (by intro u hu; simp [elCells] at hu; rcases hu with rfl | rfl | rfl | rfl <;> rfl) (by unfold maxLen; omega) (by omega) (by simp; omega) ?_))
     intro v' w3 hown4 hgrow _
     have R := ((hM2.alloc _).alloc _).grown hgrow (fun k hk => by have := (howne.lt k hk).1; omega)
     have s2 := R.c2
     have sf := R.fr
     have hownr2 := ((hownr.alloc _).alloc _).kept hgrow (by
      cases hv : (Value.slice ar rs.length capr).ownBlock with
      | none => exact .inl rfl
      | some b => exact .inr (fun h => by have h1 := hMz b hv; have h2 := (howne.lt b h.symm).1; omega))
     have hownr3 := owns_setCell hownr2 (a := ⟨w1.heap.size, 2, none⟩) (fun h => by have := (hownr.lt _ h).1; simp at this; omega) v'
     have hown5 : w3.ownsRow wc.heap.size 102 4 v' (es ++ [(⟨p, q, t, vb⟩ : Tm.El)]).length (elsCells (es ++ [(⟨p, q, t, vb⟩ : Tm.El)])) := by simpa [elsCells] using hown4
     have R2 : Making w1 kb n (.slice ar rs.length capr) v' (w3.setCell ⟨w1.heap.size, 2, none⟩ v') := R.elems
     have hown6 : (w3.setCell ⟨w1.heap.size, 2, none⟩ v').ownsRow wc.heap.size 102 4 v' (es ++ [(⟨p, q, t, vb⟩ : Tm.El)]).length (elsCells (es ++ [(⟨p, q, t, vb⟩ : Tm.El)])) := ownsRow_setCell_below hown5 (by simp; omega) _
     obtain ⟨ae', cape', rfl⟩ := (Reads.of_owns hown5).shape
     have hz3 : w2.heap.size ≤ w3.heap.size := by have := hgrow.size; simp at this; omega
     clear hown4 hgrow howne hown5 hownr hownr2 hM2 R q0 q1 q2 q3 qf m0 m1 m2 m3 mf
     go_wp2
     go_roundw
     case rel => exact ⟨k + 1, es ++ [⟨p, q, t, vb⟩], .slice ae' (es.length + 1) cape', by go_num, by omega, by omega, by simp; omega, by simpa using R2, by simpa using hownr3, by simpa using hown6, by simp [World.setCell]; omega, HN.out⟩
     case measure => simp [intOf]; omega
   ·have HE := hide (Tm.ElemsAt_end HAT.out (by simp; omega))
    have hr2 := hM'.room
    have q0 : wr.cell? ⟨w.heap.size, 0, none⟩ = some (.string ⟨#[]⟩) := by rw [hM'.below.cell (by simp; omega)]; exact r0
    have q1 : wr.cell? ⟨w.heap.size, 1, none⟩ = some (.slice none 0 0) := by rw [hM'.below.cell (by simp; omega)]; exact r1
    have q2 : wr.cell? ⟨w.heap.size, 2, none⟩ = some (.slice none 0 0) := by rw [hM'.below.cell (by simp; omega)]; exact r2
    have q3 : wr.cell? ⟨w.heap.size, 3, none⟩ = some (.int .i64 0) := by rw [hM'.below.cell (by simp; omega)]; exact r3
    have qf : ∀ o, wr.frozen? ⟨w.heap.size, o, none⟩ = false := fun o => by rw [hM'.below.frozen (by simp; omega)]; exact ff o
    have m0 := hM'.c0
    have m1 := hM'.c1
    have m2 := hM'.c2
    have m3 := hM'.c3
    have mf := hM'.fr
    have hne : ¬ w1.heap.size = w.heap.size := by omega
    have hne' : ¬ w.heap.size = w1.heap.size := by omega
    have ANS : Hid (∀ (w' : World) (ok : Bool), Only w.heap.size wr w' → Tm.fits kb.data.toList rs es.length (decide (i < bs.length)) = ok →
      parseAns (Tm.parse s.data.toList n) n w.heap.size (.returned (.tuple #[.agg #[.string kb, .slice ar rs.length capr, .slice ae es.length cape, .int .i64 n], .bool ok])) w') := by
     intro w' ok hw hf
     refine ⟨kb, _, _, ok, rfl, ⟨_, _, _, rfl⟩, ⟨_, _, _, rfl⟩, ?_⟩
     have hhead : (bs.map (·.data.toList)).head? = some kb.data.toList := by
      have := HKB.out
      cases bs with
      | nil => simp at hpos
      | cons b r => simp at this; simp [this]
     have hpw : Tm.parse s.data.toList n = if Tm.fits kb.data.toList rs es.length (decide (i < bs.length)) then some ⟨kb.data.toList, rs, es, n⟩ else none := by
      unfold Tm.parse
      rw [← HSP.out]
      rcases HRU.out with ⟨h1, h2⟩ | ⟨h1, h2⟩
      ·have h3 := HE.out
       rw [List.drop_eq_nil_of_le (by simp; omega)] at h3
       rw [Tm.parseWords_all hhead h2 h3]
       have : decide (i < bs.length) = false := by simp; omega
       rw [this]; rfl
      ·rw [Tm.parseWords_all hhead h2 HE.out]
       have : decide (i < bs.length) = true := by simp; omega
       rw [this]; rfl
     rw [hf] at hpw
     cases ok
     ·simpa using hpw
     ·simp only [if_true] at hpw ⊢
      refine ⟨_, hpw, rfl, rfl, hw.reads (Reads.of_owns hown') (fun g hg => ?_), hw.reads (Reads.of_owns hown2) (fun g hg => ?_), fun g hg => ?_, fun g hg => ?_⟩
      ·have := (hown'.lt g hg).1; omega
      ·have := (hown2.lt g hg).1; omega
      ·have := (hown'.lt g hg).1; omega
      ·have := (hown2.lt g hg).1; omega
    have hrow : ∀ j u, (ints rs)[j]? = some u → ∃ g off, ar = some ⟨g, off, none⟩ ∧ w1.heap.size + 1 ≤ g ∧ wr.cell? ⟨g, off + j, none⟩ = some u := by
     have hlt := hown'.lt
     obtain ⟨_, _, a, cap, he, _, hc⟩ := Reads.of_owns hown'
     cases he
     intro j u hu
     obtain ⟨g, off, rfl, hcell⟩ := hc j u hu
     exact ⟨g, off, rfl, (hlt g rfl).1, hcell⟩
    have HROW := hide hrow
    have HBW := hide (HB.out.trans (hM'.below.mono (by omega)))
    have hrl := hM'.room
    clear hrow hown' hown2 hM' HAT HR hsz hown hM HRU HE hMz
    cases hkc : (kb.toList == [99])
    ·have hk1' : kb.data.toList ≠ [99] := by rw [← ByteArray.toList_eq]; simpa using hkc
     cases hkd : (kb.toList == [100])
     ·have hk2' : kb.data.toList ≠ [100] := by rw [← ByteArray.toList_eq]; simpa using hkd
      cases hkw : (kb.toList == [119])
      ·have hk3' : kb.data.toList ≠ [119] := by rw [← ByteArray.toList_eq]; simpa using hkw
       have HF := hide (show Tm.fits kb.data.toList rs es.length (decide (i < bs.length)) = false from by simp [Tm.fits, hk1', hk2', hk3'])
       clear hk1' hk2' hk3'
       go_wp2
       refine bodyPost_ret (v := .tuple #[.agg #[.string kb, .slice ar rs.length capr, .slice ae es.length cape, .int .i64 n], .bool false]) (by simp [results, Tryz.results36, go_sem, q0, q1, q2, q3]) rfl ⟨ANS.out _ _ ?_ HF.out, ?_⟩
       ·(repeat (first | with_reducible exact Only.refl _ _ | with_reducible refine Only.drew ?_ | with_reducible refine Only.setCell ?_ (by simp) _))
       ·(repeat (first | with_reducible exact HBW.out | with_reducible refine Below.drew ?_ | with_reducible refine Below.setCell ?_ (by simp) _))
      ·have hkb : kb.data.toList = [119] := by rw [← ByteArray.toList_eq]; simpa using hkw
       clear hk1' hk2'
       by_cases hib : i < bs.length
       ·have hd0 : decide ((i : Int) < (bs.length : Int)) = true := by simp; omega
        by_cases h1 : 1 ≤ rs.length
        ·have hd1 : decide ((1 : Int) ≤ (rs.length : Int)) = true := by simp; omega
         by_cases h2 : rs.length ≤ 3
         ·have hd2 : decide ((rs.length : Int) ≤ 3) = true := by simp; omega
          by_cases h3 : 1 ≤ es.length
          ·have hd3 : decide ((1 : Int) ≤ (es.length : Int)) = true := by simp; omega
           by_cases h4 : es.length ≤ 4
           ·have hd : decide ((es.length : Int) ≤ 4) = true := by simp; omega
            have HF := hide (show Tm.fits kb.data.toList rs es.length (decide (i < bs.length)) = true from by rw [hkb]; simp [Tm.fits, hib, h1, h2, h3, h4])
            go_wp2
            refine bodyPost_ret (v := .tuple #[.agg #[.string kb, .slice ar rs.length capr, .slice ae es.length cape, .int .i64 n], .bool true]) (by simp [results, Tryz.results36, go_sem, q0, q1, q2, q3]) rfl ⟨ANS.out _ _ ?_ HF.out, ?_⟩
            ·(repeat (first | with_reducible exact Only.refl _ _ | with_reducible refine Only.drew ?_ | with_reducible refine Only.setCell ?_ (by simp) _))
            ·(repeat (first | with_reducible exact HBW.out | with_reducible refine Below.drew ?_ | with_reducible refine Below.setCell ?_ (by simp) _))
           ·have hd : decide ((es.length : Int) ≤ 4) = false := by simp; omega
            have HF := hide (show Tm.fits kb.data.toList rs es.length (decide (i < bs.length)) = false from by rw [hkb]; simp [Tm.fits, h4])
            go_wp2
            refine bodyPost_ret (v := .tuple #[.agg #[.string kb, .slice ar rs.length capr, .slice ae es.length cape, .int .i64 n], .bool false]) (by simp [results, Tryz.results36, go_sem, q0, q1, q2, q3]) rfl ⟨ANS.out _ _ ?_ HF.out, ?_⟩
            ·(repeat (first | with_reducible exact Only.refl _ _ | with_reducible refine Only.drew ?_ | with_reducible refine Only.setCell ?_ (by simp) _))
            ·(repeat (first | with_reducible exact HBW.out | with_reducible refine Below.drew ?_ | with_reducible refine Below.setCell ?_ (by simp) _))
          ·have hd : decide ((1 : Int) ≤ (es.length : Int)) = false := by simp; omega
           have HF := hide (show Tm.fits kb.data.toList rs es.length (decide (i < bs.length)) = false from by rw [hkb]; simp [Tm.fits, h3])
           go_wp2
           refine bodyPost_ret (v := .tuple #[.agg #[.string kb, .slice ar rs.length capr, .slice ae es.length cape, .int .i64 n], .bool false]) (by simp [results, Tryz.results36, go_sem, q0, q1, q2, q3]) rfl ⟨ANS.out _ _ ?_ HF.out, ?_⟩
           ·(repeat (first | with_reducible exact Only.refl _ _ | with_reducible refine Only.drew ?_ | with_reducible refine Only.setCell ?_ (by simp) _))
           ·(repeat (first | with_reducible exact HBW.out | with_reducible refine Below.drew ?_ | with_reducible refine Below.setCell ?_ (by simp) _))
         ·have hd : decide ((rs.length : Int) ≤ 3) = false := by simp; omega
          have HF := hide (show Tm.fits kb.data.toList rs es.length (decide (i < bs.length)) = false from by rw [hkb]; simp [Tm.fits, h2])
          go_wp2
          refine bodyPost_ret (v := .tuple #[.agg #[.string kb, .slice ar rs.length capr, .slice ae es.length cape, .int .i64 n], .bool false]) (by simp [results, Tryz.results36, go_sem, q0, q1, q2, q3]) rfl ⟨ANS.out _ _ ?_ HF.out, ?_⟩
          ·(repeat (first | with_reducible exact Only.refl _ _ | with_reducible refine Only.drew ?_ | with_reducible refine Only.setCell ?_ (by simp) _))
          ·(repeat (first | with_reducible exact HBW.out | with_reducible refine Below.drew ?_ | with_reducible refine Below.setCell ?_ (by simp) _))
        ·have hd : decide ((1 : Int) ≤ (rs.length : Int)) = false := by simp; omega
         have HF := hide (show Tm.fits kb.data.toList rs es.length (decide (i < bs.length)) = false from by rw [hkb]; simp [Tm.fits, h1])
         go_wp2
         refine bodyPost_ret (v := .tuple #[.agg #[.string kb, .slice ar rs.length capr, .slice ae es.length cape, .int .i64 n], .bool false]) (by simp [results, Tryz.results36, go_sem, q0, q1, q2, q3]) rfl ⟨ANS.out _ _ ?_ HF.out, ?_⟩
         ·(repeat (first | with_reducible exact Only.refl _ _ | with_reducible refine Only.drew ?_ | with_reducible refine Only.setCell ?_ (by simp) _))
         ·(repeat (first | with_reducible exact HBW.out | with_reducible refine Below.drew ?_ | with_reducible refine Below.setCell ?_ (by simp) _))
       ·have hd : decide ((i : Int) < (bs.length : Int)) = false := by simp; omega
        have HF := hide (show Tm.fits kb.data.toList rs es.length (decide (i < bs.length)) = false from by rw [hkb]; simp [Tm.fits, hib])
        go_wp2
        refine bodyPost_ret (v := .tuple #[.agg #[.string kb, .slice ar rs.length capr, .slice ae es.length cape, .int .i64 n], .bool false]) (by simp [results, Tryz.results36, go_sem, q0, q1, q2, q3]) rfl ⟨ANS.out _ _ ?_ HF.out, ?_⟩
        ·(repeat (first | with_reducible exact Only.refl _ _ | with_reducible refine Only.drew ?_ | with_reducible refine Only.setCell ?_ (by simp) _))
        ·(repeat (first | with_reducible exact HBW.out | with_reducible refine Below.drew ?_ | with_reducible refine Below.setCell ?_ (by simp) _))
     ·have hkb : kb.data.toList = [100] := by rw [← ByteArray.toList_eq]; simpa using hkd
      clear hk1'
      by_cases hib : i < bs.length
      ·have hbf : ((i : Int) == (bs.length : Int)) = false := by rw [beq_eq_false_iff_ne]; omega
       have HF := hide (show Tm.fits kb.data.toList rs es.length (decide (i < bs.length)) = false from by rw [hkb]; simp [Tm.fits, hib])
       go_wp2
       refine bodyPost_ret (v := .tuple #[.agg #[.string kb, .slice ar rs.length capr, .slice ae es.length cape, .int .i64 n], .bool false]) (by simp [results, Tryz.results36, go_sem, q0, q1, q2, q3]) rfl ⟨ANS.out _ _ ?_ HF.out, ?_⟩
       ·(repeat (first | with_reducible exact Only.refl _ _ | with_reducible refine Only.drew ?_ | with_reducible refine Only.setCell ?_ (by simp) _))
       ·(repeat (first | with_reducible exact HBW.out | with_reducible refine Below.drew ?_ | with_reducible refine Below.setCell ?_ (by simp) _))
      ·have hbf : ((i : Int) == (bs.length : Int)) = true := by rw [beq_iff_eq]; omega
       by_cases h2 : rs.length = 2
       ·have hb2 : ((rs.length : Int) == 2) = true := by rw [beq_iff_eq]; omega
        have HF := hide (show Tm.fits kb.data.toList rs es.length (decide (i < bs.length)) = true from by rw [hkb]; simp [Tm.fits, hib, h2])
        clear h2
        go_wp2
        refine bodyPost_ret (v := .tuple #[.agg #[.string kb, .slice ar rs.length capr, .slice ae es.length cape, .int .i64 n], .bool true]) (by simp [results, Tryz.results36, go_sem, q0, q1, q2, q3]) rfl ⟨ANS.out _ _ ?_ HF.out, ?_⟩
        ·(repeat (first | with_reducible exact Only.refl _ _ | with_reducible refine Only.drew ?_ | with_reducible refine Only.setCell ?_ (by simp) _))
        ·(repeat (first | with_reducible exact HBW.out | with_reducible refine Below.drew ?_ | with_reducible refine Below.setCell ?_ (by simp) _))
       ·have hb2 : ((rs.length : Int) == 2) = false := by rw [beq_eq_false_iff_ne]; omega
        by_cases h3 : rs.length = 3
        ·have hb3 : ((rs.length : Int) == 3) = true := by rw [beq_iff_eq]; omega
         have HF := hide (show Tm.fits kb.data.toList rs es.length (decide (i < bs.length)) = true from by rw [hkb]; simp [Tm.fits, hib, h3])
         clear h3
         go_wp2
         refine bodyPost_ret (v := .tuple #[.agg #[.string kb, .slice ar rs.length capr, .slice ae es.length cape, .int .i64 n], .bool true]) (by simp [results, Tryz.results36, go_sem, q0, q1, q2, q3]) rfl ⟨ANS.out _ _ ?_ HF.out, ?_⟩
         ·(repeat (first | with_reducible exact Only.refl _ _ | with_reducible refine Only.drew ?_ | with_reducible refine Only.setCell ?_ (by simp) _))
         ·(repeat (first | with_reducible exact HBW.out | with_reducible refine Below.drew ?_ | with_reducible refine Below.setCell ?_ (by simp) _))
        ·have hb3 : ((rs.length : Int) == 3) = false := by rw [beq_eq_false_iff_ne]; omega
         have HF := hide (show Tm.fits kb.data.toList rs es.length (decide (i < bs.length)) = false from by rw [hkb]; simp [Tm.fits, h2, h3])
         go_wp2
         refine bodyPost_ret (v := .tuple #[.agg #[.string kb, .slice ar rs.length capr, .slice ae es.length cape, .int .i64 n], .bool false]) (by simp [results, Tryz.results36, go_sem, q0, q1, q2, q3]) rfl ⟨ANS.out _ _ ?_ HF.out, ?_⟩
         ·(repeat (first | with_reducible exact Only.refl _ _ | with_reducible refine Only.drew ?_ | with_reducible refine Only.setCell ?_ (by simp) _))
         ·(repeat (first | with_reducible exact HBW.out | with_reducible refine Below.drew ?_ | with_reducible refine Below.setCell ?_ (by simp) _))
    ·have hkb : kb.data.toList = [99] := by rw [← ByteArray.toList_eq]; simpa using hkc
     by_cases hib : i < bs.length
     ·have hbf : ((i : Int) == (bs.length : Int)) = false := by rw [beq_eq_false_iff_ne]; omega
      have HF := hide (show Tm.fits kb.data.toList rs es.length (decide (i < bs.length)) = false from by rw [hkb]; simp [Tm.fits, hib])
      go_wp2_with fail
      go_region
      go_wp2
      refine bodyPost_ret (v := .tuple #[.agg #[.string kb, .slice ar rs.length capr, .slice ae es.length cape, .int .i64 n], .bool false]) (by simp [results, Tryz.results36, go_sem, q0, q1, q2, q3]) rfl ⟨ANS.out _ _ ?_ HF.out, ?_⟩
      ·(repeat (first | with_reducible exact Only.refl _ _ | with_reducible refine Only.drew ?_ | with_reducible refine Only.setCell ?_ (by simp) _))
      ·(repeat (first | with_reducible exact HBW.out | with_reducible refine Below.drew ?_ | with_reducible refine Below.setCell ?_ (by simp) _))
     ·have hbf : ((i : Int) == (bs.length : Int)) = true := by rw [beq_iff_eq]; omega
      by_cases h2 : rs.length = 2
      ·have hb2 : ((rs.length : Int) == 2) = true := by rw [beq_iff_eq]; omega
       obtain ⟨gr, offr, rfl, hgr, hcr⟩ := HROW.out 1 (.int .i64 (rs.getD 1 0)) (by rw [ints_get (by omega)]; simp [List.getElem?_eq_getElem (show 1 < rs.length by omega)])
       have hgr' : ¬ gr = w.heap.size := by omega
       have hgr2 : ¬ w.heap.size = gr := by omega
       have hl1 : (1 : Int) < (rs.length : Int) := by omega
       have HFX : Hid (Tm.fits kb.data.toList rs es.length (decide (i < bs.length)) = (decide (1 ≤ rs.getD 1 0) && decide (rs.getD 1 0 ≤ 254))) := by
        unfold Hid
        rw [hkb]; simp [Tm.fits, hib, h2]
       generalize rs.getD 1 0 = rr at *
       clear h2
       by_cases ha : 1 ≤ rr
       ·have hda : decide (1 ≤ rr) = true := by simp; omega
        by_cases hb : rr ≤ 254
        ·have hdb : decide (rr ≤ 254) = true := by simp; omega
         have HF := hide (HFX.out.trans (show _ = true by rw [hda, hdb]; rfl))
         go_wp2_with fail
         go_region
         go_wp2
         refine bodyPost_ret (v := .tuple #[.agg #[.string kb, .slice (some ⟨gr, offr, none⟩) rs.length capr, .slice ae es.length cape, .int .i64 n], .bool true]) (by simp [results, Tryz.results36, go_sem, q0, q1, q2, q3]) rfl ⟨ANS.out _ _ ?_ HF.out, ?_⟩
         ·(repeat (first | with_reducible exact Only.refl _ _ | with_reducible refine Only.drew ?_ | with_reducible refine Only.setCell ?_ (by simp) _))
         ·(repeat (first | with_reducible exact HBW.out | with_reducible refine Below.drew ?_ | with_reducible refine Below.setCell ?_ (by simp) _))
        ·have hdb : decide (rr ≤ 254) = false := by simp; omega
         have HF := hide (HFX.out.trans (show _ = false by rw [hda, hdb]; rfl))
         go_wp2_with fail
         go_region
         go_wp2
         refine bodyPost_ret (v := .tuple #[.agg #[.string kb, .slice (some ⟨gr, offr, none⟩) rs.length capr, .slice ae es.length cape, .int .i64 n], .bool false]) (by simp [results, Tryz.results36, go_sem, q0, q1, q2, q3]) rfl ⟨ANS.out _ _ ?_ HF.out, ?_⟩
         ·(repeat (first | with_reducible exact Only.refl _ _ | with_reducible refine Only.drew ?_ | with_reducible refine Only.setCell ?_ (by simp) _))
         ·(repeat (first | with_reducible exact HBW.out | with_reducible refine Below.drew ?_ | with_reducible refine Below.setCell ?_ (by simp) _))
       ·have hda : decide (1 ≤ rr) = false := by simp; omega
        have HF := hide (HFX.out.trans (show _ = false by rw [hda]; rfl))
        go_wp2_with fail
        go_region
        go_wp2
        refine bodyPost_ret (v := .tuple #[.agg #[.string kb, .slice (some ⟨gr, offr, none⟩) rs.length capr, .slice ae es.length cape, .int .i64 n], .bool false]) (by simp [results, Tryz.results36, go_sem, q0, q1, q2, q3]) rfl ⟨ANS.out _ _ ?_ HF.out, ?_⟩
        ·(repeat (first | with_reducible exact Only.refl _ _ | with_reducible refine Only.drew ?_ | with_reducible refine Only.setCell ?_ (by simp) _))
        ·(repeat (first | with_reducible exact HBW.out | with_reducible refine Below.drew ?_ | with_reducible refine Below.setCell ?_ (by simp) _))
      ·have hb2 : ((rs.length : Int) == 2) = false := by rw [beq_eq_false_iff_ne]; omega
       have HF := hide (show Tm.fits kb.data.toList rs es.length (decide (i < bs.length)) = false from by rw [hkb]; simp [Tm.fits, h2])
       go_wp2_with fail
       go_region
       go_wp2
       refine bodyPost_ret (v := .tuple #[.agg #[.string kb, .slice ar rs.length capr, .slice ae es.length cape, .int .i64 n], .bool false]) (by simp [results, Tryz.results36, go_sem, q0, q1, q2, q3]) rfl ⟨ANS.out _ _ ?_ HF.out, ?_⟩
       ·(repeat (first | with_reducible exact Only.refl _ _ | with_reducible refine Only.drew ?_ | with_reducible refine Only.setCell ?_ (by simp) _))
       ·(repeat (first | with_reducible exact HBW.out | with_reducible refine Below.drew ?_ | with_reducible refine Below.setCell ?_ (by simp) _))
end Go.Proofs.YtmnjjjhmnhfapaaGreatDoor
