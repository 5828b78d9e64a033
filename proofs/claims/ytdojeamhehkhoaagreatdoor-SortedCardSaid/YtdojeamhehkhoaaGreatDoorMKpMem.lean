import Derived.BigRegion
import Derived.Deep.QuietTactic
import Derived.BigQuiet
import Derived.Test.YtdojeamhehkhoaaGreatDoorMIxWithin
namespace Go.Proofs.YtdojeamhehkhoaaGreatDoor
open Go.RowKit

theorem Ix.shape {w : World} {X : Nat} {S : Nat → Prop} {bx bc : Nat} {st : Int} {sh : Bool} {lns : List Tm.Ln} {s : IxSt} (h : Ix w X S bx bc st sh lns s) : ∃ v, w.cell? ⟨bx, 1, none⟩ = some v ∧ Reads w v 3 s.length (versCells (placeOf lns st sh) s) ∧ (v = .slice none 0 0 ∨ ∃ g off cap, v = .slice (some ⟨g, off, none⟩) s.length cap) := by
  obtain ⟨v, hv, hown, _⟩ := h.now
  refine ⟨v, hv, Reads.of_owns hown, ?_⟩
  rcases hown.2 with ⟨rfl, _⟩ | ⟨g, cap, cur, rfl, _⟩
  · exact .inl rfl
  · exact .inr ⟨g, 0, cap, rfl⟩
set_option maxRecDepth 100000 in
set_option maxHeartbeats 1000000 in
theorem shownBy_zero (bx : Nat) (v : Value) (w : World) (hc : w.cell? ⟨bx, 1, none⟩ = some v) (_hl : bx < w.heap.size) (hv : ∃ a n cap, v = .slice a n cap) :
    Calls Tryz.prog 50 #[.pointer (some ⟨bx, 0, none⟩), .int .i64 0] w fun e w' => e = .returned (.tuple #[v, .int .i64 0]) ∧ w' = w := by
  obtain ⟨a, n, cap, rfl⟩ := hv
  go_enter Tryz.func50, Tryz.ntmps50
  go_wp2
  go_ret2
  exact ⟨rfl, rfl⟩

set_option maxRecDepth 100000 in
set_option maxHeartbeats 4000000 in
theorem IxScan_any (lns : List Tm.Ln) (bc bm : Nat) (st : Int) (sh : Bool) (X : Nat) (S : Nat → Prop) (bx : Nat) (s : IxSt) (lo hi : ByteArray) (limit : Int) (w : World) (hc : Coll w bc bm st sh lns) (hok : TableOk st lns) (hx : Ix w X S bx bc st sh lns s) (hl : -9223372036854775808 ≤ limit ∧ limit ≤ 9223372036854775807) :
    Calls Tryz.prog 17 #[.pointer (some ⟨bx, 0, none⟩), .int .i64 0, .string lo, .string hi, .int .i64 limit] w fun e w' => scanAns (cmpOf lns st sh) s lo hi limit w e w' := by
  obtain ⟨hl1, hl2⟩ := hl
  obtain ⟨v, c1, hrd, hv⟩ := hx.shape
  have HC := hide hc
  have HOK := hide hok
  have HRD := hide hrd
  have HV := hide hv
  have c0 := hx.c0
  have hbl := (hx.from_ bx hx.own).2
  have hrs : Tm.Rises (Tm.ByKey (cmpOf lns st sh)) s := hx.rises
  have hfew : s.length ≤ 64 := hx.few
  have hle : (Tm.ixScan (cmpOf lns st sh) s lo hi).length ≤ s.length := List.length_filter_le _ _
  obtain ⟨a, cap, rfl⟩ := hrd.shape
  clear hc hok hx hrd hv
  go_enter Tryz.func17, Tryz.ntmps17
  go_wp2_with fail
  refine (shownBy_zero bx _ _ c1 hbl ⟨_, _, _, rfl⟩).mono ?_
  rintro e w0 ⟨rfl, rfl⟩
  go_wp2_with fail
  refine (within_any lns bc bm st sh bx s _ lo hi _ HC.out HOK.out c0 hbl hrs HRD.out HV.out hfew).mono ?_
  rintro e w1 ⟨hb1, hans⟩
  have HB1 := hide hb1
  have hz1 := hb1.size
  clear hb1 c0 c1
  by_cases hlong : 64 < lo.size ∨ 64 < hi.size
  · rw [if_pos hlong] at hans
    subst hans
    go_wp2
    go_ret2
    refine ⟨HB1.out, ?_⟩
    rw [if_pos hlong]
    rfl
  · rw [if_neg hlong] at hans
    obtain ⟨v1, rfl, hrd1⟩ := hans
    have HRD1 := hide hrd1
    obtain ⟨a1, cap1, rfl⟩ := hrd1.shape
    obtain ⟨_, hf1, hf2⟩ := hrd1.fits
    unfold maxLen at hf2
    clear hrd1
    by_cases hneg : limit < 0
    · go_wp2
      go_ret2
      refine ⟨HB1.out, ?_⟩
      rw [if_neg hlong, if_pos hneg]
      rfl
    · obtain ⟨l, rfl⟩ : ∃ l : Nat, limit = l := ⟨limit.toNat, by omega⟩
      have HTK : Hid (Reads w1 (.slice a1 (min l (Tm.ixScan (cmpOf lns st sh) s lo hi).length) cap1) 3 ((Tm.ixScan (cmpOf lns st sh) s lo hi).take l).length (versCells (placeOf lns st sh) ((Tm.ixScan (cmpOf lns st sh) s lo hi).take l))) := by
        unfold Hid
        by_cases h1 : l ≤ (Tm.ixScan (cmpOf lns st sh) s lo hi).length
        · rw [Nat.min_eq_left h1, versCells_take _ _ _ h1, List.length_take, Nat.min_eq_left h1]
          exact HRD1.out.upTo h1
        · rw [Nat.min_eq_right (by omega), List.take_of_length_le (by omega)]
          exact HRD1.out
      have htl : ((Tm.ixScan (cmpOf lns st sh) s lo hi).take l).length ≤ 64 := by rw [List.length_take]; omega
      have HEQ : Hid ((l : Int).toNat = l) := by unfold Hid; omega
      obtain ⟨tk, htk⟩ : ∃ tk, (Tm.ixScan (cmpOf lns st sh) s lo hi).take l = tk := ⟨_, rfl⟩
      rw [htk] at HTK htl
      have HTKE := hide htk
      clear htk
      generalize hm : (Tm.ixScan (cmpOf lns st sh) s lo hi).length = m at *
      have HM := hide hm
      by_cases h1 : l ≤ m
      · have hmin : min l m = l := Nat.min_eq_left h1
        rw [hmin] at HTK
        have i0 : (0 : Int) ≤ (l : Int) := by omega
        have i1 : ((l : Int) ≤ (m : Int)) := by omega
        have i2 : (l : Int) ≤ (cap1 : Int) := by omega
        have hmi : min (l : Int) (m : Int) = (l : Int) := by omega
        go_wp2_with fail
        refine (entries_any (placeOf lns st sh) tk _ _ HTK.out (by omega)).mono ?_
        rintro e w2 ⟨v2, rfl, hown2, hb2⟩
        have HANS : Hid (scanAns (cmpOf lns st sh) s lo hi l w0 (.returned (.tuple #[v2, .int .i64 0])) w2) := by
          refine ⟨HB1.out.trans (hb2.mono hz1), ?_⟩
          rw [if_neg hlong, if_neg (by omega), HEQ.out]
          unfold nowOf
          rw [HTKE.out]
          exact ⟨v2, rfl, owns_mono hown2 hz1⟩
        obtain ⟨a2, cap2, rfl⟩ := (Reads.of_owns hown2).shape
        clear hown2 hb2
        go_wp2
        go_ret2
        exact HANS.out
      · have hmin : min l m = m := Nat.min_eq_right (by omega)
        rw [hmin] at HTK
        have i0 : (0 : Int) ≤ (m : Int) := by omega
        have i1 : ¬ ((l : Int) ≤ (m : Int)) := by omega
        have i2 : (m : Int) ≤ (cap1 : Int) := by omega
        have hmi : min (l : Int) (m : Int) = (m : Int) := by omega
        go_wp2_with fail
        refine (entries_any (placeOf lns st sh) tk _ _ HTK.out (by omega)).mono ?_
        rintro e w2 ⟨v2, rfl, hown2, hb2⟩
        have HANS : Hid (scanAns (cmpOf lns st sh) s lo hi l w0 (.returned (.tuple #[v2, .int .i64 0])) w2) := by
          refine ⟨HB1.out.trans (hb2.mono hz1), ?_⟩
          rw [if_neg hlong, if_neg (by omega), HEQ.out]
          unfold nowOf
          rw [HTKE.out]
          exact ⟨v2, rfl, owns_mono hown2 hz1⟩
        obtain ⟨a2, cap2, rfl⟩ := (Reads.of_owns hown2).shape
        clear hown2 hb2
        go_wp2
        go_ret2
        exact HANS.out
end Go.Proofs.YtdojeamhehkhoaaGreatDoor
namespace Go.Proofs.YtdojeamhehkhoaaGreatDoor
open Go.RowKit

theorem verCells_len (K : ByteArray → ByteArray) (e : ByteArray × ByteArray) : (verCells K e).length = 3 := rfl
theorem verCells_one (K : ByteArray → ByteArray) (e : ByteArray × ByteArray) : ∀ u ∈ verCells K e, u.oneCell' = true := by
  intro u hu
  simp [verCells] at hu
  rcases hu with rfl | rfl | rfl <;> rfl

set_option maxRecDepth 100000 in
set_option maxHeartbeats 2000000 in
/-- One version more, at its place. -/
theorem with_any (base : Nat) (K : ByteArray → ByteArray) (es : Tm.Ents) (v : Value) (i : Nat) (e : ByteArray × ByteArray) (w : World) (hown : w.ownsRow base 129 3 v es.length (versCells K es)) (hi : i ≤ es.length) (hn : es.length ≤ 1000) (hbase : base ≤ w.heap.size) :
    Calls Tryz.prog 125 #[v, .int .i64 i, .agg #[.string (K e.1), .string e.1, .string e.2]] w fun r w' =>
      ∃ v', r = .returned v' ∧ w'.ownsRow base 129 3 v' (es.length + 1) (versCells K (es.take i ++ e :: es.drop i)) ∧ w.grownBy w' v.ownBlock ∧ ∀ g, v'.ownBlock = some g → v.ownBlock = some g ∨ w.heap.size ≤ g := by
  have HO := hide hown
  have HLT := hide hown.lt
  obtain ⟨a, cap, rfl⟩ := (Reads.of_owns hown).shape
  have HVC : Hid (versCells K (es.take i ++ e :: es.drop i) = (versCells K es).take (i * 3) ++ verCells K e ++ (versCells K es).drop (i * 3)) := by
    unfold Hid
    rw [versCells_append, ← versCells_take K es i hi, ← versCells_drop K es i hi, List.append_assoc]
    rfl
  clear hown
  go_enter Tryz.func125, Tryz.ntmps125
  go_wp2_with fail
  refine (Insert_any base _ es.length i (w.heap.size + 1) (versCells K es) (verCells K e) _ ((HO.out.alloc _).alloc _) hi rfl hn ?_ ?_ (versCells_one K es) (verCells_one K e) (by simp; omega)).mono ?_
  · have := heap_alloc_new (w.alloc (.cells #[.string (K e.1), .string e.1, .string e.2] 129)) (.cells #[.string (K e.1), .string e.1, .string e.2] 129)
    simpa [verCells] using this
  · intro h
    have := (HLT.out _ h).2
    omega
  · rintro r w1 ⟨v1, rfl, hown1, hgr1, hat1⟩
    have HANS : Hid (w1.ownsRow base 129 3 v1 (es.length + 1) (versCells K (es.take i ++ e :: es.drop i)) ∧ w.grownBy w1 (Value.slice a es.length cap).ownBlock ∧ ∀ g, v1.ownBlock = some g → (Value.slice a es.length cap).ownBlock = some g ∨ w.heap.size ≤ g) := by
      refine ⟨by rw [HVC.out]; exact hown1, ⟨hgr1.os, hgr1.tape, hgr1.output, by have := hgr1.size; simp at this; omega, fun k hk hne => ?_⟩, fun g hg => ?_⟩
      · rw [hgr1.block k (by simp; omega) hne, Below.heap_alloc _ _ _ (by simp; omega), Below.heap_alloc _ _ _ hk]
      · rcases hat1 with h | h
        · exact .inl (by rw [← h]; exact hg)
        · rw [h] at hg; simp at hg; exact .inr (by omega)
    obtain ⟨a1, cap1, rfl⟩ := (Reads.of_owns hown1).shape
    clear hown1 hgr1 hat1
    go_wp2
    go_ret
    exact ⟨_, rfl, HANS.out⟩

set_option maxRecDepth 100000 in
set_option maxHeartbeats 2000000 in
/-- .. one less. -/
theorem without_any (base : Nat) (K : ByteArray → ByteArray) (es : Tm.Ents) (v : Value) (i : Nat) (w : World) (hown : w.ownsRow base 129 3 v es.length (versCells K es)) (hi : i < es.length) (hn : es.length ≤ 1000) :
    Calls Tryz.prog 89 #[v, .int .i64 i] w fun r w' =>
      ∃ v', r = .returned v' ∧ w'.ownsRow base 129 3 v' (es.eraseIdx i).length (versCells K (es.eraseIdx i)) ∧ w.grownBy w' v.ownBlock ∧ v'.ownBlock = v.ownBlock := by
  have HO := hide hown
  obtain ⟨a, cap, rfl⟩ := (Reads.of_owns hown).shape
  have HVC : Hid (versCells K (es.eraseIdx i) = (versCells K es).take (i * 3) ++ (versCells K es).drop (i * 3 + 3)) := by
    unfold Hid
    rw [List.eraseIdx_eq_take_drop_succ, versCells_append, ← versCells_take K es i (by omega), versCells_drop K es (i + 1) (by omega), show (i + 1) * 3 = i * 3 + 3 by omega]
  have HL : Hid ((es.eraseIdx i).length = es.length - 1) := by unfold Hid; rw [List.length_eraseIdx, if_pos hi]
  clear hown
  go_enter Tryz.func89, Tryz.ntmps89
  go_wp2_with fail
  refine (Delete_any base _ es.length i (versCells K es) _ HO.out hi hn (versCells_one K es)).mono ?_
  rintro r w1 ⟨v1, rfl, hown1, hgr1, hat1⟩
  have HANS : Hid (w1.ownsRow base 129 3 v1 (es.eraseIdx i).length (versCells K (es.eraseIdx i)) ∧ w.grownBy w1 (Value.slice a es.length cap).ownBlock ∧ v1.ownBlock = (Value.slice a es.length cap).ownBlock) := ⟨by rw [HVC.out, HL.out]; exact hown1, hgr1, hat1⟩
  obtain ⟨a1, cap1, rfl⟩ := (Reads.of_owns hown1).shape
  clear hown1 hgr1 hat1
  go_wp2
  go_ret
  exact ⟨_, rfl, HANS.out⟩
end Go.Proofs.YtdojeamhehkhoaaGreatDoor
namespace Go.Proofs.YtdojeamhehkhoaaGreatDoor
open Go.RowKit

/-- An index whose row has turned. -/
theorem Ix.turn {w w' : World} {X : Nat} {S : Nat → Prop} {bx bc : Nat} {st : Int} {sh : Bool} {lns : List Tm.Ln} {s s' : IxSt} {v' : Value} (h : Ix w X S bx bc st sh lns s) (hf : Foot S w w') (hc0 : w'.cell? ⟨bx, 0, none⟩ = w.cell? ⟨bx, 0, none⟩) (hc1 : w'.cell? ⟨bx, 1, none⟩ = some v') (hfr : ∀ o, w'.frozen? ⟨bx, o, none⟩ = w.frozen? ⟨bx, o, none⟩)
    (hown : w'.ownsRow X 129 3 v' s'.length (versCells (placeOf lns st sh) s')) (hat : ∀ g, v'.ownBlock = some g → g ≠ bx ∧ (S g ∨ w.heap.size ≤ g)) (hr : Tm.Rises (Tm.ByKey (cmpOf lns st sh)) (nowOf s')) (hfew : (nowOf s').length ≤ 64) (hsh : ∀ e ∈ nowOf s', e.1.size ≤ 64 ∧ e.2.size ≤ 64) : IxStep w w' X S bx bc st sh lns s' := by
  refine ⟨fun i => S i ∨ v'.ownBlock = some i, ⟨fun i hi => ?_, .inl h.own, by rw [hc0]; exact h.c0, ⟨v', hc1, hown, fun g hg => ⟨.inr hg, (hat g hg).1⟩⟩, fun o => by rw [hfr]; exact h.free o, hr, hfew, hsh⟩, hf, fun i hi => ?_⟩
  · rcases hi with e | e
    · exact ⟨(h.from_ i e).1, Nat.lt_of_lt_of_le (h.from_ i e).2 hf.size⟩
    · exact hown.lt i e
  · rcases hi with e | e
    · exact .inl e
    · exact (hat i e).2
/-- The index has its new slice. -/
theorem Ix.newRow {w w1 w2 : World} {X : Nat} {S : Nat → Prop} {bx bc : Nat} {st : Int} {sh : Bool} {lns : List Tm.Ln} {s s' : IxSt} {v v' : Value} (h : Ix w X S bx bc st sh lns s) (hb : Below w.heap.size w w1) (hv : w.cell? ⟨bx, 1, none⟩ = some v) (hvS : ∀ g, v.ownBlock = some g → S g ∧ g ≠ bx) (hgr : w1.grownBy w2 v.ownBlock) (hat : ∀ g, v'.ownBlock = some g → v.ownBlock = some g ∨ w1.heap.size ≤ g)
    (hown : w2.ownsRow X 129 3 v' s'.length (versCells (placeOf lns st sh) s')) (hr : Tm.Rises (Tm.ByKey (cmpOf lns st sh)) (nowOf s')) (hfew : (nowOf s').length ≤ 64) (hsh : ∀ e ∈ nowOf s', e.1.size ≤ 64 ∧ e.2.size ≤ 64) : IxStep w (w2.setCell ⟨bx, 1, none⟩ v') X S bx bc st sh lns s' := by
  have hl := (h.from_ bx h.own).2
  have hz := hb.size
  have hf1 : Foot S w w2 := (Foot.of hb).grown hgr (fun k e => .inl (hvS k e).1)
  have hne : v.ownBlock ≠ some bx := fun e => (hvS bx e).2 rfl
  have hbk : w2.heap[bx]? = w.heap[bx]? := by rw [hgr.block bx (by omega) (fun e => hne e.symm), hb.block bx hl]
  have hne' : v'.ownBlock ≠ some bx := fun e => by
    rcases hat bx e with e | e
    · exact hne e
    · omega
  refine h.turn (v' := v') (hf1.setCell (p := ⟨bx, 1, none⟩) (.inl h.own) _) ?_ ?_ (fun o => ?_) (ownsRow_same hown (fun g e => Below.heap_setCell _ _ _ _ (by rintro rfl; exact hne' e))) (fun g e => ⟨fun e' => hne' (e' ▸ e), ?_⟩) hr hfew hsh
  · rw [World.cell?_setCell_other _ _ _ _ (by simp)]
    exact World.cell?_of_block (a := ⟨bx, 0, none⟩) hbk
  · exact World.cell?_setCell_same _ _ _ ((World.cell?_of_block (a := ⟨bx, 1, none⟩) hbk).trans hv)
  · rw [World.frozen?_setCell]
    exact World.frozen?_of_block (a := ⟨bx, o, none⟩) hbk
  · rcases hat g e with e | e
    · exact .inl (hvS g e).1
    · exact .inr (by omega)
theorem versCells_set (K : ByteArray → ByteArray) (es : Tm.Ents) (k : Nat) (hk : k < es.length) (e : ByteArray × ByteArray) : (((versCells K es).set (k * 3) (.string (K e.1))).set (k * 3 + 1) (.string e.1)).set (k * 3 + 2) (.string e.2) = versCells K (es.set k e) := by
  have e0 : es = es.take k ++ es[k] :: es.drop (k + 1) := by rw [← List.drop_eq_getElem_cons hk, List.take_append_drop]
  have e1 : versCells K es = versCells K (es.take k) ++ .string (K es[k].1) :: .string es[k].1 :: .string es[k].2 :: versCells K (es.drop (k + 1)) := by
    conv => lhs; rw [e0]
    rw [versCells_append]; rfl
  have e2 : versCells K (es.set k e) = versCells K (es.take k) ++ .string (K e.1) :: .string e.1 :: .string e.2 :: versCells K (es.drop (k + 1)) := by
    rw [List.set_eq_take_append_cons_drop, if_pos hk, versCells_append]; rfl
  have hl : (versCells K (es.take k)).length = k * 3 := by rw [versCells_length]; simp; omega
  rw [e1, e2]
  generalize versCells K (es.take k) = A at hl
  generalize versCells K (es.drop (k + 1)) = R
  rw [← hl]
  simp
/-- A version written over. -/
theorem Ix.setVer {w w1 : World} {X : Nat} {S : Nat → Prop} {bx bc g n cap : Nat} {st : Int} {sh : Bool} {lns : List Tm.Ln} {s : IxSt} (h : Ix w X S bx bc st sh lns s) (hb : Below w.heap.size w w1) (hv : w.cell? ⟨bx, 1, none⟩ = some (.slice (some ⟨g, 0, none⟩) n cap)) (hown : w.ownsRow X 129 3 (.slice (some ⟨g, 0, none⟩) n cap) s.length (versCells (placeOf lns st sh) s)) (hvS : S g ∧ g ≠ bx) {i : Nat} (hi : i < s.length) (e : ByteArray × ByteArray)
    (hr : Tm.Rises (Tm.ByKey (cmpOf lns st sh)) (nowOf (s.set i e))) (he : e.1.size ≤ 64 ∧ e.2.size ≤ 64) : IxStep w (((w1.setCell ⟨g, i * 3, none⟩ (.string (placeOf lns st sh e.1))).setCell ⟨g, i * 3 + 1, none⟩ (.string e.1)).setCell ⟨g, i * 3 + 2, none⟩ (.string e.2)) X S bx bc st sh lns (s.set i e) := by
  have hl := (h.from_ bx h.own).2
  have hlg := (h.from_ g hvS.1).2
  have hn : n = s.length := ((Reads.of_owns hown).fits).1
  subst hn
  have hf : Foot S w (((w1.setCell ⟨g, i * 3, none⟩ (.string (placeOf lns st sh e.1))).setCell ⟨g, i * 3 + 1, none⟩ (.string e.1)).setCell ⟨g, i * 3 + 2, none⟩ (.string e.2)) := Foot.setCell (p := ⟨g, i * 3 + 2, none⟩) (Foot.setCell (p := ⟨g, i * 3 + 1, none⟩) (Foot.setCell (p := ⟨g, i * 3, none⟩) (Foot.of (S := S) hb) (.inl hvS.1) _) (.inl hvS.1) _) (.inl hvS.1) _
  have hbk : (((w1.setCell ⟨g, i * 3, none⟩ (.string (placeOf lns st sh e.1))).setCell ⟨g, i * 3 + 1, none⟩ (.string e.1)).setCell ⟨g, i * 3 + 2, none⟩ (.string e.2)).heap[bx]? = w.heap[bx]? := by
    have hne : bx ≠ g := fun e => hvS.2 e.symm
    rw [Below.heap_setCell _ _ _ _ hne, Below.heap_setCell _ _ _ _ hne, Below.heap_setCell _ _ _ _ hne, hb.block bx hl]
  have hown1 : w1.ownsRow X 129 3 (.slice (some ⟨g, 0, none⟩) s.length cap) s.length (versCells (placeOf lns st sh) s) := ownsRow_same hown (fun g' hg' => by simp [Value.ownBlock] at hg'; subst hg'; exact hb.block _ hlg)
  refine h.turn (v' := .slice (some ⟨g, 0, none⟩) s.length cap) hf (World.cell?_of_block (a := ⟨bx, 0, none⟩) hbk) ((World.cell?_of_block (a := ⟨bx, 1, none⟩) hbk).trans hv) (fun o => World.frozen?_of_block (a := ⟨bx, o, none⟩) hbk) ?_ (fun g' hg' => ?_) hr (by unfold nowOf; rw [List.length_set]; exact h.few) (fun e' he' => ?_)
  · rw [← versCells_set _ s i hi e, List.length_set]
    exact owns_setAt (owns_setAt (owns_setAt hown1 _ _) _ _) _ _
  · simp [Value.ownBlock] at hg'
    subst hg'
    exact ⟨hvS.2, .inl hvS.1⟩
  · unfold nowOf at he'
    rcases List.mem_or_eq_of_mem_set he' with e1 | e1
    · exact h.short e' e1
    · rw [e1]; exact he

set_option maxRecDepth 100000 in
set_option maxHeartbeats 4000000 in
theorem put_any (lns : List Tm.Ln) (bc : Nat) (st : Int) (sh : Bool) (X : Nat) (S : Nat → Prop) (bx : Nat) (s : IxSt) (k v : ByteArray) (w : World) (hfit : ∀ o ∈ lns, Tm.Fit o) (hok : TableOk st lns) (hx : Ix w X S bx bc st sh lns s) (hX : X ≤ w.heap.size) (hk : k.size ≤ 64) (hv : v.size ≤ 64) :
    Calls Tryz.prog 88 #[.pointer (some ⟨bx, 0, none⟩), .agg #[.string (placeOf lns st sh k), .string k, .string v]] w fun e w' => e = .returned (.int .i64 (putErr (cmpOf lns st sh) s k v)) ∧ IxStep w w' X S bx bc st sh lns (putSt (cmpOf lns st sh) s k v) := by
  have hT := told_cmpOf lns st sh
  have hK := keyed_place hfit (sh := sh) hok.st
  have hrs : Tm.Rises (Tm.ByKey (cmpOf lns st sh)) s := hx.rises
  have hfew : s.length ≤ 64 := hx.few
  obtain ⟨vn, c1, hown, hvS⟩ := hx.now
  have hl := (hx.from_ bx hx.own).2
  obtain ⟨a, cap, rfl⟩ := (Reads.of_owns hown).shape
  have HX := hide hx
  have HO := hide hown
  have HVS := hide hvS
  have HPE : Hid (putErr (cmpOf lns st sh) s k v = if Tm.ixHas (cmpOf lns st sh) s k = false ∧ 64 ≤ s.length then 8 else 0) := by unfold Hid putErr nowOf; rw [if_neg (by omega)]
  have HC1 := hide c1
  clear hx hown hvS
  have HB0 : Hid (Below w.heap.size w (w.alloc (.cells #[.string (placeOf lns st sh k), .string k, .string v] 129))) := (Below.refl _ _).alloc (Nat.le_refl _) _
  have c10 : (w.alloc (.cells #[.string (placeOf lns st sh k), .string k, .string v] 129)).cell? ⟨bx, 1, none⟩ = some (.slice a s.length cap) := by rw [cell_old hl]; exact c1
  have HP0 : Hid (∀ W : World, Below (w.heap.size + 1) (w.alloc (.cells #[.string (placeOf lns st sh k), .string k, .string v] 129)) W → W.cell? ⟨w.heap.size, 0, none⟩ = some (.string (placeOf lns st sh k)) ∧ W.cell? ⟨w.heap.size, 1, none⟩ = some (.string k) ∧ W.cell? ⟨w.heap.size, 2, none⟩ = some (.string v)) := fun W hW => by
    rw [hW.cell (p := ⟨w.heap.size, 0, none⟩) (by simp), hW.cell (p := ⟨w.heap.size, 1, none⟩) (by simp), hW.cell (p := ⟨w.heap.size, 2, none⟩) (by simp), cell_new rfl, cell_new rfl, cell_new rfl]
    exact ⟨rfl, rfl, rfl⟩
  have HRD0 : Hid (Reads (w.alloc (.cells #[.string (placeOf lns st sh k), .string k, .string v] 129)).drew (.slice a s.length cap) 3 s.length (versCells (placeOf lns st sh) s)) := (Reads.of_owns HO.out).below ((Below.refl _ _).alloc (Nat.le_refl _) _).drew (Reads.of_owns HO.out).2.1
  clear c1
  go_enter Tryz.func88, Tryz.ntmps88
  go_wp2_with fail
  go_region_with (go_at_call 55; refine (find_any (placeOf lns st sh) (cmpOf lns st sh) hK hT s hrs _ k _ HRD0.out (by omega)).mono ?_; rintro e w2 ⟨rfl, hb2⟩)
  all_goals
    have hz2 : w.heap.size + 1 ≤ w2.heap.size := by have := hb2.size; simpa using this
    have hb20 : Below (w.heap.size + 1) (w.alloc (.cells #[.string (placeOf lns st sh k), .string k, .string v] 129)) w2 := (Below.refl _ _).drew.trans (hb2.mono (by simp))
    have hb2w : Below w.heap.size w w2 := HB0.out.trans (hb20.mono (by omega))
    have HB2 := hide hb2w
    obtain ⟨p0, p1, p2⟩ := HP0.out w2 hb20
    have HPW : Hid (∀ W : World, Below w2.heap.size w2 W → Below (w.heap.size + 1) (w.alloc (.cells #[.string (placeOf lns st sh k), .string k, .string v] 129)) W) := fun W hW => hb20.trans (hW.mono hz2)
    have c12 : w2.cell? ⟨bx, 1, none⟩ = some (.slice a s.length cap) := by rw [hb2w.cell (p := ⟨bx, 1, none⟩) hl]; exact HC1.out
    have f12 : w2.frozen? ⟨bx, 1, none⟩ = false := by rw [hb2w.frozen (p := ⟨bx, 1, none⟩) hl]; exact HX.out.free 1
    clear hb2 hb20 hb2w c10
    cases hh : Tm.ixHas (cmpOf lns st sh) s k
    · by_cases hfull : 64 ≤ s.length
      · have HANS : Hid (putErr (cmpOf lns st sh) s k v = 8 ∧ IxStep w w2 X S bx bc st sh lns (putSt (cmpOf lns st sh) s k v)) := by
          have h1 : putErr (cmpOf lns st sh) s k v = 8 := by rw [HPE.out, if_pos ⟨hh, hfull⟩]
          refine ⟨h1, ?_⟩
          rw [putSt_no (by omega)]
          exact IxStep.of_below HX.out HB2.out
        have i1 : (64 : Int) ≤ (s.length : Int) := by omega
        go_wp2
        go_ret
        exact ⟨by rw [HANS.out.1]; rfl, HANS.out.2⟩
      · have h1 : putErr (cmpOf lns st sh) s k v = 0 := by rw [HPE.out, if_neg (fun e => hfull e.2)]
        have h2 : putSt (cmpOf lns st sh) s k v = s.take (Tm.below (cmpOf lns st sh) s k) ++ (k, v) :: s.drop (Tm.below (cmpOf lns st sh) s k) := by
          unfold putSt
          rw [if_pos h1, Tm.ixPut_new hT hrs hh]
        have HR : Hid (Tm.Rises (Tm.ByKey (cmpOf lns st sh)) (nowOf (putSt (cmpOf lns st sh) s k v))) := by
          unfold Hid nowOf putSt
          rw [if_pos h1]
          exact Tm.ixPut_rises hT hrs
        have hle := Tm.below_le (cmpOf lns st sh) s k
        have HE := hide h1
        have HS := hide h2
        have i1 : ¬ (64 : Int) ≤ (s.length : Int) := by omega
        clear h1 h2
        have HO2 : Hid (w2.drew.ownsRow X 129 3 (.slice a s.length cap) s.length (versCells (placeOf lns st sh) s)) := ownsRow_same HO.out (fun g hg => HB2.out.block g (HO.out.lt g hg).2)
        have hX2 : X ≤ w2.drew.heap.size := by show X ≤ w2.heap.size; omega
        have HB2' := hide HB2.out.drew
        have HW : Hid (Calls Tryz.prog 125 #[.slice a s.length cap, .int .i64 (Tm.below (cmpOf lns st sh) s k : Nat), .agg #[.string (placeOf lns st sh k), .string k, .string v]] w2.drew fun e w3 => ∃ a3 n3 cap3, e = .returned (.slice a3 n3 cap3) ∧ bx < w3.heap.size ∧ w3.cell? ⟨bx, 1, none⟩ = some (.slice a s.length cap) ∧ w3.frozen? ⟨bx, 1, none⟩ = false ∧ IxStep w (w3.setCell ⟨bx, 1, none⟩ (.slice a3 n3 cap3)) X S bx bc st sh lns (putSt (cmpOf lns st sh) s k v)) := by
          refine (with_any X (placeOf lns st sh) s _ (Tm.below (cmpOf lns st sh) s k) (k, v) _ HO2.out hle (by omega) hX2).mono ?_
          rintro e w3 ⟨v3, rfl, hown3, hgr3, hat3⟩
          have hz3 : w2.heap.size ≤ w3.heap.size := hgr3.size
          have hbk : w3.heap[bx]? = w2.heap[bx]? := hgr3.block bx (by show bx < w2.heap.size; omega) (fun e => (HVS.out bx e.symm).2 rfl)
          obtain ⟨a3, cap3, rfl⟩ := (Reads.of_owns hown3).shape
          refine ⟨a3, _, cap3, rfl, by omega, by rw [World.cell?_of_block (a := ⟨bx, 1, none⟩) hbk]; exact c12, by rw [World.frozen?_of_block (a := ⟨bx, 1, none⟩) hbk]; exact f12, ?_⟩
          have hlen : (putSt (cmpOf lns st sh) s k v).length = s.length + 1 := by rw [HS.out]; simp; omega
          refine HX.out.newRow HB2'.out HC1.out HVS.out hgr3 hat3 (by rw [hlen, HS.out]; exact hown3) HR.out (by unfold nowOf; rw [hlen]; omega) (fun e he => ?_)
          unfold nowOf at he
          rw [HS.out] at he
          rcases List.mem_append.1 he with h | h
          · exact HX.out.short e (List.mem_of_mem_take h)
          · rcases List.mem_cons.1 h with rfl | h
            · exact ⟨hk, hv⟩
            · exact HX.out.short e (List.mem_of_mem_drop h)
        go_wp2_with fail
        go_region_with (go_at_call 125; refine HW.out.mono ?_; rintro e w3 ⟨a3, n3, cap3, rfl, hl3, c13, f13, hans⟩; have HANS := hide hans; clear hans)
        all_goals
          go_wp2
          go_ret
          exact ⟨by rw [HE.out]; rfl, HANS.out⟩
    · have h1 : putErr (cmpOf lns st sh) s k v = 0 := by rw [HPE.out, if_neg (fun e => by rw [hh] at e; cases e.1)]
      obtain ⟨hi, _⟩ := (Tm.ixHas_at hT hrs).1 hh
      have h2 : putSt (cmpOf lns st sh) s k v = s.set (Tm.below (cmpOf lns st sh) s k) (k, v) := by
        unfold putSt
        rw [if_pos h1, Tm.ixPut_there hT hrs hh]
      have HR : Hid (Tm.Rises (Tm.ByKey (cmpOf lns st sh)) (nowOf (s.set (Tm.below (cmpOf lns st sh) s k) (k, v)))) := by
        unfold Hid nowOf
        rw [← Tm.ixPut_there hT hrs hh]
        exact Tm.ixPut_rises hT hrs
      have HE := hide h1
      have HS := hide h2
      clear h1 h2
      have hrd2 := (Reads.of_owns HO.out).below HB2.out (Reads.of_owns HO.out).2.1
      obtain ⟨g, off, rfl, hg, x0, x1, x2⟩ := vers_at hrd2 hi
      rcases HO.out.2 with ⟨h9, _⟩ | ⟨g', cap', cur, h9, _, hgb, _⟩
      · cases h9
      · cases h9
        rw [Nat.zero_add] at x0 x1 x2
        have hgl : g < w.heap.size := (Reads.of_owns HO.out).2.1 g rfl
        have hgb2 : w2.heap[g]? = some (.cells cur 129) := by rw [HB2.out.block g hgl]; exact hgb
        have f0 : w2.frozen? ⟨g, Tm.below (cmpOf lns st sh) s k * 3, none⟩ = false := by simp [World.frozen?, hgb2]
        have f1 : w2.frozen? ⟨g, Tm.below (cmpOf lns st sh) s k * 3 + 1, none⟩ = false := by simp [World.frozen?, hgb2]
        have f2 : w2.frozen? ⟨g, Tm.below (cmpOf lns st sh) s k * 3 + 2, none⟩ = false := by simp [World.frozen?, hgb2]
        have HANS : Hid (∀ W, Below w.heap.size w W → IxStep w (((W.setCell ⟨g, Tm.below (cmpOf lns st sh) s k * 3, none⟩ (.string (placeOf lns st sh k))).setCell ⟨g, Tm.below (cmpOf lns st sh) s k * 3 + 1, none⟩ (.string k)).setCell ⟨g, Tm.below (cmpOf lns st sh) s k * 3 + 2, none⟩ (.string v)) X S bx bc st sh lns (s.set (Tm.below (cmpOf lns st sh) s k) (k, v))) := fun W hW =>
          HX.out.setVer hW HC1.out HO.out (HVS.out g rfl) hi (k, v) HR.out ⟨hk, hv⟩
        generalize s[Tm.below (cmpOf lns st sh) s k] = y at *
        generalize Tm.below (cmpOf lns st sh) s k = i at *
        have i1 : (0 : Int) ≤ (i : Int) := by omega
        have i2 : (i : Int) < (s.length : Int) := by omega
        clear hrd2 hgb hgb2
        go_wp2_with fail
        go_region
        all_goals
          go_wp2
          go_ret
          refine ⟨by rw [HE.out]; rfl, ?_⟩
          rw [HS.out]
          exact HANS.out _ HB2.out.drew
end Go.Proofs.YtdojeamhehkhoaaGreatDoor
namespace Go.Proofs.YtdojeamhehkhoaaGreatDoor
open Go.RowKit

set_option maxRecDepth 100000 in
set_option maxHeartbeats 2000000 in
theorem IxPut_any (lns : List Tm.Ln) (bc bm : Nat) (st : Int) (sh : Bool) (X : Nat) (S : Nat → Prop) (bx : Nat) (s : IxSt) (k v : ByteArray) (w : World) (hc : Coll w bc bm st sh lns) (hok : TableOk st lns) (hx : Ix w X S bx bc st sh lns s) (hX : X ≤ w.heap.size) :
    Calls Tryz.prog 46 #[.pointer (some ⟨bx, 0, none⟩), .string k, .string v] w fun e w' => e = .returned (.int .i64 (putErr (cmpOf lns st sh) s k v)) ∧ IxStep w w' X S bx bc st sh lns (putSt (cmpOf lns st sh) s k v) := by
  have HC := hide hc
  have HOK := hide hok
  have HX := hide hx
  have HF := hide hc.fit
  have c0 := hx.c0
  have hl := (hx.from_ bx hx.own).2
  clear hc hok hx
  by_cases hv : v.size ≤ 64
  · by_cases hk : k.size ≤ 64
    · have i1 : ¬ (64 : Int) < (v.size : Int) := by omega
      go_enter Tryz.func46, Tryz.ntmps46
      go_wp2_with fail
      refine (CodeKey_any lns bc bm st sh k _ HC.out HOK.out).mono ?_
      rw [if_pos hk]
      rintro e w1 ⟨rfl, hb1⟩
      have HB1 := hide hb1
      have HX1 := hide (HX.out.below hb1)
      have hz1 := hb1.size
      clear hb1 c0
      go_wp2_with fail
      refine (put_any lns bc st sh X S bx s k v _ HF.out HOK.out HX1.out (by omega) hk hv).mono ?_
      rintro e w2 ⟨rfl, S', h1, h2, h3⟩
      have HANS : Hid (IxStep w w2 X S bx bc st sh lns (putSt (cmpOf lns st sh) s k v)) := ⟨S', h1, (Foot.of HB1.out).trans h2 (fun i hi => .inl hi), fun i hi => by
        rcases h3 i hi with e | e
        · exact .inl e
        · exact .inr (by omega)⟩
      clear h1 h2 h3
      go_wp2
      go_ret
      exact ⟨rfl, HANS.out⟩
    · have HPE : Hid (putErr (cmpOf lns st sh) s k v = 7) := by unfold Hid putErr; rw [if_pos (by omega)]
      have i1 : ¬ (64 : Int) < (v.size : Int) := by omega
      go_enter Tryz.func46, Tryz.ntmps46
      go_wp2_with fail
      refine (CodeKey_any lns bc bm st sh k _ HC.out HOK.out).mono ?_
      rw [if_neg hk]
      rintro e w1 ⟨rfl, hb1⟩
      have HANS : Hid (IxStep w w1 X S bx bc st sh lns (putSt (cmpOf lns st sh) s k v)) := by
        unfold Hid
        rw [putSt_no (by rw [HPE.out]; omega)]
        exact IxStep.of_below HX.out hb1
      clear hb1
      go_wp2
      go_ret
      exact ⟨by rw [HPE.out]; rfl, HANS.out⟩
  · have HPE : Hid (putErr (cmpOf lns st sh) s k v = 7) := by unfold Hid putErr; rw [if_pos (by omega)]
    have HANS : Hid (IxStep w w X S bx bc st sh lns (putSt (cmpOf lns st sh) s k v)) := by
      unfold Hid
      rw [putSt_no (by rw [HPE.out]; omega)]
      exact IxStep.of_below HX.out (Below.refl _ _)
    have i1 : (64 : Int) < (v.size : Int) := by omega
    go_enter Tryz.func46, Tryz.ntmps46
    go_wp2
    go_ret
    exact ⟨by rw [HPE.out]; rfl, HANS.out⟩

set_option maxRecDepth 100000 in
set_option maxHeartbeats 2000000 in
theorem IxDelete_any (lns : List Tm.Ln) (bc bm : Nat) (st : Int) (sh : Bool) (X : Nat) (S : Nat → Prop) (bx : Nat) (s : IxSt) (k : ByteArray) (w : World) (hc : Coll w bc bm st sh lns) (hok : TableOk st lns) (hx : Ix w X S bx bc st sh lns s) (_hX : X ≤ w.heap.size) :
    Calls Tryz.prog 47 #[.pointer (some ⟨bx, 0, none⟩), .string k] w fun e w' => e = .returned (if k.size ≤ 64 then .tuple #[.bool (Tm.ixHas (cmpOf lns st sh) (nowOf s) k), .int .i64 0] else .tuple #[.bool false, .int .i64 7]) ∧ IxStep w w' X S bx bc st sh lns (dropSt (cmpOf lns st sh) s k) := by
  unfold nowOf
  have hT := told_cmpOf lns st sh
  have hK := keyed_place hc.fit (sh := sh) hok.st
  have HC := hide hc
  have HOK := hide hok
  have HX := hide hx
  have c0 := hx.c0
  have hl := (hx.from_ bx hx.own).2
  have hrs : Tm.Rises (Tm.ByKey (cmpOf lns st sh)) s := hx.rises
  have hfew : s.length ≤ 64 := hx.few
  obtain ⟨vn, c1, hown, hvS⟩ := hx.now
  obtain ⟨a, cap, rfl⟩ := (Reads.of_owns hown).shape
  have HO := hide hown
  have HVS := hide hvS
  have HC1 := hide c1
  clear hc hok hx hown hvS c1
  by_cases hk : k.size ≤ 64
  · rw [if_pos hk]
    go_enter Tryz.func47, Tryz.ntmps47
    go_wp2_with fail
    refine (CodeKey_any lns bc bm st sh k _ HC.out HOK.out).mono ?_
    rw [if_pos hk]
    rintro e w1 ⟨rfl, hb1⟩
    have HB1 := hide hb1
    have hz1 := hb1.size
    have c11 : w1.cell? ⟨bx, 1, none⟩ = some (.slice a s.length cap) := by rw [hb1.cell (p := ⟨bx, 1, none⟩) hl]; exact HC1.out
    have hl1 : bx < w1.heap.size := by omega
    have HRD := hide ((Reads.of_owns HO.out).below hb1 (Reads.of_owns HO.out).2.1)
    clear hb1 c0
    go_wp2_with fail
    refine (find_any (placeOf lns st sh) (cmpOf lns st sh) hK hT s hrs _ k _ HRD.out (by omega)).mono ?_
    rintro e w2 ⟨rfl, hb2⟩
    have hb2w := HB1.out.trans (hb2.mono hz1)
    have HB2 := hide hb2w
    have hz2 := hb2.size
    have c12 : w2.cell? ⟨bx, 1, none⟩ = some (.slice a s.length cap) := by rw [hb2.cell (p := ⟨bx, 1, none⟩) hl1]; exact c11
    have f12 : w2.frozen? ⟨bx, 1, none⟩ = false := by rw [hb2w.frozen (p := ⟨bx, 1, none⟩) hl]; exact HX.out.free 1
    have hl2 : bx < w2.heap.size := by omega
    clear hb2 hb2w c11
    cases hh : Tm.ixHas (cmpOf lns st sh) s k
    · have HANS : Hid (IxStep w w2 X S bx bc st sh lns (dropSt (cmpOf lns st sh) s k)) := by
        unfold Hid dropSt
        rw [if_neg (by omega), Tm.ixDrop_gone hh]
        exact IxStep.of_below HX.out HB2.out
      have HH := hide hh
      go_wp2
      go_ret2
      exact ⟨by rw [HH.out]; rfl, HANS.out⟩
    · obtain ⟨hi, _⟩ := (Tm.ixHas_at hT hrs).1 hh
      have HH := hide hh
      have HS : Hid (dropSt (cmpOf lns st sh) s k = s.eraseIdx (Tm.below (cmpOf lns st sh) s k)) := by
        unfold Hid dropSt
        rw [if_neg (by omega), Tm.ixDrop_there hT hrs hh]
      have HR : Hid (Tm.Rises (Tm.ByKey (cmpOf lns st sh)) (nowOf (dropSt (cmpOf lns st sh) s k))) := by
        unfold Hid nowOf dropSt
        rw [if_neg (by omega)]
        exact Tm.ixDrop_rises hrs
      have HO2 : Hid (w2.ownsRow X 129 3 (.slice a s.length cap) s.length (versCells (placeOf lns st sh) s)) := ownsRow_same HO.out (fun g hg => HB2.out.block g (HO.out.lt g hg).2)
      go_wp2_with fail
      refine (without_any X (placeOf lns st sh) s _ (Tm.below (cmpOf lns st sh) s k) _ HO2.out hi (by omega)).mono ?_
      rintro e w3 ⟨v3, rfl, hown3, hgr3, hat3⟩
      have hz3 := hgr3.size
      have hbk : w3.heap[bx]? = w2.heap[bx]? := hgr3.block bx hl2 (fun e => (HVS.out bx e.symm).2 rfl)
      have c13 : w3.cell? ⟨bx, 1, none⟩ = some (.slice a s.length cap) := by rw [World.cell?_of_block (a := ⟨bx, 1, none⟩) hbk]; exact c12
      have f13 : w3.frozen? ⟨bx, 1, none⟩ = false := by rw [World.frozen?_of_block (a := ⟨bx, 1, none⟩) hbk]; exact f12
      have HANS : Hid (IxStep w (w3.setCell ⟨bx, 1, none⟩ v3) X S bx bc st sh lns (dropSt (cmpOf lns st sh) s k)) := by
        refine HX.out.newRow HB2.out HC1.out HVS.out hgr3 (fun g hg => .inl (by rw [← hat3]; exact hg)) (by rw [HS.out]; exact hown3) HR.out ?_ (fun e he => ?_)
        · unfold nowOf
          rw [HS.out, List.length_eraseIdx, if_pos hi]
          omega
        · unfold nowOf at he
          rw [HS.out] at he
          exact HX.out.short e (List.mem_of_mem_eraseIdx he)
      obtain ⟨a3, cap3, rfl⟩ := (Reads.of_owns hown3).shape
      have hl3 : bx < w3.heap.size := by omega
      clear hown3 hgr3 hat3
      go_wp2
      go_ret2
      exact ⟨by rw [HH.out]; rfl, HANS.out⟩
  · rw [if_neg hk]
    go_enter Tryz.func47, Tryz.ntmps47
    go_wp2_with fail
    refine (CodeKey_any lns bc bm st sh k _ HC.out HOK.out).mono ?_
    rw [if_neg hk]
    rintro e w1 ⟨rfl, hb1⟩
    have HANS : Hid (IxStep w w1 X S bx bc st sh lns (dropSt (cmpOf lns st sh) s k)) := by
      unfold Hid dropSt
      rw [if_pos (by omega)]
      exact IxStep.of_below HX.out hb1
    clear hb1
    go_wp2
    go_ret2
    exact ⟨rfl, HANS.out⟩
end Go.Proofs.YtdojeamhehkhoaaGreatDoor
namespace Go.Proofs.YtdojeamhehkhoaaGreatDoor
open Go.RowKit

/-- The cells of facts. -/
def factCells (fs : List Tm.Fact) : List Value := fs.flatMap fun f => [.string f.1, .string f.2.1, .bool f.2.2]
theorem factCells_length (fs : List Tm.Fact) : (factCells fs).length = fs.length * 3 := by
  induction fs with
  | nil => rfl
  | cons e r ih => simp only [factCells, List.flatMap_cons, List.length_append, List.length_cons] at *; rw [ih]; simp; omega
theorem factCells_append (a b : List Tm.Fact) : factCells (a ++ b) = factCells a ++ factCells b := by simp [factCells]
theorem facts_at {w : World} {a : Option Addr} {n cap : Nat} {fs : List Tm.Fact} (h : Reads w (.slice a n cap) 3 fs.length (factCells fs)) {k : Nat} (hk : k < fs.length) :
    ∃ g off, a = some ⟨g, off, none⟩ ∧ g < w.heap.size ∧ w.cell? ⟨g, off + k * 3, none⟩ = some (.string fs[k].1) ∧ w.cell? ⟨g, off + k * 3 + 1, none⟩ = some (.string fs[k].2.1) ∧ w.cell? ⟨g, off + k * 3 + 2, none⟩ = some (.bool fs[k].2.2) := by
  obtain ⟨g, off, cap', he, hg, hc⟩ := h.form (by rw [factCells_length]; omega)
  cases he
  have hr := rows_get (fun f : Tm.Fact => [Value.string f.1, Value.string f.2.1, Value.bool f.2.2]) 3 (fun _ => rfl) fs k hk
  exact ⟨g, off, rfl, hg, hc (k * 3) _ (hr 0 (by omega)), hc (k * 3 + 1) _ (hr 1 (by omega)), hc (k * 3 + 2) _ (hr 2 (by omega))⟩
theorem factCells_set (fs : List Tm.Fact) (k : Nat) (hk : k < fs.length) (f : Tm.Fact) : (((factCells fs).set (k * 3) (.string f.1)).set (k * 3 + 1) (.string f.2.1)).set (k * 3 + 2) (.bool f.2.2) = factCells (fs.set k f) := by
  have e0 : fs = fs.take k ++ fs[k] :: fs.drop (k + 1) := by rw [← List.drop_eq_getElem_cons hk, List.take_append_drop]
  have e1 : factCells fs = factCells (fs.take k) ++ .string fs[k].1 :: .string fs[k].2.1 :: .bool fs[k].2.2 :: factCells (fs.drop (k + 1)) := by
    conv => lhs; rw [e0]
    rw [factCells_append]; rfl
  have e2 : factCells (fs.set k f) = factCells (fs.take k) ++ .string f.1 :: .string f.2.1 :: .bool f.2.2 :: factCells (fs.drop (k + 1)) := by
    rw [List.set_eq_take_append_cons_drop, if_pos hk, factCells_append]; rfl
  have hl : (factCells (fs.take k)).length = k * 3 := by rw [factCells_length]; simp; omega
  rw [e1, e2]
  generalize factCells (fs.take k) = A at hl
  generalize factCells (fs.drop (k + 1)) = R
  rw [← hl]
  simp

/-- A book as it lies: its own blocks are those of F. -/
structure Bk (w : World) (X : Nat) (F S : Nat → Prop) (vf : Value) (bb bx bc bm : Nat) (st : Int) (sh : Bool) (lns : List Tm.Ln) (fs : List Tm.Fact) (s : IxSt) : Prop where
  base : ∃ W : World, W.heap.size = X ∧ Coll W bc bm st sh lns ∧ Below X W w
  ok : TableOk st lns
  ix : Ix w X S bx bc st sh lns s
  sub : ∀ i, S i → F i
  from_ : ∀ i, F i → X ≤ i ∧ i < w.heap.size
  own : F bb
  away : ¬ S bb
  c0 : w.cell? ⟨bb, 0, none⟩ = some (.pointer (some ⟨bc, 0, none⟩))
  c1 : w.cell? ⟨bb, 1, none⟩ = some (.pointer (some ⟨bx, 0, none⟩))
  c2 : w.cell? ⟨bb, 2, none⟩ = some vf
  c3 : w.cell? ⟨bb, 3, none⟩ = some (.bool true)
  free : ∀ o, w.frozen? ⟨bb, o, none⟩ = false
  row : w.ownsRow X 121 3 vf fs.length (factCells fs)
  rowF : ∀ g, vf.ownBlock = some g → F g ∧ g ≠ bb ∧ ¬ S g
  short : ∀ f ∈ fs, f.1.size ≤ 64
theorem Bk.size {w : World} {X : Nat} {F S : Nat → Prop} {vf : Value} {bb bx bc bm : Nat} {st : Int} {sh : Bool} {lns : List Tm.Ln} {fs : List Tm.Fact} {s : IxSt} (h : Bk w X F S vf bb bx bc bm st sh lns fs s) : X ≤ w.heap.size := by
  obtain ⟨W, hW, _, hb⟩ := h.base
  rw [← hW]; exact hb.size
theorem Bk.coll {w : World} {X : Nat} {F S : Nat → Prop} {vf : Value} {bb bx bc bm : Nat} {st : Int} {sh : Bool} {lns : List Tm.Ln} {fs : List Tm.Fact} {s : IxSt} (h : Bk w X F S vf bb bx bc bm st sh lns fs s) : Coll w bc bm st sh lns := by
  obtain ⟨W, hW, hC, hb⟩ := h.base
  exact hC.below (by rw [hW]; exact hb)
theorem Bk.foot {w w' : World} {X : Nat} {F S T : Nat → Prop} {vf : Value} {bb bx bc bm : Nat} {st : Int} {sh : Bool} {lns : List Tm.Ln} {fs : List Tm.Fact} {s : IxSt} (h : Bk w X F S vf bb bx bc bm st sh lns fs s) (hf : Foot T w w') (hd : ∀ i, F i → ¬ T i) (hT : ∀ i, T i → X ≤ i) : Bk w' X F S vf bb bx bc bm st sh lns fs s := by
  have hl := (h.from_ bb h.own).2
  obtain ⟨W, hW, hC, hb⟩ := h.base
  have hn := hd bb h.own
  exact ⟨⟨W, hW, hC, hb.trans (hf.below hT h.size)⟩, h.ok, h.ix.foot hf (fun i hi => hd i (h.sub i hi)), h.sub, fun i hi => ⟨(h.from_ i hi).1, Nat.lt_of_lt_of_le (h.from_ i hi).2 hf.size⟩, h.own, h.away,
    by rw [hf.cell (p := ⟨bb, 0, none⟩) hl hn]; exact h.c0, by rw [hf.cell (p := ⟨bb, 1, none⟩) hl hn]; exact h.c1, by rw [hf.cell (p := ⟨bb, 2, none⟩) hl hn]; exact h.c2, by rw [hf.cell (p := ⟨bb, 3, none⟩) hl hn]; exact h.c3,
    fun o => by rw [hf.frozen (p := ⟨bb, o, none⟩) hl hn]; exact h.free o, hf.owns h.row (fun g e => hd g (h.rowF g e).1), h.rowF, h.short⟩
theorem Bk.below {w w' : World} {X : Nat} {F S : Nat → Prop} {vf : Value} {bb bx bc bm : Nat} {st : Int} {sh : Bool} {lns : List Tm.Ln} {fs : List Tm.Fact} {s : IxSt} (h : Bk w X F S vf bb bx bc bm st sh lns fs s) (hb : Below w.heap.size w w') : Bk w' X F S vf bb bx bc bm st sh lns fs s :=
  h.foot (Foot.of (S := fun _ => False) hb) (fun _ _ e => e) (fun _ e => e.elim)
/-- 'ok' written anew. -/
theorem Bk.set3 {w : World} {X : Nat} {F S : Nat → Prop} {vf : Value} {bb bx bc bm : Nat} {st : Int} {sh : Bool} {lns : List Tm.Ln} {fs : List Tm.Fact} {s : IxSt} (h : Bk w X F S vf bb bx bc bm st sh lns fs s) : Bk (w.setCell ⟨bb, 3, none⟩ (.bool true)) X F S vf bb bx bc bm st sh lns fs s := by
  have hf : Foot (fun i => i = bb) w (w.setCell ⟨bb, 3, none⟩ (.bool true)) := Foot.setCell (p := ⟨bb, 3, none⟩) (Foot.refl (fun i => i = bb) w) (.inl rfl) _
  obtain ⟨W, hW, hC, hb⟩ := h.base
  have hX := (h.from_ bb h.own).1
  exact ⟨⟨W, hW, hC, hb.setCell (p := ⟨bb, 3, none⟩) hX _⟩, h.ok, h.ix.foot hf (fun i hi e => h.away (e ▸ hi)), h.sub, fun i hi => ⟨(h.from_ i hi).1, Nat.lt_of_lt_of_le (h.from_ i hi).2 hf.size⟩, h.own, h.away,
    by rw [World.cell?_setCell_other _ _ _ _ (by simp)]; exact h.c0, by rw [World.cell?_setCell_other _ _ _ _ (by simp)]; exact h.c1, by rw [World.cell?_setCell_other _ _ _ _ (by simp)]; exact h.c2, World.cell?_setCell_same _ _ _ h.c3,
    fun o => by rw [World.frozen?_setCell]; exact h.free o, hf.owns h.row (fun g e he => (h.rowF g e).2.1 he), h.rowF, h.short⟩
/-- The index has made a step. -/
theorem Bk.step {w w' : World} {X : Nat} {F S : Nat → Prop} {vf : Value} {bb bx bc bm : Nat} {st : Int} {sh : Bool} {lns : List Tm.Ln} {fs : List Tm.Fact} {s s' : IxSt} (h : Bk w X F S vf bb bx bc bm st sh lns fs s) (hs : IxStep w w' X S bx bc st sh lns s') :
    ∃ F' S' : Nat → Prop, Bk w' X F' S' vf bb bx bc bm st sh lns fs s' ∧ Foot F w w' ∧ ∀ i, F' i → F i ∨ w.heap.size ≤ i := by
  obtain ⟨S', hi, hf, hS⟩ := hs
  have hl := (h.from_ bb h.own).2
  obtain ⟨W, hW, hC, hb⟩ := h.base
  refine ⟨fun i => F i ∨ S' i, S', ⟨⟨W, hW, hC, hb.trans (hf.below (fun i hi => (h.from_ i (h.sub i hi)).1) h.size)⟩, h.ok, hi, fun i hi => .inr hi, fun i hi' => ?_, .inl h.own, fun e => ?_,
    by rw [hf.cell (p := ⟨bb, 0, none⟩) hl h.away]; exact h.c0, by rw [hf.cell (p := ⟨bb, 1, none⟩) hl h.away]; exact h.c1, by rw [hf.cell (p := ⟨bb, 2, none⟩) hl h.away]; exact h.c2, by rw [hf.cell (p := ⟨bb, 3, none⟩) hl h.away]; exact h.c3,
    fun o => by rw [hf.frozen (p := ⟨bb, o, none⟩) hl h.away]; exact h.free o, hf.owns h.row (fun g e => (h.rowF g e).2.2), fun g e => ?_, h.short⟩, hf.mono h.sub, fun i hi' => ?_⟩
  · rcases hi' with e | e
    · exact ⟨(h.from_ i e).1, Nat.lt_of_lt_of_le (h.from_ i e).2 hf.size⟩
    · exact hi.from_ i e
  · rcases hS bb e with e | e
    · exact h.away e
    · omega
  · obtain ⟨h1, h2, h3⟩ := h.rowF g e
    refine ⟨.inl h1, h2, fun e' => ?_⟩
    rcases hS g e' with e' | e'
    · exact h3 e'
    · have := (h.from_ g h1).2; omega
  · rcases hi' with e | e
    · exact .inl e
    · rcases hS i e with e | e
      · exact .inl (h.sub i e)
      · exact .inr e
/-- A fact is written. -/
theorem Bk.setFact {w : World} {X : Nat} {F S : Nat → Prop} {g n cap bb bx bc bm : Nat} {st : Int} {sh : Bool} {lns : List Tm.Ln} {fs : List Tm.Fact} {s : IxSt} (h : Bk w X F S (.slice (some ⟨g, 0, none⟩) n cap) bb bx bc bm st sh lns fs s) {k : Nat} (hk : k < fs.length) (f : Tm.Fact) (hf1 : f.1.size ≤ 64) :
    Bk (((w.setCell ⟨g, k * 3, none⟩ (.string f.1)).setCell ⟨g, k * 3 + 1, none⟩ (.string f.2.1)).setCell ⟨g, k * 3 + 2, none⟩ (.bool f.2.2)) X F S (.slice (some ⟨g, 0, none⟩) n cap) bb bx bc bm st sh lns (fs.set k f) s ∧ Foot F w (((w.setCell ⟨g, k * 3, none⟩ (.string f.1)).setCell ⟨g, k * 3 + 1, none⟩ (.string f.2.1)).setCell ⟨g, k * 3 + 2, none⟩ (.bool f.2.2)) := by
  obtain ⟨hg1, hg2, hg3⟩ := h.rowF g rfl
  have hf : Foot (fun i => i = g) w (((w.setCell ⟨g, k * 3, none⟩ (.string f.1)).setCell ⟨g, k * 3 + 1, none⟩ (.string f.2.1)).setCell ⟨g, k * 3 + 2, none⟩ (.bool f.2.2)) := Foot.setCell (p := ⟨g, k * 3 + 2, none⟩) (Foot.setCell (p := ⟨g, k * 3 + 1, none⟩) (Foot.setCell (p := ⟨g, k * 3, none⟩) (Foot.refl (fun i => i = g) w) (.inl rfl) _) (.inl rfl) _) (.inl rfl) _
  have hl := (h.from_ bb h.own).2
  obtain ⟨W, hW, hC, hb⟩ := h.base
  have hn : n = fs.length := ((Reads.of_owns h.row).fits).1
  have hown : (((w.setCell ⟨g, k * 3, none⟩ (.string f.1)).setCell ⟨g, k * 3 + 1, none⟩ (.string f.2.1)).setCell ⟨g, k * 3 + 2, none⟩ (.bool f.2.2)).ownsRow X 121 3 (.slice (some ⟨g, 0, none⟩) n cap) (fs.set k f).length (factCells (fs.set k f)) := by
    rw [← factCells_set fs k hk f, List.length_set]
    have := h.row
    subst hn
    exact owns_setAt (owns_setAt (owns_setAt this _ _) _ _) _ _
  refine ⟨⟨⟨W, hW, hC, hb.trans (hf.below (fun i hi => by subst hi; exact (h.from_ i hg1).1) h.size)⟩, h.ok, h.ix.foot hf (fun i hi e => hg3 (e ▸ hi)), h.sub, fun i hi => ⟨(h.from_ i hi).1, Nat.lt_of_lt_of_le (h.from_ i hi).2 hf.size⟩, h.own, h.away,
    by rw [hf.cell (p := ⟨bb, 0, none⟩) hl (fun e => hg2 e.symm)]; exact h.c0, by rw [hf.cell (p := ⟨bb, 1, none⟩) hl (fun e => hg2 e.symm)]; exact h.c1, by rw [hf.cell (p := ⟨bb, 2, none⟩) hl (fun e => hg2 e.symm)]; exact h.c2, by rw [hf.cell (p := ⟨bb, 3, none⟩) hl (fun e => hg2 e.symm)]; exact h.c3,
    fun o => by rw [hf.frozen (p := ⟨bb, o, none⟩) hl (fun e => hg2 e.symm)]; exact h.free o, hown, h.rowF, fun f' hf' => ?_⟩, hf.mono (fun i hi => hi ▸ hg1)⟩
  rcases List.mem_or_eq_of_mem_set hf' with e | e
  · exact h.short f' e
  · rw [e]; exact hf1
/-- The row of facts has grown, and the book has its new slice. -/
theorem Bk.grow {w w' : World} {X : Nat} {F S : Nat → Prop} {vf v' : Value} {bb bx bc bm : Nat} {st : Int} {sh : Bool} {lns : List Tm.Ln} {fs : List Tm.Fact} {f : Tm.Fact} {s : IxSt} {o : Obj} (h : Bk w X F S vf bb bx bc bm st sh lns fs s) (hf1 : f.1.size ≤ 64)
    (hown : w'.ownsRow X 121 3 v' (fs.length + 1) (factCells fs ++ factCells [f])) (hg : (w.alloc o).grownBy w' vf.ownBlock) (hat : v'.ownBlock = vf.ownBlock ∨ v'.ownBlock = some (w.alloc o).heap.size) :
    ∃ F' : Nat → Prop, Bk (w'.setCell ⟨bb, 2, none⟩ v') X F' S v' bb bx bc bm st sh lns (fs ++ [f]) s ∧ Foot F w (w'.setCell ⟨bb, 2, none⟩ v') ∧ ∀ i, F' i → F i ∨ w.heap.size ≤ i := by
  have hl := (h.from_ bb h.own).2
  have hf0 : Foot (fun i => vf.ownBlock = some i) w w' := ((Foot.refl _ w).alloc o).grown hg (fun k e => .inl e)
  have hnb : vf.ownBlock ≠ some bb := fun e => (h.rowF bb e).2.1 rfl
  have hf : Foot (fun i => vf.ownBlock = some i ∨ i = bb) w (w'.setCell ⟨bb, 2, none⟩ v') := (hf0.mono (fun i hi => .inl hi)).setCell (.inl (.inr rfl)) _
  have hv' : ∀ g, v'.ownBlock = some g → vf.ownBlock = some g ∨ w.heap.size + 1 = g := fun g e => by
    rcases hat with e' | e'
    · exact .inl (by rw [← e']; exact e)
    · rw [e'] at e; simp at e; exact .inr e
  have hnb' : v'.ownBlock ≠ some bb := fun e => by
    rcases hv' bb e with e | e
    · exact hnb e
    · omega
  have hcb : ∀ q, w'.cell? ⟨bb, q, none⟩ = w.cell? ⟨bb, q, none⟩ := fun q => hf0.cell (p := ⟨bb, q, none⟩) hl hnb
  have hzz : w.heap.size + 1 ≤ w'.heap.size := by have := hg.size; simpa using this
  obtain ⟨W, hW, hC, hb⟩ := h.base
  refine ⟨fun i => F i ∨ v'.ownBlock = some i, ⟨⟨W, hW, hC, hb.trans (hf.below (fun i hi => ?_) h.size)⟩, h.ok, h.ix.foot hf (fun i hi e => ?_), fun i hi => .inl (h.sub i hi), fun i hi => ?_, .inl h.own, h.away,
    by rw [World.cell?_setCell_other _ _ _ _ (by simp), hcb]; exact h.c0, by rw [World.cell?_setCell_other _ _ _ _ (by simp), hcb]; exact h.c1, World.cell?_setCell_same _ _ _ ((hcb 2).trans h.c2), by rw [World.cell?_setCell_other _ _ _ _ (by simp), hcb]; exact h.c3,
    fun q => by rw [World.frozen?_setCell, hf0.frozen (p := ⟨bb, q, none⟩) hl hnb]; exact h.free q, ?_, fun g e => ?_, fun f' hf' => ?_⟩, hf.mono (fun i hi => ?_), fun i hi => ?_⟩
  · rcases hi with e | e
    · exact (h.from_ i (h.rowF i e).1).1
    · subst e; exact (h.from_ i h.own).1
  · rcases e with e | e
    · exact (h.rowF i e).2.2 hi
    · subst e; exact h.away hi
  · rcases hi with e | e
    · exact ⟨(h.from_ i e).1, Nat.lt_of_lt_of_le (h.from_ i e).2 hf.size⟩
    · have := hown.lt i e
      exact ⟨this.1, by simpa [World.setCell] using this.2⟩
  · rw [factCells_append, List.length_append]
    exact ownsRow_same hown (fun g e => Below.heap_setCell _ _ _ _ (by rintro rfl; exact hnb' e))
  · refine ⟨.inr e, fun e' => hnb' (e' ▸ e), fun e' => ?_⟩
    rcases hv' g e with e | e
    · exact (h.rowF g e).2.2 e'
    · have := (h.from_ g (h.sub g e')).2; omega
  · rcases List.mem_append.1 hf' with e | e
    · exact h.short f' e
    · rw [List.mem_singleton.1 e]; exact hf1
  · rcases hi with e | e
    · exact (h.rowF i e).1
    · subst e; exact h.own
  · rcases hi with e | e
    · exact .inl e
    · rcases hv' i e with e | e
      · exact .inl (h.rowF i e).1
      · exact .inr (by omega)
end Go.Proofs.YtdojeamhehkhoaaGreatDoor
