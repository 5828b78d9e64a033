import Derived.Handy
import Derived.Test.YtmnjjjhmnhfapaaGreatDoorMIxPutD
namespace Go.Proofs.YtmnjjjhmnhfapaaGreatDoor
open Go.RowKit
set_option maxRecDepth 100000 in
set_option maxHeartbeats 2000000 in
theorem placingOf_any (lns : List Tm.Ln) (bc bm : Nat) (st : Int) (sh : Bool) (k : ByteArray) (w : World) (hc : Coll w bc bm st sh lns) (hok : TableOk st lns) :
  Calls Tryz.prog 76 #[.pointer (some ⟨bc, 0, none⟩), .string k] w fun e w' => e = .returned (.agg (if k.size ≤ 64 then #[.string (placeOf lns st sh k), .int .i64 0] else #[.string ⟨#[]⟩, .int .i64 7])) ∧ Below w.heap.size w w' := by
 have HC := hide (hc.below ((Below.refl _ _).alloc (Nat.le_refl _) (.cells #[.string ⟨#[]⟩, .int .i64 0] 149)))
 have HOK := hide hok
 clear hc hok
 obtain ⟨p, er, hp⟩ : ∃ p er, (if k.size ≤ 64 then #[.string (placeOf lns st sh k), .int .i64 0] else #[.string ⟨#[]⟩, .int .i64 7] : Array Value) = #[.string p, .int .i64 er] := by
  by_cases hk : k.size ≤ 64
  ·exact ⟨_, _, by rw [if_pos hk]⟩
  ·exact ⟨_, _, by rw [if_neg hk]⟩
 obtain ⟨W0, hW0⟩ : ∃ W0, w.alloc (.cells #[.string ⟨#[]⟩, .int .i64 0] 149) = W0 := ⟨_, rfl⟩
 have HKEY : Hid (Calls Tryz.prog 65 #[.pointer (some ⟨bc, 0, none⟩), .string k] W0 fun e w' => e = .returned (.tuple #[.string p, .int .i64 er]) ∧ Below W0.heap.size W0 w') := by
  unfold Hid
  rw [← hW0]
  refine (CodeKey_any lns bc bm st sh k _ HC.out HOK.out).mono ?_
  rintro e w' ⟨rfl, hb⟩
  refine ⟨?_, hb⟩
  by_cases hk : k.size ≤ 64
  ·rw [if_pos hk] at hp ⊢
   simp at hp
   rw [← hp.1, ← hp.2]; rfl
  ·rw [if_neg hk] at hp ⊢
   simp at hp
   rw [← hp.1, ← hp.2]
 have HB0 : Hid (Below w.heap.size w W0) := by unfold Hid; rw [← hW0]; exact (Below.refl _ _).alloc (Nat.le_refl _) _
 have hz0 : W0.heap.size = w.heap.size + 1 := by rw [← hW0]; simp
 have HF : Hid (∀ W : World, Below W0.heap.size W0 W → W.cell? ⟨w.heap.size, 0, none⟩ = some (.string ⟨#[]⟩) ∧ W.cell? ⟨w.heap.size, 1, none⟩ = some (.int .i64 0) ∧ W.frozen? ⟨w.heap.size, 0, none⟩ = false ∧ W.frozen? ⟨w.heap.size, 1, none⟩ = false) := fun W hW => by
  rw [hW.cell (p := ⟨w.heap.size, 0, none⟩) (by show w.heap.size < _; omega), hW.cell (p := ⟨w.heap.size, 1, none⟩) (by show w.heap.size < _; omega), hW.frozen (p := ⟨w.heap.size, 0, none⟩) (by show w.heap.size < _; omega), hW.frozen (p := ⟨w.heap.size, 1, none⟩) (by show w.heap.size < _; omega), ← hW0, cell_new rfl, cell_new rfl, frozen_new rfl, frozen_new rfl]
  exact ⟨rfl, rfl, rfl, rfl⟩
 have HW0 := hide hW0
 rw [hp]
 clear hW0 hp
 go_enter Tryz.func76, Tryz.ntmps76
 go_upto_region 1 with fail
 rw [HW0.out]
 go_wp2_with fail
 refine HKEY.out.mono ?_
 rintro e w1 ⟨rfl, hb1⟩
 have HB1 : Hid (Below w.heap.size w w1) := HB0.out.trans (hb1.mono (by omega))
 obtain ⟨x0, x1, f0, f1⟩ := HF.out w1 hb1
 have hz1 := hb1.size
 clear hb1
 have e1 : (w1.setCell ⟨w.heap.size, 0, none⟩ (.string p)).cell? ⟨w.heap.size, 1, none⟩ = some (.int .i64 0) := by rw [World.cell?_setCell_other _ _ _ _ (by simp)]; exact x1
 have y0 : ((w1.setCell ⟨w.heap.size, 0, none⟩ (.string p)).setCell ⟨w.heap.size, 1, none⟩ (.int .i64 er)).cell? ⟨w.heap.size, 0, none⟩ = some (.string p) := by rw [World.cell?_setCell_other _ _ _ _ (by simp)]; exact World.cell?_setCell_same _ _ _ x0
 have y1 : ((w1.setCell ⟨w.heap.size, 0, none⟩ (.string p)).setCell ⟨w.heap.size, 1, none⟩ (.int .i64 er)).cell? ⟨w.heap.size, 1, none⟩ = some (.int .i64 er) := World.cell?_setCell_same _ _ _ e1
 go_wp2
 (try simp only [Exit.inBlock, Exit.then])
 refine bodyPost_ret (by simp [results, Tryz.results76, go_sem, y0, y1]; try rfl) rfl ?_
 exact ⟨rfl, (HB1.out.setCell (p := ⟨w.heap.size, 0, none⟩) (Nat.le_refl _) _).setCell (p := ⟨w.heap.size, 1, none⟩) (Nat.le_refl _) _⟩
set_option maxRecDepth 100000 in
set_option maxHeartbeats 1000000 in
theorem put_no (bx : Nat) (k v p : ByteArray) (w : World) :
  Calls Tryz.prog 74 #[.pointer (some ⟨bx, 0, none⟩), .agg #[.string k, .string v], .agg #[.string p, .int .i64 7]] w fun e w' => e = .returned (.int .i64 7) ∧ Below w.heap.size w w' := by
 have HB0 : Hid (Below w.heap.size w ((w.alloc (.cells #[.string k, .string v] 67)).alloc (.cells #[.string p, .int .i64 7] 149))) := ((Below.refl _ _).alloc (Nat.le_refl _) _).alloc (by simp) _
 go_enter Tryz.func74, Tryz.ntmps74
 go_wp2
 go_ret
 exact ⟨rfl, HB0.out⟩
set_option maxRecDepth 100000 in
set_option maxHeartbeats 2000000 in
theorem IxPut_any (lns : List Tm.Ln) (bc bm : Nat) (st : Int) (sh : Bool) (X : Nat) (S : Nat → Prop) (bx : Nat) (s : IxSt) (k v : ByteArray) (w : World) (hc : Coll w bc bm st sh lns) (hok : TableOk st lns) (hx : Ix w X S bx bc st sh lns s) (hX : X ≤ w.heap.size) :
  Calls Tryz.prog 33 #[.pointer (some ⟨bx, 0, none⟩), .string k, .string v] w fun e w' => e = .returned (.int .i64 (putErr (cmpOf lns st sh) s k v)) ∧ IxStep w w' X S bx bc st sh lns (putSt (cmpOf lns st sh) s k v) := by
 have HC := hide hc
 have HOK := hide hok
 have HX := hide hx
 have HF := hide hc.fit
 have c0 := hx.c0
 have hl := (hx.from_ bx hx.own).2
 clear hc hok hx
 by_cases hk : k.size ≤ 64
 ·go_enter Tryz.func33, Tryz.ntmps33
  go_wp2_with fail
  refine (placingOf_any lns bc bm st sh k _ HC.out HOK.out).mono ?_
  rw [if_pos hk]
  rintro e w1 ⟨rfl, hb1⟩
  have HB1 := hide hb1
  have HX1 := hide (HX.out.below hb1)
  have hz1 := hb1.size
  clear hb1 c0
  go_wp2_with fail
  refine (put_any lns bc st sh X S bx s k v _ HF.out HOK.out HX1.out (by omega) hk).mono ?_
  rintro e w2 ⟨rfl, S', h1, h2, h3⟩
  have HANS : Hid (IxStep w w2 X S bx bc st sh lns (putSt (cmpOf lns st sh) s k v)) := ⟨S', h1, (Foot.of HB1.out).trans h2 (fun i hi => .inl hi), fun i hi => by
   rcases h3 i hi with e | e
   ·exact .inl e
   ·exact .inr (by omega)⟩
  clear h1 h2 h3
  go_wp2
  go_ret
  exact ⟨rfl, HANS.out⟩
 ·have HPE : Hid (putErr (cmpOf lns st sh) s k v = 7) := by unfold Hid putErr; rw [if_pos (by omega)]
  go_enter Tryz.func33, Tryz.ntmps33
  go_wp2_with fail
  refine (placingOf_any lns bc bm st sh k _ HC.out HOK.out).mono ?_
  rw [if_neg hk]
  rintro e w1 ⟨rfl, hb1⟩
  have HB1 := hide hb1
  have hz1 := hb1.size
  clear hb1
  go_wp2_with fail
  refine (put_no bx k v _ w1).mono ?_
  rintro e w2 ⟨rfl, hb2⟩
  have HANS : Hid (IxStep w w2 X S bx bc st sh lns (putSt (cmpOf lns st sh) s k v)) := by
   unfold Hid
   rw [putSt_no (by rw [HPE.out]; omega)]
   exact IxStep.of_below HX.out (HB1.out.trans (hb2.mono hz1))
  clear hb2
  go_wp2
  go_ret
  exact ⟨by rw [HPE.out]; rfl, HANS.out⟩
set_option maxRecDepth 100000 in
set_option maxHeartbeats 2000000 in
theorem IxDelete_any (lns : List Tm.Ln) (bc bm : Nat) (st : Int) (sh : Bool) (X : Nat) (S : Nat → Prop) (bx : Nat) (s : IxSt) (k : ByteArray) (w : World) (hc : Coll w bc bm st sh lns) (hok : TableOk st lns) (hx : Ix w X S bx bc st sh lns s) (_hX : X ≤ w.heap.size) :
  Calls Tryz.prog 58 #[.pointer (some ⟨bx, 0, none⟩), .string k] w fun e w' => e = .returned (if k.size ≤ 64 then .tuple #[.bool (Tm.ixHas (cmpOf lns st sh) (nowOf s) k), .int .i64 0] else .tuple #[.bool false, .int .i64 7]) ∧ IxStep w w' X S bx bc st sh lns (dropSt (cmpOf lns st sh) s k) := by
 have hT := told_cmpOf lns st sh
 have hK := keyed_place hc.fit (sh := sh) hok.st
 have HC := hide hc
 have HOK := hide hok
 have HX := hide hx
 have c0 := hx.c0
 have hl := (hx.from_ bx hx.own).2
 have hrs : Tm.Rises (Tm.ByKey (cmpOf lns st sh)) (Tm.entsOf s.now) := hx.rises
 have hfew : s.now.length ≤ 64 := by rw [← nowOf_length]; exact hx.few
 have HOKP := hide (hx.ok.drop k)
 obtain ⟨F, B, V, vn, vh, hi⟩ := hx.mem
 obtain ⟨a, cap, rfl⟩ := (Reads.of_owns hi.now).shape
 have HI := hide hi
 have HC1 := hide hi.c1
 clear hc hok hx hi
 show Calls _ _ _ _ fun e w' => e = .returned (if k.size ≤ 64 then .tuple #[.bool (Tm.ixHas (cmpOf lns st sh) (Tm.entsOf s.now) k), .int .i64 0] else .tuple #[.bool false, .int .i64 7]) ∧ _
 by_cases hk : k.size ≤ 64
 ·rw [if_pos hk]
  go_enter Tryz.func58, Tryz.ntmps58
  go_wp2_with fail
  refine (CodeKey_any lns bc bm st sh k _ HC.out HOK.out).mono ?_
  rw [if_pos hk]
  rintro e w1 ⟨rfl, hb1⟩
  have HB1 := hide hb1
  have hz1 := hb1.size
  have c11 : w1.cell? ⟨bx, 1, none⟩ = some (.slice a s.now.length cap) := by rw [hb1.cell (p := ⟨bx, 1, none⟩) hl]; exact HC1.out
  have hl1 : bx < w1.heap.size := by omega
  have HRD := hide (HI.out.nowRow.below hb1)
  clear hb1 c0
  go_wp2_with fail
  refine (find_any (placeOf lns st sh) (cmpOf lns st sh) hK hT s.now hrs B _ k _ HRD.out (by omega)).mono ?_
  rintro e w2 ⟨rfl, hb2⟩
  have hb2w := HB1.out.trans (hb2.mono hz1)
  have HB2 := hide hb2w
  have hz2 := hb2.size
  have c12 : w2.cell? ⟨bx, 1, none⟩ = some (.slice a s.now.length cap) := by rw [hb2.cell (p := ⟨bx, 1, none⟩) hl1]; exact c11
  have f12 : w2.frozen? ⟨bx, 1, none⟩ = false := by rw [hb2w.frozen (p := ⟨bx, 1, none⟩) hl]; exact HX.out.free 1
  have hl2 : bx < w2.heap.size := by omega
  clear hb2 hb2w c11
  cases hh : Tm.ixHas (cmpOf lns st sh) (Tm.entsOf s.now) k
  ·have HANS : Hid (IxStep w w2 X S bx bc st sh lns (dropSt (cmpOf lns st sh) s k)) := by
    unfold Hid dropSt nowOf
    rw [if_neg (by omega), if_neg (by rw [hh]; simp)]
    exact IxStep.of_below HX.out HB2.out
   have HH := hide hh
   go_wp2
   go_ret2
   exact ⟨by rw [HH.out]; rfl, HANS.out⟩
  ·have HH := hide hh
   obtain ⟨hi, _⟩ := (Tm.ixHas_at hT hrs).1 hh
   rw [Tm.entsOf_length] at hi
   have HS : Hid (dropSt (cmpOf lns st sh) s k = { s with now := s.now.eraseIdx (Tm.below (cmpOf lns st sh) (Tm.entsOf s.now) k), next := s.next + 1 }) := by
    unfold Hid dropSt nowOf
    rw [if_neg (by omega), if_pos hh, Tm.verDrop_there hT hrs hh]
   have HO2 : Hid (w2.ownsRow X 138 1 (.slice a s.now.length cap) s.now.length (ptrs B s.now)) := ownsRow_same HI.out.now (fun g hg => HB2.out.block g (HI.out.now.lt g hg).2)
   go_wp2_with fail
   refine (without_any X (ptrs B s.now) s.now.length _ (Tm.below (cmpOf lns st sh) (Tm.entsOf s.now) k) _ HO2.out (ptrs_one B s.now) hi (by omega)).mono ?_
   rintro e w3 ⟨v3, rfl, hown3, hgr3, hat3⟩
   have hz3 := hgr3.size
   have hbk : w3.heap[bx]? = w2.heap[bx]? := hgr3.block bx hl2 (fun e => (HI.out.vS bx e.symm).2.1 rfl)
   have c13 : w3.cell? ⟨bx, 1, none⟩ = some (.slice a s.now.length cap) := by rw [World.cell?_of_block (a := ⟨bx, 1, none⟩) hbk]; exact c12
   have f13 : w3.frozen? ⟨bx, 1, none⟩ = false := by rw [World.frozen?_of_block (a := ⟨bx, 1, none⟩) hbk]; exact f12
   have HANS : Hid (IxStep w (w3.setCell ⟨bx, 1, none⟩ v3) X S bx bc st sh lns (dropSt (cmpOf lns st sh) s k)) := by
    unfold Hid
    rw [HS.out]
    refine HX.out.newRow HI.out HB2.out hgr3 (fun g hg => .inl (by rw [← hat3]; exact hg)) _ _ B (fun _ => False) (fun _ _ => rfl) ?_ (fun _ e => e.elim) (fun x hx => .inl (List.mem_of_mem_eraseIdx hx)) (by have := HOKP.out; rw [HS.out] at this; exact this)
    have e1 : ptrs B (s.now.eraseIdx (Tm.below (cmpOf lns st sh) (Tm.entsOf s.now) k)) = (ptrs B s.now).eraseIdx (Tm.below (cmpOf lns st sh) (Tm.entsOf s.now) k) := by
     unfold ptrs
     rw [List.eraseIdx_eq_take_drop_succ, List.eraseIdx_eq_take_drop_succ, List.map_append, List.map_take, List.map_drop]
    rw [e1, List.length_eraseIdx, if_pos hi]
    exact hown3
   obtain ⟨a3, cap3, rfl⟩ := (Reads.of_owns hown3).shape
   have hl3 : bx < w3.heap.size := by omega
   clear hown3 hgr3 hat3
   go_wp2
   go_ret2
   exact ⟨by rw [HH.out]; rfl, HANS.out⟩
 ·rw [if_neg hk]
  go_enter Tryz.func58, Tryz.ntmps58
  go_wp2_with fail
  refine (CodeKey_any lns bc bm st sh k _ HC.out HOK.out).mono ?_
  rw [if_neg hk]
  rintro e w1 ⟨rfl, hb1⟩
  have HANS : Hid (IxStep w w1 X S bx bc st sh lns (dropSt (cmpOf lns st sh) s k)) := by
   unfold Hid dropSt
   rw [if_pos (by omega)]
   exact IxStep.of_below HX.out hb1
  clear hb1
  go_wp2
  go_ret2
  exact ⟨rfl, HANS.out⟩
end Go.Proofs.YtmnjjjhmnhfapaaGreatDoor
