import Derived.BigRegion
import Derived.Deep.QuietTactic
import Derived.BigQuiet
import Derived.Handy
import Derived.Test.YtmnjjjhmnhfapaaGreatDoorMIxWithin
namespace Go.Proofs.YtmnjjjhmnhfapaaGreatDoor
open Go.RowKit

set_option maxRecDepth 100000 in
set_option maxHeartbeats 1000000 in
theorem shownBy_zero (bx : Nat) (v : Value) (w : World) (hc : w.cell? ⟨bx, 1, none⟩ = some v) (_hl : bx < w.heap.size) (hv : ∃ a n cap, v = .slice a n cap) :
    Calls Tryz.prog 61 #[.pointer (some ⟨bx, 0, none⟩), .int .i64 0] w fun e w' => e = .returned (.tuple #[v, .int .i64 0]) ∧ w' = w := by
  obtain ⟨a, n, cap, rfl⟩ := hv
  go_enter Tryz.func61, Tryz.ntmps61
  go_wp2
  go_ret2
  exact ⟨rfl, rfl⟩

set_option maxRecDepth 100000 in
set_option maxHeartbeats 4000000 in
/-- Scan of what is shown. -/
theorem scanRow_any (lns : List Tm.Ln) (bc bm : Nat) (st : Int) (sh : Bool) (bx : Nat) (handle : Int) (s : Tm.Vers) (B : Nat → Nat) (v : Value) (lo hi : ByteArray) (limit : Int) (w : World) (hc : Coll w bc bm st sh lns) (hok : TableOk st lns) (c0 : w.cell? ⟨bx, 0, none⟩ = some (.pointer (some ⟨bc, 0, none⟩))) (hbl : bx < w.heap.size)
    (hshown : Calls Tryz.prog 61 #[.pointer (some ⟨bx, 0, none⟩), .int .i64 handle] w fun e w' => e = .returned (.tuple #[v, .int .i64 0]) ∧ Below w.heap.size w w')
    (hrs : Tm.Rises (Tm.ByKey (cmpOf lns st sh)) (Tm.entsOf s)) (hfew : s.length ≤ 64) (hrd : VRow w (placeOf lns st sh) B v s) (hv : v = .slice none 0 0 ∨ ∃ g off cap, v = .slice (some ⟨g, off, none⟩) s.length cap) (hl : -9223372036854775808 ≤ limit ∧ limit ≤ 9223372036854775807) :
    Calls Tryz.prog 21 #[.pointer (some ⟨bx, 0, none⟩), .int .i64 handle, .string lo, .string hi, .int .i64 limit] w fun e w' => scanOf (cmpOf lns st sh) (Tm.entsOf s) lo hi limit w e w' := by
  obtain ⟨hl1, hl2⟩ := hl
  have HC := hide hc
  have HOK := hide hok
  have HRD := hide hrd
  have HV := hide hv
  have HSH := hide hshown
  have hle : (Tm.ixScan (cmpOf lns st sh) (Tm.entsOf s) lo hi).length ≤ s.length := by
    have := List.length_filter_le (Tm.within (cmpOf lns st sh) lo hi) (Tm.entsOf s)
    rwa [Tm.entsOf_length] at this
  obtain ⟨a, cap, rfl⟩ := hrd.reads.shape
  clear hc hok hrd hv hshown
  go_enter Tryz.func21, Tryz.ntmps21
  go_wp2_with fail
  refine HSH.out.mono ?_
  rintro e w0 ⟨rfl, hb0⟩
  have HB0 := hide hb0
  have hz0 := hb0.size
  have c00 : w0.cell? ⟨bx, 0, none⟩ = some (.pointer (some ⟨bc, 0, none⟩)) := by rw [hb0.cell (p := ⟨bx, 0, none⟩) hbl]; exact c0
  have hbl0 : bx < w0.heap.size := by omega
  have HC0 := hide (HC.out.below hb0)
  have HRD0 := hide (HRD.out.below hb0)
  clear hb0 c0
  go_wp2_with fail
  refine (within_any lns bc bm st sh bx s B _ lo hi _ HC0.out HOK.out c00 hbl0 hrs HRD0.out HV.out hfew).mono ?_
  rintro e w1 ⟨hb1, hans⟩
  have HB1 := hide (HB0.out.trans (hb1.mono hz0))
  have hz1 : w.heap.size ≤ w1.heap.size := by have := hb1.size; omega
  clear hb1 c00
  by_cases hlong : 64 < lo.size ∨ 64 < hi.size
  · rw [if_pos hlong] at hans
    subst hans
    go_wp2
    go_ret2
    refine ⟨HB1.out, ?_⟩
    rw [if_pos hlong]
    rfl
  · rw [if_neg hlong] at hans
    obtain ⟨v1, l1, rfl, hl1e, hrd1⟩ := hans
    have HL1 := hide hl1e
    rw [← hl1e, Tm.entsOf_length] at hle
    have HRD1 := hide hrd1
    obtain ⟨a1, cap1, rfl⟩ := hrd1.reads.shape
    obtain ⟨_, hf1, hf2⟩ := hrd1.reads.fits
    unfold maxLen at hf2
    clear hrd1
    by_cases hneg : limit < 0
    · go_wp2
      go_ret2
      refine ⟨HB1.out, ?_⟩
      rw [if_neg hlong, if_pos hneg]
      rfl
    · obtain ⟨l, rfl⟩ : ∃ l : Nat, limit = l := ⟨limit.toNat, by omega⟩
      have HTK : Hid (VRow w1 (placeOf lns st sh) B (.slice a1 (min l l1.length) cap1) (l1.take l)) := by
        unfold Hid
        by_cases h1 : l ≤ l1.length
        · rw [Nat.min_eq_left h1]
          exact HRD1.out.upTo rfl h1
        · rw [Nat.min_eq_right (by omega), List.take_of_length_le (by omega)]
          exact HRD1.out
      have htl : (l1.take l).length ≤ 64 := by rw [List.length_take]; omega
      have HEQ : Hid ((l : Int).toNat = l) := by unfold Hid; omega
      obtain ⟨tk, htk⟩ : ∃ tk, l1.take l = tk := ⟨_, rfl⟩
      have HTKE : Hid ((Tm.ixScan (cmpOf lns st sh) (Tm.entsOf s) lo hi).take l = Tm.entsOf tk) := by unfold Hid; rw [← HL1.out, ← entsOf_take, htk]
      rw [htk] at HTK htl
      clear htk
      have hl1e := hl1e
      clear hl1e
      generalize hm : l1.length = m at *
      have HM := hide hm
      clear hm
      by_cases h1 : l ≤ m
      · have hmin : min l m = l := Nat.min_eq_left h1
        rw [hmin] at HTK
        have i0 : (0 : Int) ≤ (l : Int) := by omega
        have i1 : ((l : Int) ≤ (m : Int)) := by omega
        have i2 : (l : Int) ≤ (cap1 : Int) := by omega
        have hmi : min (l : Int) (m : Int) = (l : Int) := by omega
        go_wp2_with fail
        refine (entries_any (placeOf lns st sh) tk B _ _ HTK.out (by omega)).mono ?_
        rintro e w2 ⟨v2, rfl, hown2, hb2⟩
        have HANS : Hid (scanOf (cmpOf lns st sh) (Tm.entsOf s) lo hi l w (.returned (.tuple #[v2, .int .i64 0])) w2) := by
          refine ⟨HB1.out.trans (hb2.mono hz1), ?_⟩
          rw [if_neg hlong, if_neg (by omega), HEQ.out]
          rw [HTKE.out, Tm.entsOf_length]
          exact ⟨v2, rfl, owns_mono hown2 hz1⟩
        obtain ⟨a2, cap2, rfl⟩ := (Reads.of_owns hown2).shape
        clear hown2 hb2
        go_wp2
        go_ret2
        exact HANS.out
      · have hmin : min l m = m := Nat.min_eq_right (by omega)
        rw [hmin] at HTK
        have i0 : (0 : Int) ≤ (m : Int) := by omega
        have i1 : ¬ ((l : Int) ≤ (m : Int)) := by omega
        have i2 : (m : Int) ≤ (cap1 : Int) := by omega
        have hmi : min (l : Int) (m : Int) = (m : Int) := by omega
        go_wp2_with fail
        refine (entries_any (placeOf lns st sh) tk B _ _ HTK.out (by omega)).mono ?_
        rintro e w2 ⟨v2, rfl, hown2, hb2⟩
        have HANS : Hid (scanOf (cmpOf lns st sh) (Tm.entsOf s) lo hi l w (.returned (.tuple #[v2, .int .i64 0])) w2) := by
          refine ⟨HB1.out.trans (hb2.mono hz1), ?_⟩
          rw [if_neg hlong, if_neg (by omega), HEQ.out]
          rw [HTKE.out, Tm.entsOf_length]
          exact ⟨v2, rfl, owns_mono hown2 hz1⟩
        obtain ⟨a2, cap2, rfl⟩ := (Reads.of_owns hown2).shape
        clear hown2 hb2
        go_wp2
        go_ret2
        exact HANS.out

theorem IxScan_any (lns : List Tm.Ln) (bc bm : Nat) (st : Int) (sh : Bool) (X : Nat) (S : Nat → Prop) (bx : Nat) (s : IxSt) (lo hi : ByteArray) (limit : Int) (w : World) (hc : Coll w bc bm st sh lns) (hok : TableOk st lns) (hx : Ix w X S bx bc st sh lns s) (hl : -9223372036854775808 ≤ limit ∧ limit ≤ 9223372036854775807) :
    Calls Tryz.prog 21 #[.pointer (some ⟨bx, 0, none⟩), .int .i64 0, .string lo, .string hi, .int .i64 limit] w fun e w' => scanAns (cmpOf lns st sh) s lo hi limit w e w' := by
  obtain ⟨F, B, V, v, h, hi'⟩ := hx.mem
  have hbl := (hx.from_ bx hx.own).2
  refine scanRow_any lns bc bm st sh bx 0 s.now B v lo hi limit w hc hok hx.c0 hbl ?_ hx.rises (by rw [← nowOf_length]; exact hx.few) hi'.nowRow (owns_slice hi'.now) hl
  obtain ⟨a, cap, rfl⟩ := hi'.nowRow.reads.shape
  refine (shownBy_zero bx _ w hi'.c1 hbl ⟨_, _, _, rfl⟩).mono ?_
  rintro e w' ⟨rfl, rfl⟩
  exact ⟨rfl, Below.refl _ _⟩
end Go.Proofs.YtmnjjjhmnhfapaaGreatDoor
namespace Go.Proofs.YtmnjjjhmnhfapaaGreatDoor
open Go.RowKit

set_option maxRecDepth 100000 in
set_option maxHeartbeats 2000000 in
/-- One version more, at its place. -/
theorem with_any (base : Nat) (xs : List Value) (n : Nat) (v : Value) (i b : Nat) (w : World) (hown : w.ownsRow base 138 1 v n xs) (h1 : ∀ u ∈ xs, u.oneCell' = true) (hi : i ≤ n) (hn : n ≤ 1000) (hbase : base ≤ w.heap.size) :
    Calls Tryz.prog 117 #[v, .int .i64 i, .pointer (some ⟨b, 0, none⟩)] w fun r w' =>
      ∃ v', r = .returned v' ∧ w'.ownsRow base 138 1 v' (n + 1) (xs.take i ++ .pointer (some ⟨b, 0, none⟩) :: xs.drop i) ∧ w.grownBy w' v.ownBlock ∧ ∀ g, v'.ownBlock = some g → v.ownBlock = some g ∨ w.heap.size ≤ g := by
  have HO := hide hown
  have HLT := hide hown.lt
  obtain ⟨a, cap, rfl⟩ := (Reads.of_owns hown).shape
  clear hown
  go_enter Tryz.func117, Tryz.ntmps117
  go_wp2_with fail
  refine (Insert_any base _ n i w.heap.size xs [.pointer (some ⟨b, 0, none⟩)] _ (HO.out.alloc _) hi rfl hn ?_ ?_ h1 (by intro u hu; simp at hu; subst hu; rfl) (by simp; omega)).mono ?_
  · have := heap_alloc_new w (.cells #[.pointer (some ⟨b, 0, none⟩)] 138)
    simpa using this
  · intro h
    have := (HLT.out _ h).2
    omega
  · rintro r w1 ⟨v1, rfl, hown1, hgr1, hat1⟩
    have HANS : Hid (w1.ownsRow base 138 1 v1 (n + 1) (xs.take i ++ .pointer (some ⟨b, 0, none⟩) :: xs.drop i) ∧ w.grownBy w1 (Value.slice a n cap).ownBlock ∧ ∀ g, v1.ownBlock = some g → (Value.slice a n cap).ownBlock = some g ∨ w.heap.size ≤ g) := by
      refine ⟨by rw [List.append_cons]; exact hown1, ⟨hgr1.os, hgr1.tape, hgr1.output, by have := hgr1.size; simp at this; omega, fun k hk hne => ?_⟩, fun g hg => ?_⟩
      · rw [hgr1.block k (by simp; omega) hne, Below.heap_alloc _ _ _ hk]
      · rcases hat1 with h | h
        · exact .inl (by rw [← h]; exact hg)
        · rw [h] at hg; simp at hg; exact .inr (by omega)
    obtain ⟨a1, cap1, rfl⟩ := (Reads.of_owns hown1).shape
    clear hown1 hgr1 hat1
    go_wp2
    go_ret
    exact ⟨_, rfl, HANS.out⟩

set_option maxRecDepth 100000 in
set_option maxHeartbeats 2000000 in
/-- .. one less. -/
theorem without_any (base : Nat) (xs : List Value) (n : Nat) (v : Value) (i : Nat) (w : World) (hown : w.ownsRow base 138 1 v n xs) (h1 : ∀ u ∈ xs, u.oneCell' = true) (hi : i < n) (hn : n ≤ 1000) :
    Calls Tryz.prog 106 #[v, .int .i64 i] w fun r w' =>
      ∃ v', r = .returned v' ∧ w'.ownsRow base 138 1 v' (n - 1) (xs.eraseIdx i) ∧ w.grownBy w' v.ownBlock ∧ v'.ownBlock = v.ownBlock := by
  have HO := hide hown
  obtain ⟨a, cap, rfl⟩ := (Reads.of_owns hown).shape
  clear hown
  go_enter Tryz.func106, Tryz.ntmps106
  go_wp2_with fail
  refine (Delete_any base _ n i xs _ HO.out hi hn h1).mono ?_
  rintro r w1 ⟨v1, rfl, hown1, hgr1, hat1⟩
  have HANS : Hid (w1.ownsRow base 138 1 v1 (n - 1) (xs.eraseIdx i) ∧ w.grownBy w1 (Value.slice a n cap).ownBlock ∧ v1.ownBlock = (Value.slice a n cap).ownBlock) := ⟨by rw [List.eraseIdx_eq_take_drop_succ]; exact hown1, hgr1, hat1⟩
  obtain ⟨a1, cap1, rfl⟩ := (Reads.of_owns hown1).shape
  clear hown1 hgr1 hat1
  go_wp2
  go_ret
  exact ⟨_, rfl, HANS.out⟩
end Go.Proofs.YtmnjjjhmnhfapaaGreatDoor
namespace Go.Proofs.YtmnjjjhmnhfapaaGreatDoor
open Go.RowKit

/-- The index has its new slice of now. -/
theorem Ix.newRow {w w1 w2 : World} {X : Nat} {S F : Nat → Prop} {bx bc : Nat} {st : Int} {sh : Bool} {lns : List Tm.Ln} {s : IxSt} {B : Nat → Nat} {V : Nat → Value} {v h v' : Value} (hx : Ix w X S bx bc st sh lns s) (hi : IxIn w X S F bx (placeOf lns st sh) s B V v h) (hb : Below w.heap.size w w1) (hgr : w1.grownBy w2 v.ownBlock) (hat : ∀ g, v'.ownBlock = some g → v.ownBlock = some g ∨ w1.heap.size ≤ g)
    (l : Tm.Vers) (M : Nat) (B' : Nat → Nat) (N : Nat → Prop) (hB : ∀ n, n < s.next → B' n = B n) (hown : w2.ownsRow X 138 1 v' l.length (ptrs B' l)) (hN : ∀ i, N i → w.heap.size ≤ i ∧ i < w1.heap.size) (hnew : ∀ x ∈ l, x ∈ s.now ∨ (N (B' x.1) ∧ VerAt w1 (placeOf lns st sh) B' x ∧ x.1 = s.next))
    (hok : StOk (cmpOf lns st sh) { s with now := l, next := M }) : IxStep w (w2.setCell ⟨bx, 1, none⟩ v') X S bx bc st sh lns { s with now := l, next := M } := by
  have hl := (hx.from_ bx hx.own).2
  have hz := hb.size
  have hz2 := hgr.size
  have hne : v.ownBlock ≠ some bx := fun e => (hi.vS bx e).2.1 rfl
  have hvlt : ∀ g, v.ownBlock = some g → g < w.heap.size := fun g e => (hx.from_ g (hi.vS g e).1).2
  have hbk : w2.heap[bx]? = w.heap[bx]? := by rw [hgr.block bx (by omega) (fun e => hne e.symm), hb.block bx hl]
  have hne' : v'.ownBlock ≠ some bx := fun e => by
    rcases hat bx e with e | e
    · exact hne e
    · omega
  refine hx.turn hi (v' := v') (Foot.setCell (p := ⟨bx, 1, none⟩) ((Foot.of hb).grown hgr (fun k e => .inl (.inr e))) (.inl (.inl rfl)) _) ?_ ?_ ?_ ?_ (fun o => ?_) l M B' N hB (ownsRow_same hown (fun g e => Below.heap_setCell _ _ _ _ (by rintro rfl; exact hne' e))) (fun g e => ?_) (fun i e => ?_) (fun x hxl => ?_) hok
  · rw [World.cell?_setCell_other _ _ _ _ (by simp)]
    exact World.cell?_of_block (a := ⟨bx, 0, none⟩) hbk
  · exact World.cell?_setCell_same _ _ _ ((World.cell?_of_block (a := ⟨bx, 1, none⟩) hbk).trans hi.c1)
  · rw [World.cell?_setCell_other _ _ _ _ (by simp)]
    exact World.cell?_of_block (a := ⟨bx, 2, none⟩) hbk
  · rw [World.cell?_setCell_other _ _ _ _ (by simp)]
    exact World.cell?_of_block (a := ⟨bx, 3, none⟩) hbk
  · rw [World.frozen?_setCell]
    exact World.frozen?_of_block (a := ⟨bx, o, none⟩) hbk
  · rcases hat g e with e1 | e1
    · exact .inl e1
    · exact .inr ⟨by omega, fun e2 => by have := (hN g e2).2; omega⟩
  · have := hN i e
    exact ⟨this.1, by simp [World.setCell]; omega⟩
  · refine (hnew x hxl).imp id (fun ⟨h1, h2, h3⟩ => ⟨h1, ?_, h3⟩)
    have h4 := hN _ h1
    refine h2.of_block (by simp [World.setCell]; omega) ?_ rfl
    rw [Below.heap_setCell _ _ _ _ (by show B' x.1 ≠ bx; omega), hgr.block _ h4.2 (fun e => by have := hvlt _ e.symm; omega)]
/-- Where versions lie, with one more. -/
def plusAt (B : Nat → Nat) (n b : Nat) : Nat → Nat := fun i => if i = n then b else B i
theorem plusAt_old {B : Nat → Nat} {n b i : Nat} (h : i < n) : plusAt B n b i = B i := by unfold plusAt; rw [if_neg (by omega)]
theorem plusAt_new {B : Nat → Nat} {n b : Nat} : plusAt B n b n = b := by unfold plusAt; rw [if_pos rfl]
theorem ptrs_plus {B : Nat → Nat} {s : IxSt} {c : ByteArray → ByteArray → Int} (hok : StOk c s) {b : Nat} {l : Tm.Vers} (hl : ∀ x ∈ l, x ∈ s.now) : ptrs (plusAt B s.next b) l = ptrs B l := ptrs_congr fun x hx => plusAt_old (hok.less x (mem_now (hl x hx)))
/-- A version's block. -/
abbrev verObj (p k v : ByteArray) : Obj := .cells #[.string p, .string k, .string v] 137
theorem verAt_new {w : World} {K : ByteArray → ByteArray} {k v : ByteArray} {B : Nat → Nat} {n : Nat} : VerAt (w.alloc (verObj (K k) k v)) K (plusAt B n w.heap.size) (n, (k, v)) := by
  unfold VerAt
  rw [plusAt_new]
  refine ⟨by simp, ?_, ?_, ?_, heap_alloc_new w _⟩
  · rw [cell_new rfl]; rfl
  · rw [cell_new rfl]; rfl
  · rw [cell_new rfl]; rfl
/-- A version put in the place of another. -/
theorem Ix.setVer {w W : World} {X : Nat} {S F : Nat → Prop} {bx bc g n cap : Nat} {st : Int} {sh : Bool} {lns : List Tm.Ln} {s : IxSt} {B : Nat → Nat} {V : Nat → Value} {h : Value} (hx : Ix w X S bx bc st sh lns s) (hi : IxIn w X S F bx (placeOf lns st sh) s B V (.slice (some ⟨g, 0, none⟩) n cap) h) (hb : Below w.heap.size w W) {i : Nat} (k v : ByteArray)
    (hok : StOk (cmpOf lns st sh) { s with now := s.now.set i (s.next, (k, v)), next := s.next + 1 }) : IxStep w ((W.alloc (verObj (placeOf lns st sh k) k v)).setCell ⟨g, i, none⟩ (.pointer (some ⟨W.heap.size, 0, none⟩))) X S bx bc st sh lns { s with now := s.now.set i (s.next, (k, v)), next := s.next + 1 } := by
  have hl := (hx.from_ bx hx.own).2
  have hgS := hi.vS g rfl
  have hlg := (hx.from_ g hgS.1).2
  have hz := hb.size
  have hn : n = s.now.length := ((Reads.of_owns hi.now).fits).1
  subst hn
  have hb1 : Below w.heap.size w (W.alloc (verObj (placeOf lns st sh k) k v)) := hb.alloc hz _
  have hbk : ((W.alloc (verObj (placeOf lns st sh k) k v)).setCell ⟨g, i, none⟩ (.pointer (some ⟨W.heap.size, 0, none⟩))).heap[bx]? = w.heap[bx]? := by
    rw [Below.heap_setCell _ _ _ _ (fun e => hgS.2.1 e.symm), hb1.block bx hl]
  have hown1 := ownsRow_same hi.now (w' := W.alloc (verObj (placeOf lns st sh k) k v)) (fun g' hg' => by simp [Value.ownBlock] at hg'; subst hg'; exact hb1.block _ hlg)
  refine hx.turn hi (v' := .slice (some ⟨g, 0, none⟩) s.now.length cap) (Foot.setCell (p := ⟨g, i, none⟩) (Foot.of hb1) (.inl (.inr rfl)) _) (World.cell?_of_block (a := ⟨bx, 0, none⟩) hbk) ((World.cell?_of_block (a := ⟨bx, 1, none⟩) hbk).trans hi.c1) (World.cell?_of_block (a := ⟨bx, 2, none⟩) hbk) (World.cell?_of_block (a := ⟨bx, 3, none⟩) hbk) (fun o => World.frozen?_of_block (a := ⟨bx, o, none⟩) hbk) _ _ (plusAt B s.next W.heap.size) (fun i => i = W.heap.size) (fun n hn => plusAt_old hn) ?_ (fun g' hg' => .inl hg') (fun i e => ⟨by omega, by simp [World.setCell]; omega⟩) (fun x hxl => ?_) hok
  · have e : ptrs (plusAt B s.next W.heap.size) (s.now.set i (s.next, (k, v))) = (ptrs B s.now).set i (.pointer (some ⟨W.heap.size, 0, none⟩)) := by
      rw [← ptrs_plus hx.ok (b := W.heap.size) (l := s.now) (fun x hx => hx)]
      unfold ptrs
      rw [List.map_set]
      simp only [plusAt_new]
    rw [e, List.length_set]
    exact owns_setAt hown1 _ _
  · rcases List.mem_or_eq_of_mem_set hxl with e1 | e1
    · exact .inl e1
    · subst e1
      refine .inr ⟨plusAt_new, ?_, rfl⟩
      refine (verAt_new (w := W) (K := placeOf lns st sh) (k := k) (v := v) (B := B) (n := s.next)).of_block (by simp [World.setCell]) ?_ rfl
      show (World.setCell _ _ _).heap[plusAt B s.next W.heap.size s.next]? = _
      rw [plusAt_new, Below.heap_setCell _ _ _ _ (by show W.heap.size ≠ g; omega)]

set_option maxRecDepth 100000 in
set_option maxHeartbeats 4000000 in
theorem put_any (lns : List Tm.Ln) (bc : Nat) (st : Int) (sh : Bool) (X : Nat) (S : Nat → Prop) (bx : Nat) (s : IxSt) (k v : ByteArray) (w : World) (hfit : ∀ o ∈ lns, Tm.Fit o) (hok : TableOk st lns) (hx : Ix w X S bx bc st sh lns s) (hX : X ≤ w.heap.size) (hk : k.size ≤ 64) :
    Calls Tryz.prog 74 #[.pointer (some ⟨bx, 0, none⟩), .agg #[.string k, .string v], .agg #[.string (placeOf lns st sh k), .int .i64 0]] w fun e w' => e = .returned (.int .i64 (putErr (cmpOf lns st sh) s k v)) ∧ IxStep w w' X S bx bc st sh lns (putSt (cmpOf lns st sh) s k v) := by
  have hT := told_cmpOf lns st sh
  have hK := keyed_place hfit (sh := sh) hok.st
  have hrs : Tm.Rises (Tm.ByKey (cmpOf lns st sh)) (Tm.entsOf s.now) := hx.rises
  have hfew : s.now.length ≤ 64 := by rw [← nowOf_length]; exact hx.few
  have HOKP := hide (hx.ok.put hT k v)
  obtain ⟨F, B, V, vn, vh, hi⟩ := hx.mem
  have c1 := hi.c1
  have hl := (hx.from_ bx hx.own).2
  obtain ⟨a, cap, rfl⟩ := (Reads.of_owns hi.now).shape
  have HX := hide hx
  have HI := hide hi
  have HC1 := hide c1
  clear hx hi
  obtain ⟨W0, hW0⟩ : ∃ W0, (w.alloc (.cells #[.string k, .string v] 67)).alloc (.cells #[.string (placeOf lns st sh k), .int .i64 0] 149) = W0 := ⟨_, rfl⟩
  have HB0 : Hid (Below w.heap.size w W0) := by unfold Hid; rw [← hW0]; exact ((Below.refl _ _).alloc (Nat.le_refl _) _).alloc (by simp) _
  have hA : ∀ o, W0.cell? ⟨w.heap.size, o, none⟩ = (#[.string k, .string v] : Array Value)[o]? := fun o => by rw [← hW0, cell_old (W := w.alloc (.cells #[.string k, .string v] 67)) (by simp), cell_new rfl]
  have hP : ∀ o, W0.cell? ⟨w.heap.size + 1, o, none⟩ = (#[.string (placeOf lns st sh k), .int .i64 0] : Array Value)[o]? := fun o => by rw [← hW0, cell_new (by simp)]
  have HP0 : Hid (∀ W : World, Below W0.heap.size W0 W → W.cell? ⟨w.heap.size, 0, none⟩ = some (.string k) ∧ W.cell? ⟨w.heap.size, 1, none⟩ = some (.string v) ∧ W.cell? ⟨w.heap.size + 1, 0, none⟩ = some (.string (placeOf lns st sh k)) ∧ W.cell? ⟨w.heap.size + 1, 1, none⟩ = some (.int .i64 0)) := fun W hW => by
    have hz : W0.heap.size = w.heap.size + 2 := by rw [← hW0]; simp
    rw [hW.cell (p := ⟨w.heap.size, 0, none⟩) (by show w.heap.size < _; omega), hW.cell (p := ⟨w.heap.size, 1, none⟩) (by show w.heap.size < _; omega), hW.cell (p := ⟨w.heap.size + 1, 0, none⟩) (by show w.heap.size + 1 < _; omega), hW.cell (p := ⟨w.heap.size + 1, 1, none⟩) (by show w.heap.size + 1 < _; omega), hA, hA, hP, hP]
    exact ⟨rfl, rfl, rfl, rfl⟩
  clear hA hP
  obtain ⟨p0, p1, p2, p3⟩ := HP0.out W0 (Below.refl _ _)
  have c10 : W0.cell? ⟨bx, 1, none⟩ = some (.slice a s.now.length cap) := by rw [HB0.out.cell (p := ⟨bx, 1, none⟩) hl]; exact c1
  have HRD0 : Hid (VRow W0.drew (placeOf lns st sh) B (.slice a s.now.length cap) s.now) := HI.out.nowRow.below HB0.out.drew
  have hz0 : W0.heap.size = w.heap.size + 2 := by rw [← hW0]; simp
  have HW0 := hide hW0
  clear c1 hW0
  by_cases hv : v.size ≤ 64
  · have HPE : Hid (putErr (cmpOf lns st sh) s k v = if Tm.ixHas (cmpOf lns st sh) (Tm.entsOf s.now) k = false ∧ 64 ≤ s.now.length then 8 else 0) := by unfold Hid putErr; rw [if_neg (by omega), nowOf_length]; rfl
    have iv : ¬ (64 : Int) < (v.size : Int) := by omega
    go_enter Tryz.func74, Tryz.ntmps74
    go_upto_region 1 with fail
    rw [HW0.out]
    go_wp2_with fail
    go_region_with (go_at_call 66; refine (find_any (placeOf lns st sh) (cmpOf lns st sh) hK hT s.now hrs B _ k _ HRD0.out (by omega)).mono ?_; rintro e w2 ⟨rfl, hb2⟩)
    all_goals
      have hz2 : W0.heap.size ≤ w2.heap.size := hb2.size
      have hb20 : Below W0.heap.size W0 w2 := (Below.refl _ _).drew.trans hb2
      have hb2w : Below w.heap.size w w2 := HB0.out.trans (hb20.mono (by omega))
      have HB2 := hide hb2w
      clear p0 p1 p2 p3
      obtain ⟨p0, p1, p2, p3⟩ := HP0.out w2 hb20
      have c12 : w2.cell? ⟨bx, 1, none⟩ = some (.slice a s.now.length cap) := by rw [hb2w.cell (p := ⟨bx, 1, none⟩) hl]; exact HC1.out
      have f12 : w2.frozen? ⟨bx, 1, none⟩ = false := by rw [hb2w.frozen (p := ⟨bx, 1, none⟩) hl]; exact HX.out.free 1
      have k12 : (w2.alloc (.cells #[.string (placeOf lns st sh k), .string k, .string v] 137)).cell? ⟨bx, 1, none⟩ = some (.slice a s.now.length cap) := by rw [cell_old (by omega)]; exact c12
      clear hb2 hb20 hb2w c10
      cases hh : Tm.ixHas (cmpOf lns st sh) (Tm.entsOf s.now) k
      · by_cases hfull : 64 ≤ s.now.length
        · have HANS : Hid (putErr (cmpOf lns st sh) s k v = 8 ∧ IxStep w w2 X S bx bc st sh lns (putSt (cmpOf lns st sh) s k v)) := by
            have h1 : putErr (cmpOf lns st sh) s k v = 8 := by rw [HPE.out, if_pos ⟨hh, hfull⟩]
            refine ⟨h1, ?_⟩
            rw [putSt_no (by omega)]
            exact IxStep.of_below HX.out HB2.out
          have i1 : (64 : Int) ≤ (s.now.length : Int) := by omega
          go_wp2
          go_ret
          exact ⟨by rw [HANS.out.1]; rfl, HANS.out.2⟩
        · have h1 : putErr (cmpOf lns st sh) s k v = 0 := by rw [HPE.out, if_neg (fun e => hfull e.2)]
          have h2 : putSt (cmpOf lns st sh) s k v = { s with now := s.now.take (Tm.below (cmpOf lns st sh) (Tm.entsOf s.now) k) ++ (s.next, (k, v)) :: s.now.drop (Tm.below (cmpOf lns st sh) (Tm.entsOf s.now) k), next := s.next + 1 } := by
            unfold putSt
            rw [if_pos h1, Tm.verPut_new hT hrs hh]
          have hle := Tm.below_le (cmpOf lns st sh) (Tm.entsOf s.now) k
          rw [Tm.entsOf_length] at hle
          have HE := hide h1
          have HS := hide h2
          have i1 : ¬ (64 : Int) ≤ (s.now.length : Int) := by omega
          clear h1 h2
          have HW : Hid (∀ W, Below w.heap.size w W → Calls Tryz.prog 117 #[.slice a s.now.length cap, .int .i64 (Tm.below (cmpOf lns st sh) (Tm.entsOf s.now) k : Nat), .pointer (some ⟨W.heap.size, 0, none⟩)] (W.alloc (verObj (placeOf lns st sh k) k v)) fun e w3 => ∃ a3 n3 cap3, e = .returned (.slice a3 n3 cap3) ∧ bx < w3.heap.size ∧ w3.cell? ⟨bx, 1, none⟩ = some (.slice a s.now.length cap) ∧ w3.frozen? ⟨bx, 1, none⟩ = false ∧ IxStep w (w3.setCell ⟨bx, 1, none⟩ (.slice a3 n3 cap3)) X S bx bc st sh lns (putSt (cmpOf lns st sh) s k v)) := fun W hW => by
            have hzW := hW.size
            have hb1 : Below w.heap.size w (W.alloc (verObj (placeOf lns st sh k) k v)) := hW.alloc hzW _
            have hown1 := ownsRow_same HI.out.now (w' := W.alloc (verObj (placeOf lns st sh k) k v)) (fun g hg => hb1.block g (HI.out.now.lt g hg).2)
            refine (with_any X (ptrs B s.now) s.now.length _ (Tm.below (cmpOf lns st sh) (Tm.entsOf s.now) k) W.heap.size _ hown1 (ptrs_one B s.now) hle (by omega) (by simp; omega)).mono ?_
            rintro e w3 ⟨v3, rfl, hown3, hgr3, hat3⟩
            have hz3 := hgr3.size
            have hbk : w3.heap[bx]? = w.heap[bx]? := (hgr3.block bx (by simp; omega) (fun e => (HI.out.vS bx e.symm).2.1 rfl)).trans (hb1.block bx hl)
            have hans := HX.out.newRow HI.out hb1 hgr3 (v' := v3) (fun g hg => (hat3 g hg)) (s.now.take (Tm.below (cmpOf lns st sh) (Tm.entsOf s.now) k) ++ (s.next, (k, v)) :: s.now.drop (Tm.below (cmpOf lns st sh) (Tm.entsOf s.now) k)) (s.next + 1) (plusAt B s.next W.heap.size) (fun i => i = W.heap.size) (fun n hn => plusAt_old hn) ?_ (fun i e => by subst e; exact ⟨hzW, by simp⟩) (fun x hx => ?_) (by have := HOKP.out; rw [HS.out] at this; exact this)
            · obtain ⟨a3, cap3, rfl⟩ := (Reads.of_owns hown3).shape
              exact ⟨a3, _, cap3, rfl, by simp at hz3; omega, by rw [World.cell?_of_block (a := ⟨bx, 1, none⟩) hbk]; exact HC1.out, by rw [World.frozen?_of_block (a := ⟨bx, 1, none⟩) hbk]; exact HX.out.free 1, by rw [HS.out]; exact hans⟩
            · have e1 : ptrs (plusAt B s.next W.heap.size) (s.now.take (Tm.below (cmpOf lns st sh) (Tm.entsOf s.now) k) ++ (s.next, (k, v)) :: s.now.drop (Tm.below (cmpOf lns st sh) (Tm.entsOf s.now) k)) = (ptrs B s.now).take (Tm.below (cmpOf lns st sh) (Tm.entsOf s.now) k) ++ .pointer (some ⟨W.heap.size, 0, none⟩) :: (ptrs B s.now).drop (Tm.below (cmpOf lns st sh) (Tm.entsOf s.now) k) := by
                rw [← ptrs_plus HX.out.ok (b := W.heap.size) (l := s.now) (fun x hx => hx)]
                unfold ptrs
                rw [List.map_append, List.map_cons, List.map_take, List.map_drop]
                simp only [plusAt_new]
              rw [e1, show (s.now.take (Tm.below (cmpOf lns st sh) (Tm.entsOf s.now) k) ++ (s.next, (k, v)) :: s.now.drop (Tm.below (cmpOf lns st sh) (Tm.entsOf s.now) k)).length = s.now.length + 1 by simp; omega]
              exact hown3
            · rcases List.mem_append.1 hx with e | e
              · exact .inl (List.mem_of_mem_take e)
              · rcases List.mem_cons.1 e with e | e
                · subst e
                  exact .inr ⟨plusAt_new, verAt_new, rfl⟩
                · exact .inl (List.mem_of_mem_drop e)
          go_wp2_with fail
          go_region_with (go_at_call 117; refine (HW.out _ (by first | exact HB2.out.drew | exact HB2.out)).mono ?_; rintro e w3 ⟨a3, n3, cap3, rfl, hl3, c13, f13, hans⟩; have HANS := hide hans; clear hans)
          all_goals
            go_wp2
            go_ret
            exact ⟨by rw [HE.out]; rfl, HANS.out⟩
      · have h1 : putErr (cmpOf lns st sh) s k v = 0 := by rw [HPE.out, if_neg (fun e => by rw [hh] at e; cases e.1)]
        obtain ⟨hi, _⟩ := (Tm.ixHas_at hT hrs).1 hh
        rw [Tm.entsOf_length] at hi
        have h2 : putSt (cmpOf lns st sh) s k v = { s with now := s.now.set (Tm.below (cmpOf lns st sh) (Tm.entsOf s.now) k) (s.next, (k, v)), next := s.next + 1 } := by
          unfold putSt
          rw [if_pos h1, Tm.verPut_there hT hrs hh]
        have HE := hide h1
        have HS := hide h2
        obtain ⟨g, off, rfl, hg, x0, hva⟩ := (HI.out.nowRow.below HB2.out).get hi
        rcases HI.out.now.2 with ⟨h9, _⟩ | ⟨g', cap', cur, h9, _, hgb, _⟩
        · cases h9
        · cases h9
          rw [Nat.zero_add] at x0
          have hgl : g < w.heap.size := (Reads.of_owns HI.out.now).2.1 g rfl
          have hgb2 : w2.heap[g]? = some (.cells cur 138) := by rw [HB2.out.block g hgl]; exact hgb
          have f0 : w2.frozen? ⟨g, Tm.below (cmpOf lns st sh) (Tm.entsOf s.now) k, none⟩ = false := by simp [World.frozen?, hgb2]
          have HANS : Hid (∀ W, Below w.heap.size w W → IxStep w ((W.setCell ⟨g, Tm.below (cmpOf lns st sh) (Tm.entsOf s.now) k, none⟩ (.pointer (some ⟨W.heap.size, 0, none⟩))).alloc (verObj (placeOf lns st sh k) k v)) X S bx bc st sh lns (putSt (cmpOf lns st sh) s k v)) := fun W hW => by
            rw [HS.out, ← World.setCell_alloc_past _ _ _ _ (show g < W.heap.size by have := hW.size; omega)]
            exact HX.out.setVer HI.out hW k v (by have := HOKP.out; rw [HS.out] at this; exact this)
          have hbA : Below w2.heap.size w2 (w2.alloc (.cells #[.string (placeOf lns st sh k), .string k, .string v] 137)) := (Below.refl _ _).alloc (Nat.le_refl _) _
          have f0' : (w2.alloc (.cells #[.string (placeOf lns st sh k), .string k, .string v] 137)).frozen? ⟨g, Tm.below (cmpOf lns st sh) (Tm.entsOf s.now) k, none⟩ = false := by rw [hbA.frozen (p := ⟨g, Tm.below (cmpOf lns st sh) (Tm.entsOf s.now) k, none⟩) hg]; exact f0
          have x0' : (w2.alloc (.cells #[.string (placeOf lns st sh k), .string k, .string v] 137)).cell? ⟨g, Tm.below (cmpOf lns st sh) (Tm.entsOf s.now) k, none⟩ = _ := (hbA.cell (p := ⟨g, Tm.below (cmpOf lns st sh) (Tm.entsOf s.now) k, none⟩) hg).trans x0
          clear hbA
          generalize s.now[Tm.below (cmpOf lns st sh) (Tm.entsOf s.now) k] = y at *
          generalize Tm.below (cmpOf lns st sh) (Tm.entsOf s.now) k = i at *
          have i1 : (0 : Int) ≤ (i : Int) := by omega
          have i2 : (i : Int) < (s.now.length : Int) := by omega
          clear hgb hgb2 hva
          go_wp2_with fail
          go_region
          all_goals
            go_wp2
            go_ret
            refine ⟨by rw [HE.out]; rfl, ?_⟩
            exact HANS.out w2.drew HB2.out.drew
  · have HPE : Hid (putErr (cmpOf lns st sh) s k v = 7) := by unfold Hid putErr; rw [if_pos (by omega)]
    have HANS : Hid (IxStep w W0 X S bx bc st sh lns (putSt (cmpOf lns st sh) s k v)) := by
      unfold Hid
      rw [putSt_no (by rw [HPE.out]; omega)]
      exact IxStep.of_below HX.out HB0.out
    have iv : (64 : Int) < (v.size : Int) := by omega
    go_enter Tryz.func74, Tryz.ntmps74
    go_upto_region 1 with fail
    rw [HW0.out]
    go_wp2
    go_ret
    exact ⟨by rw [HPE.out]; rfl, HANS.out⟩
end Go.Proofs.YtmnjjjhmnhfapaaGreatDoor
namespace Go.Proofs.YtmnjjjhmnhfapaaGreatDoor
open Go.RowKit

set_option maxRecDepth 100000 in
set_option maxHeartbeats 2000000 in
theorem placingOf_any (lns : List Tm.Ln) (bc bm : Nat) (st : Int) (sh : Bool) (k : ByteArray) (w : World) (hc : Coll w bc bm st sh lns) (hok : TableOk st lns) :
    Calls Tryz.prog 76 #[.pointer (some ⟨bc, 0, none⟩), .string k] w fun e w' => e = .returned (.agg (if k.size ≤ 64 then #[.string (placeOf lns st sh k), .int .i64 0] else #[.string ⟨#[]⟩, .int .i64 7])) ∧ Below w.heap.size w w' := by
  have HC := hide (hc.below ((Below.refl _ _).alloc (Nat.le_refl _) (.cells #[.string ⟨#[]⟩, .int .i64 0] 149)))
  have HOK := hide hok
  clear hc hok
  obtain ⟨p, er, hp⟩ : ∃ p er, (if k.size ≤ 64 then #[.string (placeOf lns st sh k), .int .i64 0] else #[.string ⟨#[]⟩, .int .i64 7] : Array Value) = #[.string p, .int .i64 er] := by
    by_cases hk : k.size ≤ 64
    · exact ⟨_, _, by rw [if_pos hk]⟩
    · exact ⟨_, _, by rw [if_neg hk]⟩
  obtain ⟨W0, hW0⟩ : ∃ W0, w.alloc (.cells #[.string ⟨#[]⟩, .int .i64 0] 149) = W0 := ⟨_, rfl⟩
  have HKEY : Hid (Calls Tryz.prog 65 #[.pointer (some ⟨bc, 0, none⟩), .string k] W0 fun e w' => e = .returned (.tuple #[.string p, .int .i64 er]) ∧ Below W0.heap.size W0 w') := by
    unfold Hid
    rw [← hW0]
    refine (CodeKey_any lns bc bm st sh k _ HC.out HOK.out).mono ?_
    rintro e w' ⟨rfl, hb⟩
    refine ⟨?_, hb⟩
    by_cases hk : k.size ≤ 64
    · rw [if_pos hk] at hp ⊢
      simp at hp
      rw [← hp.1, ← hp.2]; rfl
    · rw [if_neg hk] at hp ⊢
      simp at hp
      rw [← hp.1, ← hp.2]
  have HB0 : Hid (Below w.heap.size w W0) := by unfold Hid; rw [← hW0]; exact (Below.refl _ _).alloc (Nat.le_refl _) _
  have hz0 : W0.heap.size = w.heap.size + 1 := by rw [← hW0]; simp
  have HF : Hid (∀ W : World, Below W0.heap.size W0 W → W.cell? ⟨w.heap.size, 0, none⟩ = some (.string ⟨#[]⟩) ∧ W.cell? ⟨w.heap.size, 1, none⟩ = some (.int .i64 0) ∧ W.frozen? ⟨w.heap.size, 0, none⟩ = false ∧ W.frozen? ⟨w.heap.size, 1, none⟩ = false) := fun W hW => by
    rw [hW.cell (p := ⟨w.heap.size, 0, none⟩) (by show w.heap.size < _; omega), hW.cell (p := ⟨w.heap.size, 1, none⟩) (by show w.heap.size < _; omega), hW.frozen (p := ⟨w.heap.size, 0, none⟩) (by show w.heap.size < _; omega), hW.frozen (p := ⟨w.heap.size, 1, none⟩) (by show w.heap.size < _; omega), ← hW0, cell_new rfl, cell_new rfl, frozen_new rfl, frozen_new rfl]
    exact ⟨rfl, rfl, rfl, rfl⟩
  have HW0 := hide hW0
  rw [hp]
  clear hW0 hp
  go_enter Tryz.func76, Tryz.ntmps76
  go_upto_region 1 with fail
  rw [HW0.out]
  go_wp2_with fail
  refine HKEY.out.mono ?_
  rintro e w1 ⟨rfl, hb1⟩
  have HB1 : Hid (Below w.heap.size w w1) := HB0.out.trans (hb1.mono (by omega))
  obtain ⟨x0, x1, f0, f1⟩ := HF.out w1 hb1
  have hz1 := hb1.size
  clear hb1
  have e1 : (w1.setCell ⟨w.heap.size, 0, none⟩ (.string p)).cell? ⟨w.heap.size, 1, none⟩ = some (.int .i64 0) := by rw [World.cell?_setCell_other _ _ _ _ (by simp)]; exact x1
  have y0 : ((w1.setCell ⟨w.heap.size, 0, none⟩ (.string p)).setCell ⟨w.heap.size, 1, none⟩ (.int .i64 er)).cell? ⟨w.heap.size, 0, none⟩ = some (.string p) := by rw [World.cell?_setCell_other _ _ _ _ (by simp)]; exact World.cell?_setCell_same _ _ _ x0
  have y1 : ((w1.setCell ⟨w.heap.size, 0, none⟩ (.string p)).setCell ⟨w.heap.size, 1, none⟩ (.int .i64 er)).cell? ⟨w.heap.size, 1, none⟩ = some (.int .i64 er) := World.cell?_setCell_same _ _ _ e1
  go_wp2
  (try simp only [Exit.inBlock, Exit.then])
  refine bodyPost_ret (by simp [results, Tryz.results76, go_sem, y0, y1]; try rfl) rfl ?_
  exact ⟨rfl, (HB1.out.setCell (p := ⟨w.heap.size, 0, none⟩) (Nat.le_refl _) _).setCell (p := ⟨w.heap.size, 1, none⟩) (Nat.le_refl _) _⟩

set_option maxRecDepth 100000 in
set_option maxHeartbeats 1000000 in
theorem put_no (bx : Nat) (k v p : ByteArray) (w : World) :
    Calls Tryz.prog 74 #[.pointer (some ⟨bx, 0, none⟩), .agg #[.string k, .string v], .agg #[.string p, .int .i64 7]] w fun e w' => e = .returned (.int .i64 7) ∧ Below w.heap.size w w' := by
  have HB0 : Hid (Below w.heap.size w ((w.alloc (.cells #[.string k, .string v] 67)).alloc (.cells #[.string p, .int .i64 7] 149))) := ((Below.refl _ _).alloc (Nat.le_refl _) _).alloc (by simp) _
  go_enter Tryz.func74, Tryz.ntmps74
  go_wp2
  go_ret
  exact ⟨rfl, HB0.out⟩

set_option maxRecDepth 100000 in
set_option maxHeartbeats 2000000 in
theorem IxPut_any (lns : List Tm.Ln) (bc bm : Nat) (st : Int) (sh : Bool) (X : Nat) (S : Nat → Prop) (bx : Nat) (s : IxSt) (k v : ByteArray) (w : World) (hc : Coll w bc bm st sh lns) (hok : TableOk st lns) (hx : Ix w X S bx bc st sh lns s) (hX : X ≤ w.heap.size) :
    Calls Tryz.prog 33 #[.pointer (some ⟨bx, 0, none⟩), .string k, .string v] w fun e w' => e = .returned (.int .i64 (putErr (cmpOf lns st sh) s k v)) ∧ IxStep w w' X S bx bc st sh lns (putSt (cmpOf lns st sh) s k v) := by
  have HC := hide hc
  have HOK := hide hok
  have HX := hide hx
  have HF := hide hc.fit
  have c0 := hx.c0
  have hl := (hx.from_ bx hx.own).2
  clear hc hok hx
  by_cases hk : k.size ≤ 64
  · go_enter Tryz.func33, Tryz.ntmps33
    go_wp2_with fail
    refine (placingOf_any lns bc bm st sh k _ HC.out HOK.out).mono ?_
    rw [if_pos hk]
    rintro e w1 ⟨rfl, hb1⟩
    have HB1 := hide hb1
    have HX1 := hide (HX.out.below hb1)
    have hz1 := hb1.size
    clear hb1 c0
    go_wp2_with fail
    refine (put_any lns bc st sh X S bx s k v _ HF.out HOK.out HX1.out (by omega) hk).mono ?_
    rintro e w2 ⟨rfl, S', h1, h2, h3⟩
    have HANS : Hid (IxStep w w2 X S bx bc st sh lns (putSt (cmpOf lns st sh) s k v)) := ⟨S', h1, (Foot.of HB1.out).trans h2 (fun i hi => .inl hi), fun i hi => by
      rcases h3 i hi with e | e
      · exact .inl e
      · exact .inr (by omega)⟩
    clear h1 h2 h3
    go_wp2
    go_ret
    exact ⟨rfl, HANS.out⟩
  · have HPE : Hid (putErr (cmpOf lns st sh) s k v = 7) := by unfold Hid putErr; rw [if_pos (by omega)]
    go_enter Tryz.func33, Tryz.ntmps33
    go_wp2_with fail
    refine (placingOf_any lns bc bm st sh k _ HC.out HOK.out).mono ?_
    rw [if_neg hk]
    rintro e w1 ⟨rfl, hb1⟩
    have HB1 := hide hb1
    have hz1 := hb1.size
    clear hb1
    go_wp2_with fail
    refine (put_no bx k v _ w1).mono ?_
    rintro e w2 ⟨rfl, hb2⟩
    have HANS : Hid (IxStep w w2 X S bx bc st sh lns (putSt (cmpOf lns st sh) s k v)) := by
      unfold Hid
      rw [putSt_no (by rw [HPE.out]; omega)]
      exact IxStep.of_below HX.out (HB1.out.trans (hb2.mono hz1))
    clear hb2
    go_wp2
    go_ret
    exact ⟨by rw [HPE.out]; rfl, HANS.out⟩

set_option maxRecDepth 100000 in
set_option maxHeartbeats 2000000 in
theorem IxDelete_any (lns : List Tm.Ln) (bc bm : Nat) (st : Int) (sh : Bool) (X : Nat) (S : Nat → Prop) (bx : Nat) (s : IxSt) (k : ByteArray) (w : World) (hc : Coll w bc bm st sh lns) (hok : TableOk st lns) (hx : Ix w X S bx bc st sh lns s) (_hX : X ≤ w.heap.size) :
    Calls Tryz.prog 58 #[.pointer (some ⟨bx, 0, none⟩), .string k] w fun e w' => e = .returned (if k.size ≤ 64 then .tuple #[.bool (Tm.ixHas (cmpOf lns st sh) (nowOf s) k), .int .i64 0] else .tuple #[.bool false, .int .i64 7]) ∧ IxStep w w' X S bx bc st sh lns (dropSt (cmpOf lns st sh) s k) := by
  have hT := told_cmpOf lns st sh
  have hK := keyed_place hc.fit (sh := sh) hok.st
  have HC := hide hc
  have HOK := hide hok
  have HX := hide hx
  have c0 := hx.c0
  have hl := (hx.from_ bx hx.own).2
  have hrs : Tm.Rises (Tm.ByKey (cmpOf lns st sh)) (Tm.entsOf s.now) := hx.rises
  have hfew : s.now.length ≤ 64 := by rw [← nowOf_length]; exact hx.few
  have HOKP := hide (hx.ok.drop k)
  obtain ⟨F, B, V, vn, vh, hi⟩ := hx.mem
  obtain ⟨a, cap, rfl⟩ := (Reads.of_owns hi.now).shape
  have HI := hide hi
  have HC1 := hide hi.c1
  clear hc hok hx hi
  show Calls _ _ _ _ fun e w' => e = .returned (if k.size ≤ 64 then .tuple #[.bool (Tm.ixHas (cmpOf lns st sh) (Tm.entsOf s.now) k), .int .i64 0] else .tuple #[.bool false, .int .i64 7]) ∧ _
  by_cases hk : k.size ≤ 64
  · rw [if_pos hk]
    go_enter Tryz.func58, Tryz.ntmps58
    go_wp2_with fail
    refine (CodeKey_any lns bc bm st sh k _ HC.out HOK.out).mono ?_
    rw [if_pos hk]
    rintro e w1 ⟨rfl, hb1⟩
    have HB1 := hide hb1
    have hz1 := hb1.size
    have c11 : w1.cell? ⟨bx, 1, none⟩ = some (.slice a s.now.length cap) := by rw [hb1.cell (p := ⟨bx, 1, none⟩) hl]; exact HC1.out
    have hl1 : bx < w1.heap.size := by omega
    have HRD := hide (HI.out.nowRow.below hb1)
    clear hb1 c0
    go_wp2_with fail
    refine (find_any (placeOf lns st sh) (cmpOf lns st sh) hK hT s.now hrs B _ k _ HRD.out (by omega)).mono ?_
    rintro e w2 ⟨rfl, hb2⟩
    have hb2w := HB1.out.trans (hb2.mono hz1)
    have HB2 := hide hb2w
    have hz2 := hb2.size
    have c12 : w2.cell? ⟨bx, 1, none⟩ = some (.slice a s.now.length cap) := by rw [hb2.cell (p := ⟨bx, 1, none⟩) hl1]; exact c11
    have f12 : w2.frozen? ⟨bx, 1, none⟩ = false := by rw [hb2w.frozen (p := ⟨bx, 1, none⟩) hl]; exact HX.out.free 1
    have hl2 : bx < w2.heap.size := by omega
    clear hb2 hb2w c11
    cases hh : Tm.ixHas (cmpOf lns st sh) (Tm.entsOf s.now) k
    · have HANS : Hid (IxStep w w2 X S bx bc st sh lns (dropSt (cmpOf lns st sh) s k)) := by
        unfold Hid dropSt nowOf
        rw [if_neg (by omega), if_neg (by rw [hh]; simp)]
        exact IxStep.of_below HX.out HB2.out
      have HH := hide hh
      go_wp2
      go_ret2
      exact ⟨by rw [HH.out]; rfl, HANS.out⟩
    · have HH := hide hh
      obtain ⟨hi, _⟩ := (Tm.ixHas_at hT hrs).1 hh
      rw [Tm.entsOf_length] at hi
      have HS : Hid (dropSt (cmpOf lns st sh) s k = { s with now := s.now.eraseIdx (Tm.below (cmpOf lns st sh) (Tm.entsOf s.now) k), next := s.next + 1 }) := by
        unfold Hid dropSt nowOf
        rw [if_neg (by omega), if_pos hh, Tm.verDrop_there hT hrs hh]
      have HO2 : Hid (w2.ownsRow X 138 1 (.slice a s.now.length cap) s.now.length (ptrs B s.now)) := ownsRow_same HI.out.now (fun g hg => HB2.out.block g (HI.out.now.lt g hg).2)
      go_wp2_with fail
      refine (without_any X (ptrs B s.now) s.now.length _ (Tm.below (cmpOf lns st sh) (Tm.entsOf s.now) k) _ HO2.out (ptrs_one B s.now) hi (by omega)).mono ?_
      rintro e w3 ⟨v3, rfl, hown3, hgr3, hat3⟩
      have hz3 := hgr3.size
      have hbk : w3.heap[bx]? = w2.heap[bx]? := hgr3.block bx hl2 (fun e => (HI.out.vS bx e.symm).2.1 rfl)
      have c13 : w3.cell? ⟨bx, 1, none⟩ = some (.slice a s.now.length cap) := by rw [World.cell?_of_block (a := ⟨bx, 1, none⟩) hbk]; exact c12
      have f13 : w3.frozen? ⟨bx, 1, none⟩ = false := by rw [World.frozen?_of_block (a := ⟨bx, 1, none⟩) hbk]; exact f12
      have HANS : Hid (IxStep w (w3.setCell ⟨bx, 1, none⟩ v3) X S bx bc st sh lns (dropSt (cmpOf lns st sh) s k)) := by
        unfold Hid
        rw [HS.out]
        refine HX.out.newRow HI.out HB2.out hgr3 (fun g hg => .inl (by rw [← hat3]; exact hg)) _ _ B (fun _ => False) (fun _ _ => rfl) ?_ (fun _ e => e.elim) (fun x hx => .inl (List.mem_of_mem_eraseIdx hx)) (by have := HOKP.out; rw [HS.out] at this; exact this)
        have e1 : ptrs B (s.now.eraseIdx (Tm.below (cmpOf lns st sh) (Tm.entsOf s.now) k)) = (ptrs B s.now).eraseIdx (Tm.below (cmpOf lns st sh) (Tm.entsOf s.now) k) := by
          unfold ptrs
          rw [List.eraseIdx_eq_take_drop_succ, List.eraseIdx_eq_take_drop_succ, List.map_append, List.map_take, List.map_drop]
        rw [e1, List.length_eraseIdx, if_pos hi]
        exact hown3
      obtain ⟨a3, cap3, rfl⟩ := (Reads.of_owns hown3).shape
      have hl3 : bx < w3.heap.size := by omega
      clear hown3 hgr3 hat3
      go_wp2
      go_ret2
      exact ⟨by rw [HH.out]; rfl, HANS.out⟩
  · rw [if_neg hk]
    go_enter Tryz.func58, Tryz.ntmps58
    go_wp2_with fail
    refine (CodeKey_any lns bc bm st sh k _ HC.out HOK.out).mono ?_
    rw [if_neg hk]
    rintro e w1 ⟨rfl, hb1⟩
    have HANS : Hid (IxStep w w1 X S bx bc st sh lns (dropSt (cmpOf lns st sh) s k)) := by
      unfold Hid dropSt
      rw [if_pos (by omega)]
      exact IxStep.of_below HX.out hb1
    clear hb1
    go_wp2
    go_ret2
    exact ⟨rfl, HANS.out⟩
end Go.Proofs.YtmnjjjhmnhfapaaGreatDoor
namespace Go.Proofs.YtmnjjjhmnhfapaaGreatDoor
open Go.RowKit

/-- The cells of facts. -/
def factCells (fs : List Tm.Fact) : List Value := fs.flatMap fun f => [.string f.1, .string f.2.1, .bool f.2.2]
theorem factCells_length (fs : List Tm.Fact) : (factCells fs).length = fs.length * 3 := by
  induction fs with
  | nil => rfl
  | cons e r ih => simp only [factCells, List.flatMap_cons, List.length_append, List.length_cons] at *; rw [ih]; simp; omega
theorem factCells_append (a b : List Tm.Fact) : factCells (a ++ b) = factCells a ++ factCells b := by simp [factCells]
theorem facts_at {w : World} {a : Option Addr} {n cap : Nat} {fs : List Tm.Fact} (h : Reads w (.slice a n cap) 3 fs.length (factCells fs)) {k : Nat} (hk : k < fs.length) :
    ∃ g off, a = some ⟨g, off, none⟩ ∧ g < w.heap.size ∧ w.cell? ⟨g, off + k * 3, none⟩ = some (.string fs[k].1) ∧ w.cell? ⟨g, off + k * 3 + 1, none⟩ = some (.string fs[k].2.1) ∧ w.cell? ⟨g, off + k * 3 + 2, none⟩ = some (.bool fs[k].2.2) := by
  obtain ⟨g, off, cap', he, hg, hc⟩ := h.form (by rw [factCells_length]; omega)
  cases he
  have hr := rows_get (fun f : Tm.Fact => [Value.string f.1, Value.string f.2.1, Value.bool f.2.2]) 3 (fun _ => rfl) fs k hk
  exact ⟨g, off, rfl, hg, hc (k * 3) _ (hr 0 (by omega)), hc (k * 3 + 1) _ (hr 1 (by omega)), hc (k * 3 + 2) _ (hr 2 (by omega))⟩
theorem factCells_set (fs : List Tm.Fact) (k : Nat) (hk : k < fs.length) (f : Tm.Fact) : (((factCells fs).set (k * 3) (.string f.1)).set (k * 3 + 1) (.string f.2.1)).set (k * 3 + 2) (.bool f.2.2) = factCells (fs.set k f) := by
  have e0 : fs = fs.take k ++ fs[k] :: fs.drop (k + 1) := by rw [← List.drop_eq_getElem_cons hk, List.take_append_drop]
  have e1 : factCells fs = factCells (fs.take k) ++ .string fs[k].1 :: .string fs[k].2.1 :: .bool fs[k].2.2 :: factCells (fs.drop (k + 1)) := by
    conv => lhs; rw [e0]
    rw [factCells_append]; rfl
  have e2 : factCells (fs.set k f) = factCells (fs.take k) ++ .string f.1 :: .string f.2.1 :: .bool f.2.2 :: factCells (fs.drop (k + 1)) := by
    rw [List.set_eq_take_append_cons_drop, if_pos hk, factCells_append]; rfl
  have hl : (factCells (fs.take k)).length = k * 3 := by rw [factCells_length]; simp; omega
  rw [e1, e2]
  generalize factCells (fs.take k) = A at hl
  generalize factCells (fs.drop (k + 1)) = R
  rw [← hl]
  simp

/-- A book as it lies: its own blocks are those of F. -/
structure Bk (w : World) (X : Nat) (F S : Nat → Prop) (vf : Value) (bb bx bc bm : Nat) (st : Int) (sh : Bool) (lns : List Tm.Ln) (fs : List Tm.Fact) (s : IxSt) : Prop where
  base : ∃ W : World, W.heap.size = X ∧ Coll W bc bm st sh lns ∧ Below X W w
  ok : TableOk st lns
  ix : Ix w X S bx bc st sh lns s
  sub : ∀ i, S i → F i
  from_ : ∀ i, F i → X ≤ i ∧ i < w.heap.size
  own : F bb
  away : ¬ S bb
  c0 : w.cell? ⟨bb, 0, none⟩ = some (.pointer (some ⟨bc, 0, none⟩))
  c1 : w.cell? ⟨bb, 1, none⟩ = some (.pointer (some ⟨bx, 0, none⟩))
  c2 : w.cell? ⟨bb, 2, none⟩ = some vf
  c3 : w.cell? ⟨bb, 3, none⟩ = some (.bool true)
  free : ∀ o, w.frozen? ⟨bb, o, none⟩ = false
  row : w.ownsRow X 127 3 vf fs.length (factCells fs)
  rowF : ∀ g, vf.ownBlock = some g → F g ∧ g ≠ bb ∧ ¬ S g
  short : ∀ f ∈ fs, f.1.size ≤ 64
theorem Bk.size {w : World} {X : Nat} {F S : Nat → Prop} {vf : Value} {bb bx bc bm : Nat} {st : Int} {sh : Bool} {lns : List Tm.Ln} {fs : List Tm.Fact} {s : IxSt} (h : Bk w X F S vf bb bx bc bm st sh lns fs s) : X ≤ w.heap.size := by
  obtain ⟨W, hW, _, hb⟩ := h.base
  rw [← hW]; exact hb.size
theorem Bk.coll {w : World} {X : Nat} {F S : Nat → Prop} {vf : Value} {bb bx bc bm : Nat} {st : Int} {sh : Bool} {lns : List Tm.Ln} {fs : List Tm.Fact} {s : IxSt} (h : Bk w X F S vf bb bx bc bm st sh lns fs s) : Coll w bc bm st sh lns := by
  obtain ⟨W, hW, hC, hb⟩ := h.base
  exact hC.below (by rw [hW]; exact hb)
theorem Bk.foot {w w' : World} {X : Nat} {F S T : Nat → Prop} {vf : Value} {bb bx bc bm : Nat} {st : Int} {sh : Bool} {lns : List Tm.Ln} {fs : List Tm.Fact} {s : IxSt} (h : Bk w X F S vf bb bx bc bm st sh lns fs s) (hf : Foot T w w') (hd : ∀ i, F i → ¬ T i) (hT : ∀ i, T i → X ≤ i) : Bk w' X F S vf bb bx bc bm st sh lns fs s := by
  have hl := (h.from_ bb h.own).2
  obtain ⟨W, hW, hC, hb⟩ := h.base
  have hn := hd bb h.own
  exact ⟨⟨W, hW, hC, hb.trans (hf.below hT h.size)⟩, h.ok, h.ix.foot hf (fun i hi => hd i (h.sub i hi)), h.sub, fun i hi => ⟨(h.from_ i hi).1, Nat.lt_of_lt_of_le (h.from_ i hi).2 hf.size⟩, h.own, h.away,
    by rw [hf.cell (p := ⟨bb, 0, none⟩) hl hn]; exact h.c0, by rw [hf.cell (p := ⟨bb, 1, none⟩) hl hn]; exact h.c1, by rw [hf.cell (p := ⟨bb, 2, none⟩) hl hn]; exact h.c2, by rw [hf.cell (p := ⟨bb, 3, none⟩) hl hn]; exact h.c3,
    fun o => by rw [hf.frozen (p := ⟨bb, o, none⟩) hl hn]; exact h.free o, hf.owns h.row (fun g e => hd g (h.rowF g e).1), h.rowF, h.short⟩
theorem Bk.below {w w' : World} {X : Nat} {F S : Nat → Prop} {vf : Value} {bb bx bc bm : Nat} {st : Int} {sh : Bool} {lns : List Tm.Ln} {fs : List Tm.Fact} {s : IxSt} (h : Bk w X F S vf bb bx bc bm st sh lns fs s) (hb : Below w.heap.size w w') : Bk w' X F S vf bb bx bc bm st sh lns fs s :=
  h.foot (Foot.of (S := fun _ => False) hb) (fun _ _ e => e) (fun _ e => e.elim)
/-- 'ok' written anew. -/
theorem Bk.set3 {w : World} {X : Nat} {F S : Nat → Prop} {vf : Value} {bb bx bc bm : Nat} {st : Int} {sh : Bool} {lns : List Tm.Ln} {fs : List Tm.Fact} {s : IxSt} (h : Bk w X F S vf bb bx bc bm st sh lns fs s) : Bk (w.setCell ⟨bb, 3, none⟩ (.bool true)) X F S vf bb bx bc bm st sh lns fs s := by
  have hf : Foot (fun i => i = bb) w (w.setCell ⟨bb, 3, none⟩ (.bool true)) := Foot.setCell (p := ⟨bb, 3, none⟩) (Foot.refl (fun i => i = bb) w) (.inl rfl) _
  obtain ⟨W, hW, hC, hb⟩ := h.base
  have hX := (h.from_ bb h.own).1
  exact ⟨⟨W, hW, hC, hb.setCell (p := ⟨bb, 3, none⟩) hX _⟩, h.ok, h.ix.foot hf (fun i hi e => h.away (e ▸ hi)), h.sub, fun i hi => ⟨(h.from_ i hi).1, Nat.lt_of_lt_of_le (h.from_ i hi).2 hf.size⟩, h.own, h.away,
    by rw [World.cell?_setCell_other _ _ _ _ (by simp)]; exact h.c0, by rw [World.cell?_setCell_other _ _ _ _ (by simp)]; exact h.c1, by rw [World.cell?_setCell_other _ _ _ _ (by simp)]; exact h.c2, World.cell?_setCell_same _ _ _ h.c3,
    fun o => by rw [World.frozen?_setCell]; exact h.free o, hf.owns h.row (fun g e he => (h.rowF g e).2.1 he), h.rowF, h.short⟩
/-- The index has made a step. -/
theorem Bk.step {w w' : World} {X : Nat} {F S : Nat → Prop} {vf : Value} {bb bx bc bm : Nat} {st : Int} {sh : Bool} {lns : List Tm.Ln} {fs : List Tm.Fact} {s s' : IxSt} (h : Bk w X F S vf bb bx bc bm st sh lns fs s) (hs : IxStep w w' X S bx bc st sh lns s') :
    ∃ F' S' : Nat → Prop, Bk w' X F' S' vf bb bx bc bm st sh lns fs s' ∧ Foot F w w' ∧ ∀ i, F' i → F i ∨ w.heap.size ≤ i := by
  obtain ⟨S', hi, hf, hS⟩ := hs
  have hl := (h.from_ bb h.own).2
  obtain ⟨W, hW, hC, hb⟩ := h.base
  refine ⟨fun i => F i ∨ S' i, S', ⟨⟨W, hW, hC, hb.trans (hf.below (fun i hi => (h.from_ i (h.sub i hi)).1) h.size)⟩, h.ok, hi, fun i hi => .inr hi, fun i hi' => ?_, .inl h.own, fun e => ?_,
    by rw [hf.cell (p := ⟨bb, 0, none⟩) hl h.away]; exact h.c0, by rw [hf.cell (p := ⟨bb, 1, none⟩) hl h.away]; exact h.c1, by rw [hf.cell (p := ⟨bb, 2, none⟩) hl h.away]; exact h.c2, by rw [hf.cell (p := ⟨bb, 3, none⟩) hl h.away]; exact h.c3,
    fun o => by rw [hf.frozen (p := ⟨bb, o, none⟩) hl h.away]; exact h.free o, hf.owns h.row (fun g e => (h.rowF g e).2.2), fun g e => ?_, h.short⟩, hf.mono h.sub, fun i hi' => ?_⟩
  · rcases hi' with e | e
    · exact ⟨(h.from_ i e).1, Nat.lt_of_lt_of_le (h.from_ i e).2 hf.size⟩
    · exact hi.from_ i e
  · rcases hS bb e with e | e
    · exact h.away e
    · omega
  · obtain ⟨h1, h2, h3⟩ := h.rowF g e
    refine ⟨.inl h1, h2, fun e' => ?_⟩
    rcases hS g e' with e' | e'
    · exact h3 e'
    · have := (h.from_ g h1).2; omega
  · rcases hi' with e | e
    · exact .inl e
    · rcases hS i e with e | e
      · exact .inl (h.sub i e)
      · exact .inr e
/-- A fact is written. -/
theorem Bk.setFact {w : World} {X : Nat} {F S : Nat → Prop} {g n cap bb bx bc bm : Nat} {st : Int} {sh : Bool} {lns : List Tm.Ln} {fs : List Tm.Fact} {s : IxSt} (h : Bk w X F S (.slice (some ⟨g, 0, none⟩) n cap) bb bx bc bm st sh lns fs s) {k : Nat} (hk : k < fs.length) (f : Tm.Fact) (hf1 : f.1.size ≤ 64) :
    Bk (((w.setCell ⟨g, k * 3, none⟩ (.string f.1)).setCell ⟨g, k * 3 + 1, none⟩ (.string f.2.1)).setCell ⟨g, k * 3 + 2, none⟩ (.bool f.2.2)) X F S (.slice (some ⟨g, 0, none⟩) n cap) bb bx bc bm st sh lns (fs.set k f) s ∧ Foot F w (((w.setCell ⟨g, k * 3, none⟩ (.string f.1)).setCell ⟨g, k * 3 + 1, none⟩ (.string f.2.1)).setCell ⟨g, k * 3 + 2, none⟩ (.bool f.2.2)) := by
  obtain ⟨hg1, hg2, hg3⟩ := h.rowF g rfl
  have hf : Foot (fun i => i = g) w (((w.setCell ⟨g, k * 3, none⟩ (.string f.1)).setCell ⟨g, k * 3 + 1, none⟩ (.string f.2.1)).setCell ⟨g, k * 3 + 2, none⟩ (.bool f.2.2)) := Foot.setCell (p := ⟨g, k * 3 + 2, none⟩) (Foot.setCell (p := ⟨g, k * 3 + 1, none⟩) (Foot.setCell (p := ⟨g, k * 3, none⟩) (Foot.refl (fun i => i = g) w) (.inl rfl) _) (.inl rfl) _) (.inl rfl) _
  have hl := (h.from_ bb h.own).2
  obtain ⟨W, hW, hC, hb⟩ := h.base
  have hn : n = fs.length := ((Reads.of_owns h.row).fits).1
  have hown : (((w.setCell ⟨g, k * 3, none⟩ (.string f.1)).setCell ⟨g, k * 3 + 1, none⟩ (.string f.2.1)).setCell ⟨g, k * 3 + 2, none⟩ (.bool f.2.2)).ownsRow X 127 3 (.slice (some ⟨g, 0, none⟩) n cap) (fs.set k f).length (factCells (fs.set k f)) := by
    rw [← factCells_set fs k hk f, List.length_set]
    have := h.row
    subst hn
    exact owns_setAt (owns_setAt (owns_setAt this _ _) _ _) _ _
  refine ⟨⟨⟨W, hW, hC, hb.trans (hf.below (fun i hi => by subst hi; exact (h.from_ i hg1).1) h.size)⟩, h.ok, h.ix.foot hf (fun i hi e => hg3 (e ▸ hi)), h.sub, fun i hi => ⟨(h.from_ i hi).1, Nat.lt_of_lt_of_le (h.from_ i hi).2 hf.size⟩, h.own, h.away,
    by rw [hf.cell (p := ⟨bb, 0, none⟩) hl (fun e => hg2 e.symm)]; exact h.c0, by rw [hf.cell (p := ⟨bb, 1, none⟩) hl (fun e => hg2 e.symm)]; exact h.c1, by rw [hf.cell (p := ⟨bb, 2, none⟩) hl (fun e => hg2 e.symm)]; exact h.c2, by rw [hf.cell (p := ⟨bb, 3, none⟩) hl (fun e => hg2 e.symm)]; exact h.c3,
    fun o => by rw [hf.frozen (p := ⟨bb, o, none⟩) hl (fun e => hg2 e.symm)]; exact h.free o, hown, h.rowF, fun f' hf' => ?_⟩, hf.mono (fun i hi => hi ▸ hg1)⟩
  rcases List.mem_or_eq_of_mem_set hf' with e | e
  · exact h.short f' e
  · rw [e]; exact hf1
/-- The row of facts has grown, and the book has its new slice. -/
theorem Bk.grow {w w' : World} {X : Nat} {F S : Nat → Prop} {vf v' : Value} {bb bx bc bm : Nat} {st : Int} {sh : Bool} {lns : List Tm.Ln} {fs : List Tm.Fact} {f : Tm.Fact} {s : IxSt} {o : Obj} (h : Bk w X F S vf bb bx bc bm st sh lns fs s) (hf1 : f.1.size ≤ 64)
    (hown : w'.ownsRow X 127 3 v' (fs.length + 1) (factCells fs ++ factCells [f])) (hg : (w.alloc o).grownBy w' vf.ownBlock) (hat : v'.ownBlock = vf.ownBlock ∨ v'.ownBlock = some (w.alloc o).heap.size) :
    ∃ F' : Nat → Prop, Bk (w'.setCell ⟨bb, 2, none⟩ v') X F' S v' bb bx bc bm st sh lns (fs ++ [f]) s ∧ Foot F w (w'.setCell ⟨bb, 2, none⟩ v') ∧ ∀ i, F' i → F i ∨ w.heap.size ≤ i := by
  have hl := (h.from_ bb h.own).2
  have hf0 : Foot (fun i => vf.ownBlock = some i) w w' := ((Foot.refl _ w).alloc o).grown hg (fun k e => .inl e)
  have hnb : vf.ownBlock ≠ some bb := fun e => (h.rowF bb e).2.1 rfl
  have hf : Foot (fun i => vf.ownBlock = some i ∨ i = bb) w (w'.setCell ⟨bb, 2, none⟩ v') := (hf0.mono (fun i hi => .inl hi)).setCell (.inl (.inr rfl)) _
  have hv' : ∀ g, v'.ownBlock = some g → vf.ownBlock = some g ∨ w.heap.size + 1 = g := fun g e => by
    rcases hat with e' | e'
    · exact .inl (by rw [← e']; exact e)
    · rw [e'] at e; simp at e; exact .inr e
  have hnb' : v'.ownBlock ≠ some bb := fun e => by
    rcases hv' bb e with e | e
    · exact hnb e
    · omega
  have hcb : ∀ q, w'.cell? ⟨bb, q, none⟩ = w.cell? ⟨bb, q, none⟩ := fun q => hf0.cell (p := ⟨bb, q, none⟩) hl hnb
  have hzz : w.heap.size + 1 ≤ w'.heap.size := by have := hg.size; simpa using this
  obtain ⟨W, hW, hC, hb⟩ := h.base
  refine ⟨fun i => F i ∨ v'.ownBlock = some i, ⟨⟨W, hW, hC, hb.trans (hf.below (fun i hi => ?_) h.size)⟩, h.ok, h.ix.foot hf (fun i hi e => ?_), fun i hi => .inl (h.sub i hi), fun i hi => ?_, .inl h.own, h.away,
    by rw [World.cell?_setCell_other _ _ _ _ (by simp), hcb]; exact h.c0, by rw [World.cell?_setCell_other _ _ _ _ (by simp), hcb]; exact h.c1, World.cell?_setCell_same _ _ _ ((hcb 2).trans h.c2), by rw [World.cell?_setCell_other _ _ _ _ (by simp), hcb]; exact h.c3,
    fun q => by rw [World.frozen?_setCell, hf0.frozen (p := ⟨bb, q, none⟩) hl hnb]; exact h.free q, ?_, fun g e => ?_, fun f' hf' => ?_⟩, hf.mono (fun i hi => ?_), fun i hi => ?_⟩
  · rcases hi with e | e
    · exact (h.from_ i (h.rowF i e).1).1
    · subst e; exact (h.from_ i h.own).1
  · rcases e with e | e
    · exact (h.rowF i e).2.2 hi
    · subst e; exact h.away hi
  · rcases hi with e | e
    · exact ⟨(h.from_ i e).1, Nat.lt_of_lt_of_le (h.from_ i e).2 hf.size⟩
    · have := hown.lt i e
      exact ⟨this.1, by simpa [World.setCell] using this.2⟩
  · rw [factCells_append, List.length_append]
    exact ownsRow_same hown (fun g e => Below.heap_setCell _ _ _ _ (by rintro rfl; exact hnb' e))
  · refine ⟨.inr e, fun e' => hnb' (e' ▸ e), fun e' => ?_⟩
    rcases hv' g e with e | e
    · exact (h.rowF g e).2.2 e'
    · have := (h.from_ g (h.sub g e')).2; omega
  · rcases List.mem_append.1 hf' with e | e
    · exact h.short f' e
    · rw [List.mem_singleton.1 e]; exact hf1
  · rcases hi with e | e
    · exact (h.rowF i e).1
    · subst e; exact h.own
  · rcases hi with e | e
    · exact .inl e
    · rcases hv' i e with e | e
      · exact .inl (h.rowF i e).1
      · exact .inr (by omega)
end Go.Proofs.YtmnjjjhmnhfapaaGreatDoor
