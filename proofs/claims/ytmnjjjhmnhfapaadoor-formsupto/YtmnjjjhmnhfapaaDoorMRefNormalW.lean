import Derived.Test.YtmnjjjhmnhfapaaDoorMCodeArr
import Derived.Test.YtmnjjjhmnhfapaaDoorMRefRunes
import Derived.Test.YtmnjjjhmnhfapaaDoorMLawBook
namespace Go.Proofs.YtmnjjjhmnhfapaaDoor
open Go.RowKit

theorem next_some {w : World} {r : Nat} {s : ByteArray} {pos : Nat} (hr : w.heap[r]? = some (.stringIter s pos)) (h : pos < s.size) :
    ∃ wn : World, (∀ ty, (Instr.next (.pointer (some ⟨r, 0, none⟩)) true ty).run Tryd.prog w = .ok (.tuple #[.bool true, .int .i64 pos, .int .i32 (Utf8.decode s pos).1]) wn) ∧ wn.heap.size = w.heap.size ∧ wn.heap[r]? = some (.stringIter s (pos + (Utf8.decode s pos).2)) ∧ (∀ k, k ≠ r → wn.heap[k]? = w.heap[k]?) ∧ wn.os = w.os ∧ wn.tape = w.tape ∧ wn.output = w.output := by
  have hlt := (Array.getElem?_eq_some_iff.1 hr).1
  refine ⟨{ w with heap := w.heap.setIfInBounds r (.stringIter s (pos + (Utf8.decode s pos).2)) }, fun ty => ?_, by simp, by simp [hlt], fun k hk => by simp only [Array.getElem?_setIfInBounds]; rw [if_neg (by omega)], rfl, rfl, rfl⟩
  simp only [Instr.next, getObj, setObj, Sem.run_bind, Sem.run, hr, Result.andThen, h, if_true]
  simp [goInt]
theorem next_none {w : World} {r : Nat} {s : ByteArray} {pos : Nat} (hr : w.heap[r]? = some (.stringIter s pos)) (h : ¬ pos < s.size) (ty : TypeId) :
    (Instr.next (.pointer (some ⟨r, 0, none⟩)) true ty).run Tryd.prog w = .ok (.tuple #[.bool false]) w := by
  simp [Instr.next, getObj, Sem.run, hr, h]

theorem flat_all {l m : List Int} {f : Int → List Int} : (l ++ m).flatMap f = l.flatMap f ++ m.flatMap f := List.flatMap_append
theorem expand_range {lns : List Tm.Ln} (hfit : ∀ o ∈ lns, Tm.Fit o) : ∀ (n : Nat) (r : Int), 0 ≤ r ∧ r ≤ 1114111 → ∀ x ∈ Tm.expand lns n r, 0 ≤ x ∧ x ≤ 1114111
  | 0, r, hr, x, hx => by simp [Tm.expand] at hx; subst hx; exact hr
  | n + 1, r, hr, x, hx => by
    rw [Tm.expand] at hx
    split at hx
    · simp at hx; subst hx; exact hr
    · obtain ⟨y, hy, hx⟩ := List.mem_flatMap.1 hx
      exact expand_range hfit n y (parts_range hfit r y hy) x hx
set_option maxRecDepth 100000 in
set_option maxHeartbeats 4000000 in
theorem normalForm_any (lns : List Tm.Ln) (hfit : ∀ o ∈ lns, Tm.Fit o) (hends : ∀ r, Tm.ends lns 4 r = true) (bm : Nat) (s : ByteArray) (w : World) (hs : s.size ≤ 64) (hrd : NodesRd w bm lns) :
    Calls Tryd.prog 46 #[.map (some bm), .string s] w fun e w' => ∃ v, e = .returned v ∧ w'.ownsRow (w.heap.size + 1) 3 1 v (normOf lns s).length (ints (normOf lns s)) ∧ Below w.heap.size w w' := by
  have HRD := hide hrd
  have HFIT := hide hfit
  have HENDS := hide hends
  clear hrd hends
  go_enter Tryd.func46, Tryd.ntmps46
  go_wp2_with fail
  have h0a : (w.iter s 0).heap[w.heap.size]? = some (.stringIter s 0) := World.iter_heap w s 0
  have h0b : Below w.heap.size w (w.iter s 0) := (Below.refl _ _).alloc (Nat.le_refl _) _
  have h0c : w.heap.size + 1 ≤ (w.iter s 0).heap.size := by simp [World.iter]
  have H0 := hide (And.intro h0a (And.intro h0b h0c))
  clear h0a h0b h0c
  have HSH := hide (Tm.flat_short (lns := lns) (fun q => parts_few hfit q) 4)
  go_loopw [5] (fun v wr => ∃ (pos : Nat) (ds : List Int), wr.heap[w.heap.size]? = some (.stringIter s pos) ∧ ds ++ runesFrom s s.size pos = runesOf s ∧ ds.length ≤ pos ∧ wr.ownsRow (w.heap.size + 1) 3 1 v (ds.flatMap (Tm.expand lns 4)).length (ints (ds.flatMap (Tm.expand lns 4))) ∧ Below w.heap.size w wr ∧ w.heap.size + 1 ≤ wr.heap.size) (fun _ wr => s.size - wr.iterPos w.heap.size)
  case atStart => exact ⟨0, [], H0.out.1, rfl, Nat.le_refl _, World.ownsRow_nil _ _ _ _, H0.out.2.1, H0.out.2.2⟩
  case round =>
    obtain ⟨pos, ds, hit, hds, hdl, hown, hb, hz⟩ := hrel
    have HIT := hide hit
    have HDS := hide hds
    have HO := hide hown
    have HB := hide hb
    have HIP : Hid (wr.iterPos w.heap.size = pos) := by unfold Hid World.iterPos; rw [hit]
    by_cases hp : pos < s.size
    · obtain ⟨wn, hnx, hnz, hnr, hno, n1, n2, n3⟩ := next_some hit hp
      have hw := decide_eq_true (p := True) trivial
      have hwd := decode_width s pos hp
      have hmost := decode_most s pos
      have HSTEP := hide (runesFrom_step hp)
      have HBn : Hid (Below w.heap.size w wn) := HB.out.trans ⟨n1, n2, n3, by omega, fun k hk => hno k (by omega)⟩
      have HOn := hide (ownsRow_same (w' := wn) HO.out (fun k hk => hno k (by have := (HO.out.lt k hk).1; omega)))
      have HNR := hide hnr
      have HNB : Hid (NB lns bm (w.heap.size + 1) wn) := ⟨w, HRD.out, HBn.out, by omega⟩
      have hlen : (ds.flatMap (Tm.expand lns 4)).length + 2 ^ 4 ≤ 100000 := by
        have h1 := HSH.out ds
        have h2 : ds.length ≤ 64 := by omega
        have h3 := Nat.mul_le_mul_right (2 ^ 4) h2
        omega
      obtain ⟨x, hx⟩ : ∃ x : Int, ((Utf8.decode s pos).1 : Int) = x := ⟨_, rfl⟩
      have hx0 : 0 ≤ x ∧ x ≤ 1114111 := by omega
      rw [hx] at hnx HSTEP
      generalize (Utf8.decode s pos).2 = wd at *
      clear hit hds hown hb hno n1 n2 n3 hnr hx hmost hw
      go_wp2_with fail
      refine (appendParts_any lns hfit bm (w.heap.size + 1) 4 x _ (ds.flatMap (Tm.expand lns 4)) wn (HENDS.out x) hx0 HNB.out HOn.out (by omega) hlen).mono ?_
      rintro e w3 ⟨v3, rfl, hown3, hb3⟩
      have hz3 := hb3.size
      have e1 : (ds ++ [x]).flatMap (Tm.expand lns 4) = ds.flatMap (Tm.expand lns 4) ++ Tm.expand lns 4 x := by rw [flat_all]; simp
      have HO3 : Hid (w3.ownsRow (w.heap.size + 1) 3 1 v3 ((ds ++ [x]).flatMap (Tm.expand lns 4)).length (ints ((ds ++ [x]).flatMap (Tm.expand lns 4)))) := by unfold Hid; rw [e1]; exact hown3
      have HIT3 : Hid (w3.heap[w.heap.size]? = some (.stringIter s (pos + wd))) := by unfold Hid; rw [hb3.block _ (by omega)]; exact HNR.out
      have HB3 : Hid (Below w.heap.size w w3) := HBn.out.trans (hb3.mono (by omega))
      have HDS3 : Hid (ds ++ [x] ++ runesFrom s s.size (pos + wd) = runesOf s) := by unfold Hid; rw [← HDS.out, HSTEP.out]; simp
      have HIP3 : Hid (w3.iterPos w.heap.size = pos + wd) := by unfold Hid World.iterPos; rw [HIT3.out]
      clear hown3 hb3 e1
      go_wp2
      go_roundw
      case rel => exact ⟨pos + wd, ds ++ [x], HIT3.out, HDS3.out, by simp; omega, HO3.out, HB3.out, by omega⟩
      case measure => rw [HIP3.out, HIP.out]; omega
    · have HE : Hid (ds = runesOf s) := by have h := hds; rw [runesFrom_end (by omega), List.append_nil] at h; exact h
      have hnx := fun ty => next_none hit hp ty
      have HNB : Hid (NB lns bm (w.heap.size + 1) wr) := ⟨w, HRD.out, HB.out, by omega⟩
      obtain ⟨xs, hxs⟩ : ∃ xs, ds.flatMap (Tm.expand lns 4) = xs := ⟨_, rfl⟩
      rw [hxs] at HO
      have HNO : Hid (normOf lns s = Tm.ord (Tm.classOf lns) xs) := by unfold Hid normOf; rw [← HE.out, hxs]
      have HXR : Hid (∀ x ∈ xs, 0 ≤ x ∧ x ≤ 1114111) := fun x hx => by
        rw [← hxs, HE.out] at hx
        obtain ⟨y, hy, hx⟩ := List.mem_flatMap.1 hx
        exact expand_range hfit 4 y (runesFrom_range y hy) x hx
      have hxl : xs.length ≤ 100000 := by
        have h1 := HSH.out ds
        have h2 : ds.length ≤ 64 := by have h := congrArg List.length hds; have h3 := runesFrom_short (s := s) (f := s.size) (pos := 0); simp [runesOf] at h; omega
        have h3 := Nat.mul_le_mul_right (2 ^ 4) h2
        rw [← hxs]; omega
      have hol := HO.out.2
      clear hit hds hown hb hxs
      rcases hol with ⟨hnil, hx0⟩ | ⟨g, cap, cur, hsl, _⟩
      · subst hnil
        have hxe : xs = [] := List.eq_nil_of_length_eq_zero hx0
        subst hxe
        have HN0 : Hid (normOf lns s = []) := HNO.out
        go_wp2_with fail
        refine (arrange_none bm _).mono ?_
        rintro e w3 ⟨rfl, rfl⟩
        go_wp2
        go_ret
        refine ⟨_, rfl, ?_, HB.out⟩
        rw [HN0.out]
        exact World.ownsRow_nil _ _ _ _
      · subst hsl
        go_wp2_with fail
        refine (arrange_any lns hfit bm (w.heap.size + 1) g cap xs _ HXR.out HNB.out HO.out hz hxl).mono ?_
        rintro e w3 ⟨rfl, hown3, hb3⟩
        have HF : Hid (w3.ownsRow (w.heap.size + 1) 3 1 (.slice (some ⟨g, 0, none⟩) xs.length cap) (normOf lns s).length (ints (normOf lns s))) := by unfold Hid; rw [HNO.out, Tm.ord_length]; exact hown3
        have HB3 : Hid (Below w.heap.size w w3) := HB.out.trans (hb3.mono (by omega))
        clear hown3 hb3
        go_wp2
        go_ret
        exact ⟨_, rfl, HF.out, HB3.out⟩

/-- What Normal answers. -/
def normAns (lns : List Tm.Ln) (s : ByteArray) (w : World) (e : Ending) (w' : World) : Prop :=
  if s.size ≤ 64 then ∃ v, e = .returned (.tuple #[v, .int .i64 0]) ∧ w'.ownsRow (w.heap.size + 1) 3 1 v (normOf lns s).length (ints (normOf lns s)) ∧ Below w.heap.size w w' else e = .returned (.tuple #[.slice none 0 0, .int .i64 7]) ∧ w' = w
set_option maxRecDepth 100000 in
theorem isLong_any (s : ByteArray) (w : World) : Calls Tryd.prog 40 #[.string s] w fun e w' => e = .returned (.bool (decide (64 < (s.size : Int)))) ∧ w' = w := by
  go_enter Tryd.func40, Tryd.ntmps40
  go_wp2
  go_ret
  exact ⟨rfl, rfl⟩
end Go.Proofs.YtmnjjjhmnhfapaaDoor
namespace Go.Proofs.YtmnjjjhmnhfapaaDoor
open Go.RowKit

set_option maxRecDepth 100000 in
theorem Normal_any (lns : List Tm.Ln) (hfit : ∀ o ∈ lns, Tm.Fit o) (hends : ∀ r, Tm.ends lns 4 r = true) (bc bm : Nat) (s : ByteArray) (w : World) (hc : w.cell? ⟨bc, 0, none⟩ = some (.map (some bm))) (hrd : NodesRd w bm lns) :
    Calls Tryd.prog 29 #[.pointer (some ⟨bc, 0, none⟩), .string s] w fun e w' => normAns lns s w e w' := by
  have HRD := hide hrd
  have HENDS := hide hends
  clear hrd hends
  by_cases hs : s.size ≤ 64
  · have hd : decide (64 < (s.size : Int)) = false := by simp <;> omega
    go_enter Tryd.func29, Tryd.ntmps29
    go_wp2_with fail
    refine (isLong_any s _).mono ?_
    rintro e w0 ⟨rfl, rfl⟩
    rw [hd]
    go_wp2_with fail
    refine (normalForm_any lns hfit HENDS.out bm s _ hs HRD.out).mono ?_
    rintro e w1 ⟨v, rfl, hown, hb⟩
    have HO := hide hown
    have HB := hide hb
    clear hown hb
    go_wp2
    go_ret2
    unfold normAns
    rw [if_pos hs]
    exact ⟨v, rfl, HO.out, HB.out⟩
  · have hd : decide (64 < (s.size : Int)) = true := by simp <;> omega
    go_enter Tryd.func29, Tryd.ntmps29
    go_wp2_with fail
    refine (isLong_any s _).mono ?_
    rintro e w0 ⟨rfl, rfl⟩
    rw [hd]
    go_wp2
    go_ret2
    unfold normAns
    rw [if_neg hs]
    exact ⟨rfl, rfl⟩
end Go.Proofs.YtmnjjjhmnhfapaaDoor
namespace Go.Proofs.YtmnjjjhmnhfapaaDoor
open Go.RowKit

set_option maxRecDepth 100000 in
set_option maxHeartbeats 4000000 in
theorem RefNormal_new (vl : Value) (st : Int) (sh : Bool) (s : ByteArray) (lns : List Tm.Ln) (w : World) (ht : TableRd w vl lns) (hfit : ∀ o ∈ lns, Tm.Fit o) (hl : lns.length ≤ 1000000) (hends : ∀ r, Tm.ends lns 4 r = true) (hs : s.size ≤ 64) :
    Calls Tryd.prog 30 #[.agg #[vl, .int .i64 st, .bool sh], .string s] w fun e w' => ∃ v, e = .returned v ∧ Reads w' v 1 (normOf lns s).length (ints (normOf lns s)) ∧ Below w.heap.size w w' ∧ ∀ g, v.ownBlock = some g → w.heap.size ≤ g := by
  obtain ⟨a, cap, rfl⟩ := ht.shape
  have HT := hide ht
  have HF := hide hfit
  have HL3 : Hid (∀ o ∈ lns, o.runes.length ≤ 3) := fun o ho => (HF.out o ho).few
  have HNE : Hid (∀ o ∈ lns, o.runes ≠ []) := fun o ho => (HF.out o ho).some
  obtain ⟨E, hE⟩ : ∃ E, (runesOf s).flatMap (Tm.expand lns 4) = E := ⟨_, rfl⟩
  have HN : Hid (normOf lns s = Tm.ord (Tm.classOf lns) E) := by unfold Hid normOf; rw [hE]
  have hEl : E.length ≤ 1024 := by
    have h1 := Tm.flat_short (lns := lns) (parts_short HL3.out) 4 (runesOf s)
    have h2 := runesFrom_short (s := s) (f := s.size) (pos := 0)
    have h3 : (runesOf s).length ≤ 64 := by unfold runesOf; omega
    rw [hE] at h1
    have h4 := Nat.mul_le_mul_right (2 ^ 4) h3
    omega
  have HS0 : Hid (stepsSt lns E (runesOf s) true) := ⟨4, Nat.le_refl _, by rw [List.all_eq_true]; exact fun x _ => hends x, hE⟩
  clear ht hfit hends hE
  go_enter Tryd.func30, Tryd.ntmps30
  go_wp2_with fail
  refine (Runes_any s _ (by omega)).mono ?_
  rintro e w1 ⟨v1, rfl, hown1, hb1⟩
  have HO1 : Hid (w1.ownsRow (w.heap.size + 1) 3 1 v1 (runesOf s).length (ints (runesOf s))) := by unfold Hid; simpa using hown1
  have HB1 : Hid (Below (w.heap.size + 1) (w.alloc (.cells #[.slice a lns.length cap, .int .i64 st, .bool sh] 28)) w1) := by unfold Hid; simpa using hb1
  clear hown1 hb1
  go_wp2
  go_loopw [5, 6] (fun v y wr => ∃ (l : List Int) (t : Bool), y = .bool t ∧ wr.ownsRow (w.heap.size + 1) 3 1 v l.length (ints l) ∧ Below (w.heap.size + 1) (w.alloc (.cells #[.slice a lns.length cap, .int .i64 st, .bool sh] 28)) wr ∧ stepsSt lns E l t) (fun v y wr => stepsLeft lns wr v y)
  case atStart => exact ⟨runesOf s, true, rfl, HO1.out, HB1.out, HS0.out⟩
  case round =>
    obtain ⟨l, t, rfl, hown, hb, hst⟩ := hrel
    have hb0 : Below w.heap.size w wr := ((Below.refl _ _).alloc (Nat.le_refl _) _).trans (hb.mono (by omega))
    have HB := hide hb
    have HB0 := hide hb0
    have b0 : wr.cell? ⟨w.heap.size, 0, none⟩ = some (.slice a lns.length cap) := by rw [hb.cell (by simp)]; simp
    have b1 : wr.cell? ⟨w.heap.size, 1, none⟩ = some (.int .i64 st) := by rw [hb.cell (by simp)]; simp
    have b2 : wr.cell? ⟨w.heap.size, 2, none⟩ = some (.bool sh) := by rw [hb.cell (by simp)]; simp
    have hzr : w.heap.size + 1 ≤ wr.heap.size := by have := hb.size; simpa using this
    have HO := hide hown
    have HST := hide hst
    have hlen := hst.short
    clear hb hb0 hown hst
    cases t
    · have he : l = E := HST.out
      subst he
      obtain ⟨ao, capo, rfl⟩ := (Reads.of_owns HO.out).shape
      have hcapo := (Reads.of_owns HO.out).fits
      have HH0 := hide (Held.of_owns HO.out)
      have HNEW : Hid (∀ k, ∀ g, (Value.slice ao k capo).ownBlock = some g → w.heap.size ≤ g) := fun k g hg => by
        have := (HO.out.lt g (by cases ao with
          | none => simp [Value.ownBlock] at hg
          | some ad => simpa [Value.ownBlock] using hg)).1
        omega
      obtain ⟨n, hn⟩ : ∃ n, l.length = n := ⟨_, rfl⟩
      rw [hn] at hcapo hlen
      have HCAP : Hid (n ≤ capo ∧ capo ≤ maxLen) := hcapo.2
      have hcap2 : n ≤ capo := hcapo.2.1
      have hn9 : n ≤ 1024 := by omega
      clear HO HST hcapo
      rw [hn]
      go_wp2
      go_loopw [7] (fun y wr => ∃ (t : Bool) (xs : List Int), y = .bool t ∧ xs.length = n ∧ Held wr (w.heap.size + 1) ao xs ∧ Below (w.heap.size + 1) (w.alloc (.cells #[.slice a lns.length cap, .int .i64 st, .bool sh] 28)) wr ∧ Tm.ord (Tm.classOf lns) xs = Tm.ord (Tm.classOf lns) l ∧ (t = false → Tm.Calm (Tm.classOf lns) xs)) (fun y wr => passLeft (Tm.classOf lns) wr (.slice ao n capo) y)
      case atStart => exact ⟨true, l, rfl, hn, HH0.out, HB.out, rfl, fun h => by cases h⟩
      case round =>
        obtain ⟨t, xs, rfl, hxn, hheld, hb, hord, hcalm⟩ := hrel
        have HH := hide hheld
        have HB2 := hide hb
        have HORD := hide hord
        have HCALM := hide hcalm
        have HRD : Hid (Reads wr (.slice ao n capo) 1 xs.length (ints xs)) := by
          have h := HH.out.reads (cap := capo) (by rw [hxn]; exact HCAP.out.1) HCAP.out.2
          rw [hxn] at h ⊢; exact h
        have HLX := hide (listOf_eq HRD.out)
        clear hheld hb hord hcalm
        cases t
        · have HFIN : Hid (Reads wr (.slice ao n capo) 1 (normOf lns s).length (ints (normOf lns s))) := by
            unfold Hid
            rw [HN.out, ← HORD.out, Tm.ord_calm (HCALM.out rfl)]
            exact HRD.out
          have HBF : Hid (Below w.heap.size w wr) := ((Below.refl _ _).alloc (Nat.le_refl _) _).trans (HB2.out.mono (by omega))
          go_wp2
          go_ret
          exact ⟨_, rfl, HFIN.out, HBF.out, HNEW.out _⟩
        · have HP0 : Hid (Pass (Tm.classOf lns) l xs xs false 0) := ⟨rfl, HORD.out, fun _ => ⟨rfl, fun m hm => by omega⟩, fun h => by cases h⟩
          clear b0 b1 b2 hzr
          go_wp2
          go_loopw [7, 8] (fun y i wr => ∃ (t : Bool) (j : Nat) (ys : List Int), y = .bool t ∧ i = .int .i64 j ∧ j ≤ n ∧ Held wr (w.heap.size + 1) ao ys ∧ Below (w.heap.size + 1) (w.alloc (.cells #[.slice a lns.length cap, .int .i64 st, .bool sh] 28)) wr ∧ Pass (Tm.classOf lns) l xs ys t j) (fun _ i _ => n - (intOf i).toNat)
          case atStart => exact ⟨false, 0, xs, rfl, rfl, Nat.zero_le _, HH.out, HB2.out, HP0.out⟩
          case round =>
            obtain ⟨t, j, ys, rfl, rfl, hjn, hheld, hb, hpass⟩ := hrel
            have hyn : ys.length = n := hpass.len.trans hxn
            have HPASS := hide hpass
            have HHy := hide hheld
            have HBy := hide hb
            have HB0y : Hid (Below w.heap.size w wr) := ((Below.refl _ _).alloc (Nat.le_refl _) _).trans (hb.mono (by omega))
            have b0 : wr.cell? ⟨w.heap.size, 0, none⟩ = some (.slice a lns.length cap) := by rw [hb.cell (by simp)]; simp
            have b1 : wr.cell? ⟨w.heap.size, 1, none⟩ = some (.int .i64 st) := by rw [hb.cell (by simp)]; simp
            have b2 : wr.cell? ⟨w.heap.size, 2, none⟩ = some (.bool sh) := by rw [hb.cell (by simp)]; simp
            have hzr : w.heap.size + 1 ≤ wr.heap.size := by have := hb.size; simpa using this
            clear hpass hb
            by_cases hlt : j + 1 < n
            · have hj2 : j + 1 < ys.length := by omega
              rcases hheld with ⟨h0, _⟩ | ⟨g, rfl, hg1, hg2, hI⟩
              · rw [h0] at hyn; simp at hyn; omega
              have HI := hide hI
              have cx := hI.at (j := j) (by omega)
              have cy := hI.at (j := j + 1) hj2
              rw [Nat.zero_add] at cx cy
              obtain ⟨cx, fx⟩ := cx
              obtain ⟨cy, fy⟩ := cy
              have HON : Hid (Tm.wrong (Tm.classOf lns) ys[j] ys[j + 1] = false → Pass (Tm.classOf lns) l xs ys t (j + 1)) := fun h => HPASS.out.on hj2 h
              have HSW : Hid (Tm.wrong (Tm.classOf lns) ys[j] ys[j + 1] = true → Pass (Tm.classOf lns) l xs (ys.take j ++ ys[j + 1] :: ([] ++ ys[j] :: ys.drop (j + 2))) true (j + 1)) := fun h => HPASS.out.swap hj2 h
              have HI2 : Hid (Ints wr g 0 (ys.take j ++ ys[j] :: ([] ++ ys[j + 1] :: ys.drop (j + 2)))) := by unfold Hid; rw [← split_two hj2]; exact HI.out
              have HLJ : Hid (j = (ys.take j).length) := by unfold Hid; simp; omega
              have i1 : (0 : Int) ≤ (j : Int) := by omega
              have i2 : (j : Int) < (n : Int) := by omega
              have i3 : (0 : Int) ≤ (j : Int) + 1 := by omega
              have i4 : (j : Int) + 1 < (n : Int) := by omega
              generalize ys[j] = x at *
              generalize ys[j + 1] = y at *
              clear hI
              go_upto_region 11 with fail
              go_cut [9] from 22 to 34 (fun t wx => t = .int .i64 (Tm.classOf lns x) ∧ Below wr.heap.size wr wx)
              case first =>
                go_region_with (go_at_call 55; refine (Class_any _ st sh x lns _ (by exact (HT.out.below HB0y.out).below (Below.refl _ _).drew) HF.out hl).mono ?_; rintro e w2 ⟨rfl, hbp⟩)
                all_goals (go_wp2_with fail; go_meet; exact ⟨rfl, ((Below.refl _ _).drew).trans hbp⟩)
              case rest =>
                obtain ⟨rfl, hbp1⟩ := hcut
                have HBP1 := hide hbp1
                have hz1 := hbp1.size
                have b0' : wc.cell? ⟨w.heap.size, 0, none⟩ = some (.slice a lns.length cap) := by rw [hbp1.cell (by simp only; omega)]; exact b0
                have b1' : wc.cell? ⟨w.heap.size, 1, none⟩ = some (.int .i64 st) := by rw [hbp1.cell (by simp only; omega)]; exact b1
                have b2' : wc.cell? ⟨w.heap.size, 2, none⟩ = some (.bool sh) := by rw [hbp1.cell (by simp only; omega)]; exact b2
                have cx' : wc.cell? ⟨g, j, none⟩ = some (.int .i64 x) := by rw [hbp1.cell (by simp only; omega)]; exact cx
                have cy' : wc.cell? ⟨g, j + 1, none⟩ = some (.int .i64 y) := by rw [hbp1.cell (by simp only; omega)]; exact cy
                have HTC : Hid (TableRd wc (.slice a lns.length cap) lns) := (HT.out.below HB0y.out).below HBP1.out
                clear hbp1
                go_upto_region 12 with fail
                go_cut [10] from 22 to 41 (fun t wx => t = .int .i64 (Tm.classOf lns y) ∧ Below wr.heap.size wr wx)
                case first =>
                  have i5 : IntKind.i64.wrap ((j : Int) + 1) = (j : Int) + 1 := by rw [IntKind.wrap_i64]; omega
                  go_region_with (go_at_call 55; refine (Class_any _ st sh y lns _ (by exact HTC.out.below (Below.refl _ _).drew) HF.out hl).mono ?_; rintro e w2 ⟨rfl, hbp⟩)
                  all_goals (go_wp2_with fail; go_meet; exact ⟨rfl, HBP1.out.trans ((((Below.refl _ _).drew).trans hbp).mono hz1)⟩)
                case rest =>
                  obtain ⟨rfl, hbp2⟩ := hcut
                  have HBP2 := hide hbp2
                  have hz2 := hbp2.size
                  have HIC : Hid (Ints wc g 0 (ys.take j ++ x :: ([] ++ y :: ys.drop (j + 2)))) := HI2.out.below HBP2.out hg2
                  have HBC : Hid (Below (w.heap.size + 1) (w.alloc (.cells #[.slice a lns.length cap, .int .i64 st, .bool sh] 28)) wc) := HBy.out.trans (HBP2.out.mono hzr)
                  have HHC : Hid (Held wc (w.heap.size + 1) (some ⟨g, 0, none⟩) ys) := HHy.out.below HBP2.out (Nat.le_refl _)
                  have cx2 : wc.cell? ⟨g, j, none⟩ = some (.int .i64 x) := by rw [hbp2.cell (by simp only; omega)]; exact cx
                  have cy2 : wc.cell? ⟨g, j + 1, none⟩ = some (.int .i64 y) := by rw [hbp2.cell (by simp only; omega)]; exact cy
                  have fx2 : wc.frozen? ⟨g, j, none⟩ = false := by rw [World.frozen?_of_block (hbp2.block g hg2)]; exact fx
                  have fy2 : wc.frozen? ⟨g, j + 1, none⟩ = false := by rw [World.frozen?_of_block (hbp2.block g hg2)]; exact fy
                  have hgc : g < wc.heap.size := by omega
                  clear hbp2 b0 b1 b2 b0' b1' b2' cx cy cx' cy' fx fy
                  have HW : Hid (Tm.wrong (Tm.classOf lns) x y = decide (Tm.classOf lns y ≠ 0 ∧ Tm.classOf lns y < Tm.classOf lns x)) := rfl
                  generalize Tm.classOf lns x = kx at *
                  generalize Tm.classOf lns y = ky at *
                  by_cases hgt : ky < kx
                  · cases hz : (ky != 0)
                    · have HQ := hide (HON.out (by rw [HW.out]; simp at hz; simp [hz]))
                      go_wp2
                      go_roundw
                      case rel => exact ⟨t, j + 1, ys, rfl, by go_num, by omega, HHC.out, HBC.out, HQ.out⟩
                      case measure => simp [intOf]; omega
                    · have HQ := hide (HSW.out (by rw [HW.out]; simp at hz; simp [hz, hgt]))
                      have HM := hide (HIC.out.swap HLJ.out (j := j + 1) (by rw [← HLJ.out]; rfl))
                      go_wp2
                      go_roundw
                      case rel =>
                        refine ⟨true, j + 1, _, rfl, by go_num, by omega, .inr ⟨g, rfl, hg1, by simpa using hgc, ?_⟩, (HBC.out.setCell (p := ⟨g, j, none⟩) hg1 _).setCell (p := ⟨g, j + 1, none⟩) hg1 _, HQ.out⟩
                        have h := HM.out
                        rw [Nat.zero_add, Nat.zero_add] at h
                        exact h
                      case measure => simp [intOf]; omega
                  · have HQ := hide (HON.out (by rw [HW.out]; simp; omega))
                    go_wp2
                    go_roundw
                    case rel => exact ⟨t, j + 1, ys, rfl, by go_num, by omega, HHC.out, HBC.out, HQ.out⟩
                    case measure => simp [intOf]; omega
            · have HRY : Hid (Reads wr (.slice ao n capo) 1 ys.length (ints ys)) := by
                have h := HHy.out.reads (cap := capo) (by rw [hyn]; exact HCAP.out.1) HCAP.out.2
                rw [hyn] at h ⊢; exact h
              have HLEFT := hide (HPASS.out.left HLX.out (listOf_eq HRY.out))
              have hj9 : (n : Int) ≤ (j : Int) + 1 := by omega
              clear hheld
              go_wp2
              go_roundw
              case rel => exact ⟨t, ys, rfl, hyn, HHy.out, HBy.out, HPASS.out.same, fun h => by subst h; exact HPASS.out.calm (by omega)⟩
              case measure => exact HLEFT.out
    · go_wp2_with fail
      refine (steps_any _ st sh _ l lns _ (HT.out.below HB0.out) (Reads.of_owns HO.out) hl (by omega) HL3.out HNE.out).mono ?_
      rintro e w2 ⟨v2, rfl, hown2, hb2⟩
      have HO2 : Hid (w2.ownsRow (w.heap.size + 1) 3 1 v2 (Tm.stepAll lns l).length (ints (Tm.stepAll lns l))) := owns_mono hown2 (by omega)
      have HB2 : Hid (Below (w.heap.size + 1) (w.alloc (.cells #[.slice a lns.length cap, .int .i64 st, .bool sh] 28)) w2) := HB.out.trans (hb2.mono (by omega))
      have HGO := hide HST.out.go
      have HLESS := hide (HST.out.less (listOf_eq (Reads.of_owns HO.out)) (listOf_eq (Reads.of_owns HO2.out)))
      clear hown2 hb2
      generalize Tm.hasParts lns l = t2 at *
      go_wp2
      go_roundw
      case rel => exact ⟨_, t2, rfl, HO2.out, HB2.out, HGO.out⟩
      case measure => exact HLESS.out
theorem RefNormal_any (vl : Value) (st : Int) (sh : Bool) (s : ByteArray) (lns : List Tm.Ln) (w : World) (ht : TableRd w vl lns) (hfit : ∀ o ∈ lns, Tm.Fit o) (hl : lns.length ≤ 1000000) (hends : ∀ r, Tm.ends lns 4 r = true) (hs : s.size ≤ 64) :
    Calls Tryd.prog 30 #[.agg #[vl, .int .i64 st, .bool sh], .string s] w fun e w' => ∃ v, e = .returned v ∧ Reads w' v 1 (normOf lns s).length (ints (normOf lns s)) ∧ Below w.heap.size w w' :=
  (RefNormal_new vl st sh s lns w ht hfit hl hends hs).mono fun _ _ ⟨v, h1, h2, h3, _⟩ => ⟨v, h1, h2, h3⟩
end Go.Proofs.YtmnjjjhmnhfapaaDoor
