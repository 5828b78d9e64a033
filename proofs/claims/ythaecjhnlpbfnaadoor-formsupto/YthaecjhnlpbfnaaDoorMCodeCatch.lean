import Derived.Defers
import Derived.Recover
import Derived.Test.YthaecjhnlpbfnaaDoorMLawKeepW
import Derived.Test.YthaecjhnlpbfnaaDoorMRefSame
import Derived.Test.YthaecjhnlpbfnaaDoorMCodeArr
import Derived.Test.YthaecjhnlpbfnaaDoorMRefClass
import Derived.Test.YthaecjhnlpbfnaaDoorMCodeNum
import Derived.Test.YthaecjhnlpbfnaaDoorMRefNew
namespace Go.Proofs.YthaecjhnlpbfnaaDoor
open Go.RowKit

/-- The law's book of lists: the rows of numbers, each written full with the mark of its four. -/
structure BookIs (w : World) (bb B : Nat) (vb : Value) (rows : List Value) : Prop where
  lt : bb < w.heap.size
  le : B ≤ bb
  cell : w.cell? ⟨bb, 0, none⟩ = some vb
  free : w.frozen? ⟨bb, 0, none⟩ = false
  nil : ∀ o, o = 1 ∨ o = 2 ∨ o = 3 → w.cell? ⟨bb, o, none⟩ = some (.slice none 0 0)
  row : w.ownsRow B 53 1 vb rows.length rows
  other : ∀ g, vb.ownBlock = some g → g ≠ bb
  four : rows.length % 4 = 0
  marks : ∀ (i : Nat) (u : Value), rows[i]? = some u → ∃ n, n ≤ 100003 ∧ Reads w u 1 n (ints (List.replicate n (-1000 - (i : Int) / 4))) ∧ ∀ g, u.ownBlock = some g → g ≠ bb ∧ vb.ownBlock ≠ some g

/-- Blocks of the book itself. -/
theorem BookIs.stay {w w' : World} {bb B : Nat} {vb : Value} {rows : List Value} (h : BookIs w bb B vb rows) (hb : Below w.heap.size w w') : BookIs w' bb B vb rows := by
  refine ⟨Nat.lt_of_lt_of_le h.lt hb.size, h.le, ?_, ?_, fun o ho => ?_, ownsRow_same h.row (fun g hg => hb.block g (h.row.lt g hg).2), h.other, h.four, fun i u hu => ?_⟩
  · rw [hb.cell (p := ⟨bb, 0, none⟩) h.lt]; exact h.cell
  · rw [World.frozen?_of_block (hb.block bb h.lt)]; exact h.free
  · rw [hb.cell (p := ⟨bb, o, none⟩) h.lt]; exact h.nil o ho
  · obtain ⟨n, h1, h2, h3⟩ := h.marks i u hu
    exact ⟨n, h1, h2.below hb h2.2.1, h3⟩

/-- One list more. -/
theorem BookIs.kept {w0 w w' : World} {bb B : Nat} {vb vb' v v1 v2 v3 : Value} {rows : List Value} {n : Nat} (h : BookIs w0 bb B vb rows) (hb : Below w0.heap.size w0 w) (hk : Kept bb B w0.heap.size vb v rows n (-1000 - ((rows.length : Nat) : Int) / 4) w w' vb' v1 v2 v3) (hn : n ≤ 100000) :
    BookIs w' bb B vb' (rows ++ [v, v1, v2, v3]) := by
  have h1 := h.stay hb
  have hz := hb.size
  have hz' := hk.size
  refine ⟨Nat.lt_of_lt_of_le h1.lt hk.size, h.le, hk.cell, hk.free, fun o ho => ?_, by simpa using hk.row, ?_, by simp; have := h.four; omega, ?_⟩
  · rw [hk.rest o (by omega)]; exact h1.nil o ho
  · intro g hg
    rcases hk.at' g hg with h2 | h2
    · exact h.other g h2
    · have := h.lt; omega
  · intro i u hu
    by_cases hi : i < rows.length
    · rw [List.getElem?_append_left hi] at hu
      obtain ⟨m, m1, m2, m3⟩ := h1.marks i u hu
      obtain ⟨m', _, m2', _⟩ := h.marks i u hu
      refine ⟨m, m1, m2.of_blocks hz' (fun g hg => hk.block g (m2'.2.1 g hg) (m3 g hg).1 (m3 g hg).2), fun g hg => ⟨(m3 g hg).1, fun hv => ?_⟩⟩
      rcases hk.at' g hv with h2 | h2
      · exact (m3 g hg).2 h2
      · have := m2'.2.1 g hg; omega
    · rw [List.getElem?_append_right (by omega)] at hu
      obtain ⟨j, hj⟩ : ∃ j, i - rows.length = j := ⟨_, rfl⟩
      rw [hj] at hu
      have hj4 : j < 4 := by have := (List.getElem?_eq_some_iff.1 hu).1; simpa using this
      have he : (i : Int) / 4 = ((rows.length : Nat) : Int) / 4 := by have := h.four; omega
      rw [he]
      have hfar : ∀ g, u.ownBlock = some g → g ≠ bb ∧ vb'.ownBlock ≠ some g := fun g hg => by
        have h2 := hk.far u (List.mem_of_getElem? hu) g hg
        exact ⟨by have := h.lt; omega, h2.2⟩
      match j, hj4, hu with
      | 0, _, hu => simp at hu; subst hu; exact ⟨n, by omega, hk.r0, hfar⟩
      | 1, _, hu => simp at hu; subst hu; exact ⟨n + 1, by omega, hk.r1, hfar⟩
      | 2, _, hu => simp at hu; subst hu; exact ⟨n + 2, by omega, hk.r2, hfar⟩
      | 3, _, hu => simp at hu; subst hu; exact ⟨n + 3, by omega, hk.r3, hfar⟩
end Go.Proofs.YthaecjhnlpbfnaaDoor
namespace Go.Proofs.YthaecjhnlpbfnaaDoor
open Go.RowKit

set_option maxRecDepth 100000 in
set_option maxHeartbeats 1000000 in
theorem lawSame_any (va vb : Value) (la lb : List Int) (w : World) (ha : Reads w va 1 la.length (ints la)) (hb : Reads w vb 1 lb.length (ints lb)) (hl : la.length ≤ 1000000) (hl' : lb.length ≤ 1000000) :
    Calls Tryd.prog 31 #[va, vb] w fun e w' => e = .returned (.bool (decide (la = lb))) ∧ ∃ n, w' = w.drewN n := by
  by_cases hlen : la.length = lb.length
  · by_cases h0 : la.length = 0
    · obtain ⟨a, cap, rfl⟩ := ha.shape
      obtain ⟨a', cap', rfl⟩ := hb.shape
      have e1 : la = [] := List.eq_nil_of_length_eq_zero h0
      have e2 : lb = [] := List.eq_nil_of_length_eq_zero (by omega)
      subst e1 e2
      clear ha hb hl hl' hlen h0
      go_enter Tryd.func31, Tryd.ntmps31
      go_wp2
      go_loop [5] (fun i => i = .int .i64 0) (fun _ => 0)
      case atStart => rfl
      case round =>
        subst hrel
        go_wp2
        go_ret
        exact ⟨rfl, 0, rfl⟩
    · obtain ⟨g, off, cap, rfl, _, hc⟩ := ha.form (by rw [ints_length]; omega)
      obtain ⟨g', off', cap', rfl, _, hc'⟩ := hb.form (by rw [ints_length]; omega)
      clear ha hb
      generalize hn : la.length = n at *
      have hcells : ∀ k (h : k < la.length), w.cell? ⟨g, off + k, none⟩ = some (.int .i64 la[k]) := fun k h => hc k _ (ints_get h)
      have hcells' : ∀ k (h : k < lb.length), w.cell? ⟨g', off' + k, none⟩ = some (.int .i64 lb[k]) := fun k h => hc' k _ (ints_get h)
      have HN := hide hn
      have HC := hide hcells
      have HC' := hide hcells'
      have HL := hide hlen
      rw [← hlen]
      clear hc hc' hcells hcells' hn hlen hl'
      go_enter Tryd.func31, Tryd.ntmps31
      go_wp2
      go_loopw [5] (fun i wr => ∃ k : Nat, k ≤ n ∧ i = .int .i64 k ∧ sameTo la lb k ∧ ∃ q, wr = w.drewN q) (fun i _ => n - (intOf i).toNat)
      case atStart => exact ⟨0, Nat.zero_le _, rfl, rfl, 0, rfl⟩
      case round =>
        obtain ⟨k, hk, rfl, hsame, q, rfl⟩ := hrel
        by_cases hlt : k < n
        · have hka : k < la.length := by rw [HN.out]; exact hlt
          have hkb : k < lb.length := by rw [← HL.out]; exact hlt
          have c1 := HC.out k hka
          have c2 := HC'.out k hkb
          have i1 : (0 : Int) ≤ (k : Int) := by omega
          have i2 : (k : Int) < (n : Int) := by omega
          have HE : Hid (∀ h : la[k] = lb[k], sameTo la lb (k + 1)) := fun h => sameTo_step hsame hka hkb h
          have HX : Hid (la[k] ≠ lb[k] → la ≠ lb) := fun h h' => h (by subst h'; rfl)
          generalize la[k] = x at *
          generalize lb[k] = y at *
          clear hsame hka hkb
          go_wp2
          go_quiet (fail)
          cases hxy : (x != y)
          · go_wp2
            go_roundw
            case rel => exact ⟨k + 1, by omega, by go_num, HE.out (by simpa using hxy), _, rfl⟩
            case measure => simp [intOf]; omega
          · go_wp2
            go_ret
            exact ⟨ret_bool (by simp [HX.out (by simpa using hxy)]), q + nq, by simp⟩
        · have HE := hide (sameTo_all hsame (by rw [HN.out]; omega) (by rw [← HL.out]; omega))
          clear hsame
          go_wp2
          go_ret
          exact ⟨ret_bool (by simp [HE.out]), q, rfl⟩
  · obtain ⟨a, cap, rfl⟩ := ha.shape
    obtain ⟨a', cap', rfl⟩ := hb.shape
    have hne : ((la.length : Int) != (lb.length : Int)) = true := by rw [bne_iff_ne]; omega
    have HE : Hid (la ≠ lb) := fun h => hlen (by rw [h])
    clear ha hb
    go_enter Tryd.func31, Tryd.ntmps31
    go_wp2
    go_ret
    exact ⟨ret_bool (by simp [HE.out]), 0, rfl⟩
end Go.Proofs.YthaecjhnlpbfnaaDoor
namespace Go.Proofs.YthaecjhnlpbfnaaDoor
open Go.RowKit

theorem next_some {w : World} {r : Nat} {s : ByteArray} {pos : Nat} (hr : w.heap[r]? = some (.stringIter s pos)) (h : pos < s.size) :
    ∃ wn : World, (∀ ty, (Instr.next (.pointer (some ⟨r, 0, none⟩)) true ty).run Tryd.prog w = .ok (.tuple #[.bool true, .int .i64 pos, .int .i32 (Utf8.decode s pos).1]) wn) ∧ wn.heap.size = w.heap.size ∧ wn.heap[r]? = some (.stringIter s (pos + (Utf8.decode s pos).2)) ∧ (∀ k, k ≠ r → wn.heap[k]? = w.heap[k]?) ∧ wn.os = w.os ∧ wn.tape = w.tape ∧ wn.output = w.output := by
  have hlt := (Array.getElem?_eq_some_iff.1 hr).1
  refine ⟨{ w with heap := w.heap.setIfInBounds r (.stringIter s (pos + (Utf8.decode s pos).2)) }, fun ty => ?_, by simp, by simp [hlt], fun k hk => by simp only [Array.getElem?_setIfInBounds]; rw [if_neg (by omega)], rfl, rfl, rfl⟩
  simp only [Instr.next, getObj, setObj, Sem.run_bind, Sem.run, hr, Result.andThen, h, if_true]
  simp [goInt]
theorem next_none {w : World} {r : Nat} {s : ByteArray} {pos : Nat} (hr : w.heap[r]? = some (.stringIter s pos)) (h : ¬ pos < s.size) (ty : TypeId) :
    (Instr.next (.pointer (some ⟨r, 0, none⟩)) true ty).run Tryd.prog w = .ok (.tuple #[.bool false]) w := by
  simp [Instr.next, getObj, Sem.run, hr, h]

theorem flat_all {l m : List Int} {f : Int → List Int} : (l ++ m).flatMap f = l.flatMap f ++ m.flatMap f := List.flatMap_append
theorem expand_range {lns : List Tm.Ln} (hfit : ∀ o ∈ lns, Tm.Fit o) : ∀ (n : Nat) (r : Int), 0 ≤ r ∧ r ≤ 1114111 → ∀ x ∈ Tm.expand lns n r, 0 ≤ x ∧ x ≤ 1114111
  | 0, r, hr, x, hx => by simp [Tm.expand] at hx; subst hx; exact hr
  | n + 1, r, hr, x, hx => by
    rw [Tm.expand] at hx
    split at hx
    · simp at hx; subst hx; exact hr
    · obtain ⟨y, hy, hx⟩ := List.mem_flatMap.1 hx
      exact expand_range hfit n y (parts_range hfit r y hy) x hx
set_option maxRecDepth 100000 in
set_option maxHeartbeats 4000000 in
theorem normalForm_any (lns : List Tm.Ln) (hfit : ∀ o ∈ lns, Tm.Fit o) (hends : ∀ r, Tm.ends lns 4 r = true) (bm : Nat) (s : ByteArray) (w : World) (hs : s.size ≤ 64) (hrd : NodesRd w bm lns) :
    Calls Tryd.prog 46 #[.map (some bm), .string s] w fun e w' => ∃ v, e = .returned v ∧ w'.ownsRow (w.heap.size + 1) 3 1 v (normOf lns s).length (ints (normOf lns s)) ∧ Below w.heap.size w w' := by
  have HRD := hide hrd
  have HFIT := hide hfit
  have HENDS := hide hends
  clear hrd hends
  go_enter Tryd.func46, Tryd.ntmps46
  go_wp2_with fail
  have h0a : (w.iter s 0).heap[w.heap.size]? = some (.stringIter s 0) := World.iter_heap w s 0
  have h0b : Below w.heap.size w (w.iter s 0) := (Below.refl _ _).alloc (Nat.le_refl _) _
  have h0c : w.heap.size + 1 ≤ (w.iter s 0).heap.size := by simp [World.iter]
  have H0 := hide (And.intro h0a (And.intro h0b h0c))
  clear h0a h0b h0c
  have HSH := hide (Tm.flat_short (lns := lns) (fun q => parts_few hfit q) 4)
  go_loopw [5] (fun v wr => ∃ (pos : Nat) (ds : List Int), wr.heap[w.heap.size]? = some (.stringIter s pos) ∧ ds ++ runesFrom s s.size pos = runesOf s ∧ ds.length ≤ pos ∧ wr.ownsRow (w.heap.size + 1) 3 1 v (ds.flatMap (Tm.expand lns 4)).length (ints (ds.flatMap (Tm.expand lns 4))) ∧ Below w.heap.size w wr ∧ w.heap.size + 1 ≤ wr.heap.size) (fun _ wr => s.size - wr.iterPos w.heap.size)
  case atStart => exact ⟨0, [], H0.out.1, rfl, Nat.le_refl _, World.ownsRow_nil _ _ _ _, H0.out.2.1, H0.out.2.2⟩
  case round =>
    obtain ⟨pos, ds, hit, hds, hdl, hown, hb, hz⟩ := hrel
    have HIT := hide hit
    have HDS := hide hds
    have HO := hide hown
    have HB := hide hb
    have HIP : Hid (wr.iterPos w.heap.size = pos) := by unfold Hid World.iterPos; rw [hit]
    by_cases hp : pos < s.size
    · obtain ⟨wn, hnx, hnz, hnr, hno, n1, n2, n3⟩ := next_some hit hp
      have hw := decide_eq_true (p := True) trivial
      have hwd := decode_width s pos hp
      have hmost := decode_most s pos
      have HSTEP := hide (runesFrom_step hp)
      have HBn : Hid (Below w.heap.size w wn) := HB.out.trans ⟨n1, n2, n3, by omega, fun k hk => hno k (by omega)⟩
      have HOn := hide (ownsRow_same (w' := wn) HO.out (fun k hk => hno k (by have := (HO.out.lt k hk).1; omega)))
      have HNR := hide hnr
      have HNB : Hid (NB lns bm (w.heap.size + 1) wn) := ⟨w, HRD.out, HBn.out, by omega⟩
      have hlen : (ds.flatMap (Tm.expand lns 4)).length + 2 ^ 4 ≤ 100000 := by
        have h1 := HSH.out ds
        have h2 : ds.length ≤ 64 := by omega
        have h3 := Nat.mul_le_mul_right (2 ^ 4) h2
        omega
      obtain ⟨x, hx⟩ : ∃ x : Int, ((Utf8.decode s pos).1 : Int) = x := ⟨_, rfl⟩
      have hx0 : 0 ≤ x ∧ x ≤ 1114111 := by omega
      rw [hx] at hnx HSTEP
      generalize (Utf8.decode s pos).2 = wd at *
      clear hit hds hown hb hno n1 n2 n3 hnr hx hmost hw
      go_wp2_with fail
      refine (appendParts_any lns hfit bm (w.heap.size + 1) 4 x _ (ds.flatMap (Tm.expand lns 4)) wn (HENDS.out x) hx0 HNB.out HOn.out (by omega) hlen).mono ?_
      rintro e w3 ⟨v3, rfl, hown3, hb3⟩
      have hz3 := hb3.size
      have e1 : (ds ++ [x]).flatMap (Tm.expand lns 4) = ds.flatMap (Tm.expand lns 4) ++ Tm.expand lns 4 x := by rw [flat_all]; simp
      have HO3 : Hid (w3.ownsRow (w.heap.size + 1) 3 1 v3 ((ds ++ [x]).flatMap (Tm.expand lns 4)).length (ints ((ds ++ [x]).flatMap (Tm.expand lns 4)))) := by unfold Hid; rw [e1]; exact hown3
      have HIT3 : Hid (w3.heap[w.heap.size]? = some (.stringIter s (pos + wd))) := by unfold Hid; rw [hb3.block _ (by omega)]; exact HNR.out
      have HB3 : Hid (Below w.heap.size w w3) := HBn.out.trans (hb3.mono (by omega))
      have HDS3 : Hid (ds ++ [x] ++ runesFrom s s.size (pos + wd) = runesOf s) := by unfold Hid; rw [← HDS.out, HSTEP.out]; simp
      have HIP3 : Hid (w3.iterPos w.heap.size = pos + wd) := by unfold Hid World.iterPos; rw [HIT3.out]
      clear hown3 hb3 e1
      go_wp2
      go_roundw
      case rel => exact ⟨pos + wd, ds ++ [x], HIT3.out, HDS3.out, by simp; omega, HO3.out, HB3.out, by omega⟩
      case measure => rw [HIP3.out, HIP.out]; omega
    · have HE : Hid (ds = runesOf s) := by have h := hds; rw [runesFrom_end (by omega), List.append_nil] at h; exact h
      have hnx := fun ty => next_none hit hp ty
      have HNB : Hid (NB lns bm (w.heap.size + 1) wr) := ⟨w, HRD.out, HB.out, by omega⟩
      obtain ⟨xs, hxs⟩ : ∃ xs, ds.flatMap (Tm.expand lns 4) = xs := ⟨_, rfl⟩
      rw [hxs] at HO
      have HNO : Hid (normOf lns s = Tm.ord (Tm.classOf lns) xs) := by unfold Hid normOf; rw [← HE.out, hxs]
      have HXR : Hid (∀ x ∈ xs, 0 ≤ x ∧ x ≤ 1114111) := fun x hx => by
        rw [← hxs, HE.out] at hx
        obtain ⟨y, hy, hx⟩ := List.mem_flatMap.1 hx
        exact expand_range hfit 4 y (runesFrom_range y hy) x hx
      have hxl : xs.length ≤ 100000 := by
        have h1 := HSH.out ds
        have h2 : ds.length ≤ 64 := by have h := congrArg List.length hds; have h3 := runesFrom_short (s := s) (f := s.size) (pos := 0); simp [runesOf] at h; omega
        have h3 := Nat.mul_le_mul_right (2 ^ 4) h2
        rw [← hxs]; omega
      have hol := HO.out.2
      clear hit hds hown hb hxs
      rcases hol with ⟨hnil, hx0⟩ | ⟨g, cap, cur, hsl, _⟩
      · subst hnil
        have hxe : xs = [] := List.eq_nil_of_length_eq_zero hx0
        subst hxe
        have HN0 : Hid (normOf lns s = []) := HNO.out
        go_wp2_with fail
        refine (arrange_none bm _).mono ?_
        rintro e w3 ⟨rfl, rfl⟩
        go_wp2
        go_ret
        refine ⟨_, rfl, ?_, HB.out⟩
        rw [HN0.out]
        exact World.ownsRow_nil _ _ _ _
      · subst hsl
        go_wp2_with fail
        refine (arrange_any lns hfit bm (w.heap.size + 1) g cap xs _ HXR.out HNB.out HO.out hz hxl).mono ?_
        rintro e w3 ⟨rfl, hown3, hb3⟩
        have HF : Hid (w3.ownsRow (w.heap.size + 1) 3 1 (.slice (some ⟨g, 0, none⟩) xs.length cap) (normOf lns s).length (ints (normOf lns s))) := by unfold Hid; rw [HNO.out, Tm.ord_length]; exact hown3
        have HB3 : Hid (Below w.heap.size w w3) := HB.out.trans (hb3.mono (by omega))
        clear hown3 hb3
        go_wp2
        go_ret
        exact ⟨_, rfl, HF.out, HB3.out⟩

/-- What Normal answers. -/
def normAns (lns : List Tm.Ln) (s : ByteArray) (w : World) (e : Ending) (w' : World) : Prop :=
  if s.size ≤ 64 then ∃ v, e = .returned (.tuple #[v, .int .i64 0]) ∧ w'.ownsRow (w.heap.size + 1) 3 1 v (normOf lns s).length (ints (normOf lns s)) ∧ Below w.heap.size w w' else e = .returned (.tuple #[.slice none 0 0, .int .i64 7]) ∧ w' = w
set_option maxRecDepth 100000 in
theorem isLong_any (s : ByteArray) (w : World) : Calls Tryd.prog 40 #[.string s] w fun e w' => e = .returned (.bool (decide (64 < (s.size : Int)))) ∧ w' = w := by
  go_enter Tryd.func40, Tryd.ntmps40
  go_wp2
  go_ret
  exact ⟨rfl, rfl⟩
set_option maxRecDepth 100000 in
theorem Normal_any (lns : List Tm.Ln) (hfit : ∀ o ∈ lns, Tm.Fit o) (hends : ∀ r, Tm.ends lns 4 r = true) (bc bm : Nat) (s : ByteArray) (w : World) (hc : w.cell? ⟨bc, 0, none⟩ = some (.map (some bm))) (hrd : NodesRd w bm lns) :
    Calls Tryd.prog 29 #[.pointer (some ⟨bc, 0, none⟩), .string s] w fun e w' => normAns lns s w e w' := by
  have HRD := hide hrd
  have HENDS := hide hends
  clear hrd hends
  by_cases hs : s.size ≤ 64
  · have hd : decide (64 < (s.size : Int)) = false := by simp <;> omega
    go_enter Tryd.func29, Tryd.ntmps29
    go_wp2_with fail
    refine (isLong_any s _).mono ?_
    rintro e w0 ⟨rfl, rfl⟩
    rw [hd]
    go_wp2_with fail
    refine (normalForm_any lns hfit HENDS.out bm s _ hs HRD.out).mono ?_
    rintro e w1 ⟨v, rfl, hown, hb⟩
    have HO := hide hown
    have HB := hide hb
    clear hown hb
    go_wp2
    go_ret2
    unfold normAns
    rw [if_pos hs]
    exact ⟨v, rfl, HO.out, HB.out⟩
  · have hd : decide (64 < (s.size : Int)) = true := by simp <;> omega
    go_enter Tryd.func29, Tryd.ntmps29
    go_wp2_with fail
    refine (isLong_any s _).mono ?_
    rintro e w0 ⟨rfl, rfl⟩
    rw [hd]
    go_wp2
    go_ret2
    unfold normAns
    rw [if_neg hs]
    exact ⟨rfl, rfl⟩
end Go.Proofs.YthaecjhnlpbfnaaDoor
namespace Go.Proofs.YthaecjhnlpbfnaaDoor
open Go.RowKit

set_option maxRecDepth 100000 in
set_option maxHeartbeats 1000000 in
theorem catch_panicking (bd c l e : Nat) (vc vl ve : Value) (q n : Int) (w : World) (hcl : ¬ c = l) (hce : ¬ c = e) (hle : ¬ l = e) (hd : ¬ bd = c)
    (hc : w.cell? ⟨c, 0, none⟩ = some vc) (hl : w.cell? ⟨l, 0, none⟩ = some vl) (he : w.cell? ⟨e, 0, none⟩ = some ve) (hcf : w.frozen? ⟨c, 0, none⟩ = false) (hlf : w.frozen? ⟨l, 0, none⟩ = false) (hef : w.frozen? ⟨e, 0, none⟩ = false) (hb : w.cell? ⟨bd, 1, none⟩ = some (.int .i64 n)) :
    CallsD Tryd.prog 67 #[.pointer (some ⟨bd, 0, none⟩), .pointer (some ⟨c, 0, none⟩), .pointer (some ⟨l, 0, none⟩), .pointer (some ⟨e, 0, none⟩)] (.panicking [{ v := .iface 33 (.int .i64 q), recovered := false }]) w fun x u' w' =>
      x = .returned (.tuple #[]) ∧ u' = .panicking [{ v := .iface 33 (.int .i64 q), recovered := true }] ∧ w' = (((w.setCell ⟨c, 0, none⟩ (.pointer none)).setCell ⟨l, 0, none⟩ (.int .i64 n)).setCell ⟨e, 0, none⟩ (.int .i64 1)).setCell ⟨e, 0, none⟩ (.int .i64 q) := by
  have hta : ∀ w : World, (Instr.typeAssert (.iface 33 (.int .i64 q)) 20 33 true).run Tryd.prog w = .ok (.tuple #[.int .i64 q, .bool true]) w := fun w => by kernel_rfl
  have h1 : ¬ l = c := fun h => hcl h.symm
  have h2 : ¬ e = c := fun h => hce h.symm
  have h3 : ¬ e = l := fun h => hle h.symm
  have h4 : ¬ c = bd := fun h => hd h.symm
  refine callsD_of_wpS Tryd.func67 rfl fun c₀ cs hu => ?_
  apply wpS_seq
  apply wpS_region
  simp [wpOpsS, go_sem, recoverD, hu, Tryd.ntmps67, Exit.thenS]
  refine wpS_of_wp ?_
  change Code.wp _ _ _ { tmps := #[.pointer (some ⟨bd, 0, none⟩), .pointer (some ⟨c, 0, none⟩), .pointer (some ⟨l, 0, none⟩), .pointer (some ⟨e, 0, none⟩), .iface 33 (.int .i64 q), undef, undef, .iface 33 (.int .i64 q), undef, undef, undef, undef, undef, undef, undef, undef, undef, undef, undef], defers := [] } w
  go_wp2
  cases c₀
  simp_all [bodyPostS, results, Tryd.results67]

set_option maxRecDepth 100000 in
theorem catch_idle (bd c l e : Addr) (w : World) :
    CallsD Tryd.prog 67 #[.pointer (some bd), .pointer (some c), .pointer (some l), .pointer (some e)] .returning w fun x u' w' => x = .returned (.tuple #[]) ∧ u' = .returning ∧ w' = w := by
  refine callsD_of_wpS Tryd.func67 rfl fun c₀ cs hu => ?_
  apply wpS_seq
  apply wpS_region
  simp [wpOpsS, go_sem, recoverD, hu, Tryd.ntmps67, Exit.thenS]
  refine wpS_of_wp ?_
  change Code.wp _ _ _ { tmps := #[.pointer (some bd), .pointer (some c), .pointer (some l), .pointer (some e), .nilIface, undef, undef, .nilIface, undef, undef, undef, undef, undef, undef, undef, undef, undef, undef, undef], defers := [] } w
  go_wp2
  cases c₀
  simp_all [bodyPostS, results, Tryd.results67]
end Go.Proofs.YthaecjhnlpbfnaaDoor
