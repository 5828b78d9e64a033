import Derived.Deep.RegionHeld3
import Derived.Deep.Upon
import Derived.Test.YtmnjjjhmnhfapaaGreatDoorMKpMem
import Derived.Test.YtmnjjjhmnhfapaaGreatDoorMIxRow
namespace Go.Proofs.YtmnjjjhmnhfapaaGreatDoor
open Go.RowKit

set_option maxRecDepth 100000 in
set_option maxHeartbeats 1000000 in
theorem keepLess_any (lns : List Tm.Ln) (bc bm : Nat) (st : Int) (sh : Bool) (a b : ByteArray) (w : World) (hc : Coll w bc bm st sh lns) (hok : TableOk st lns) (ha : a.size ≤ 64) (hb : b.size ≤ 64) :
    Calls Tryz.prog 64 #[.pointer (some ⟨bc, 0, none⟩), .string a, .string b] w fun e w' => e = .returned (.bool (decide (cmpOf lns st sh a b < 0))) ∧ Below w.heap.size w w' := by
  have HC := hide hc
  have HOK := hide hok
  have hr := cmpOf_range lns st sh a b
  obtain ⟨c, hcd⟩ : ∃ c, cmpOf lns st sh a b = c := ⟨_, rfl⟩
  rw [hcd] at hr ⊢
  have HCD := hide hcd
  clear hc hok hcd
  go_enter Tryz.func64, Tryz.ntmps64
  go_wp2_with fail
  refine (CodeCompare_any lns bc bm st sh a b _ HC.out HOK.out).mono ?_
  rw [if_pos ⟨ha, hb⟩, HCD.out]
  rintro e w1 ⟨rfl, hb1⟩
  have HB1 := hide hb1
  clear hb1 HCD
  rcases hr with rfl | rfl | rfl
  all_goals
    go_wp2
    go_ret
    exact ⟨rfl, HB1.out⟩

set_option maxRecDepth 100000 in
set_option maxHeartbeats 2000000 in
theorem keepSameKey_any {X : Nat} {F S : Nat → Prop} {vf : Value} {bb bx bc bm : Nat} {st : Int} {sh : Bool} {lns : List Tm.Ln} {fs : List Tm.Fact} {s : IxSt} (p q : ByteArray) (w : World) (hB : Bk w X F S vf bb bx bc bm st sh lns fs s) (hp : p.size ≤ 64) (hq : q.size ≤ 64) :
    Calls Tryz.prog 148 #[.pointer (some ⟨bb, 0, none⟩), .string p, .string q] w fun e w' => e = .returned (.bool (decide (cmpOf lns st sh p q = 0))) ∧ Bk w' X F S vf bb bx bc bm st sh lns fs s ∧ Foot (fun i => i = bb) w w' := by
  have HBK := hide hB
  have c0 := hB.c0
  have hl := (hB.from_ bb hB.own).2
  have hr := cmpOf_range lns st sh p q
  obtain ⟨c, hcd⟩ : ∃ c, cmpOf lns st sh p q = c := ⟨_, rfl⟩
  rw [hcd] at hr ⊢
  have HCD := hide hcd
  clear hB hcd
  go_enter Tryz.func148, Tryz.ntmps148
  go_wp2_with fail
  refine (CodeCompare_any lns bc bm st sh p q _ HBK.out.coll HBK.out.ok).mono ?_
  rw [if_pos ⟨hp, hq⟩, HCD.out]
  rintro e w1 ⟨rfl, hb1⟩
  have HBK1 := hide (HBK.out.below hb1)
  have c3 := HBK1.out.c3
  have f3 := HBK1.out.free 3
  have HANS : Hid (Bk (w1.setCell ⟨bb, 3, none⟩ (.bool true)) X F S vf bb bx bc bm st sh lns fs s ∧ Foot (fun i => i = bb) w (w1.setCell ⟨bb, 3, none⟩ (.bool true))) := ⟨HBK1.out.set3, Foot.setCell (S := fun i => i = bb) (p := ⟨bb, 3, none⟩) (Foot.of hb1) (.inl rfl) _⟩
  clear hb1 HCD c0
  rcases hr with rfl | rfl | rfl
  all_goals
    go_wp2
    go_ret
    exact ⟨rfl, HANS.out⟩

/-- The place of what was said of a key, as a number. -/
def findI (c : ByteArray → ByteArray → Int) (fs : List Tm.Fact) (k : ByteArray) : Int := match Tm.findF c fs k with | some i => (i : Int) | none => -1
theorem findI_some {c : ByteArray → ByteArray → Int} {fs : List Tm.Fact} {k : ByteArray} {i : Nat} (hi : i < fs.length) (h : c (fs[i]).1 k = 0) (hn : ∀ j (hj : j < i), c (fs[j]'(by omega)).1 k ≠ 0) : findI c fs k = i := by
  have : Tm.findF c fs k = some i := List.findIdx?_eq_some_iff_getElem.2 ⟨hi, by simpa using h, fun j hj => by simpa using hn j hj⟩
  unfold findI
  rw [this]
theorem findI_none {c : ByteArray → ByteArray → Int} {fs : List Tm.Fact} {k : ByteArray} (hn : ∀ j (hj : j < fs.length), c (fs[j]).1 k ≠ 0) : findI c fs k = -1 := by
  have : Tm.findF c fs k = none := List.findIdx?_eq_none_iff.2 (fun f hf => by
    obtain ⟨j, hj, rfl⟩ := List.mem_iff_getElem.1 hf
    simpa using hn j hj)
  unfold findI
  rw [this]

set_option maxRecDepth 100000 in
set_option maxHeartbeats 4000000 in
theorem keepFind_any {X : Nat} {F S : Nat → Prop} {vf : Value} {bb bx bc bm : Nat} {st : Int} {sh : Bool} {lns : List Tm.Ln} {fs : List Tm.Fact} {s : IxSt} (k : ByteArray) (w : World) (hB : Bk w X F S vf bb bx bc bm st sh lns fs s) (hk : k.size ≤ 64) (hfew : fs.length ≤ 1000000) :
    Calls Tryz.prog 107 #[.pointer (some ⟨bb, 0, none⟩), .string k] w fun e w' => e = .returned (.int .i64 (findI (cmpOf lns st sh) fs k)) ∧ Bk w' X F S vf bb bx bc bm st sh lns fs s ∧ Foot (fun i => i = bb) w w' := by
  have HBK := hide hB
  have HSH := hide hB.short
  obtain ⟨a, cap, rfl⟩ := (Reads.of_owns hB.row).shape
  obtain ⟨n, hn⟩ : ∃ n, fs.length = n := ⟨_, rfl⟩
  rw [hn] at hfew HBK ⊢
  have HN := hide hn
  clear hB hn
  go_enter Tryz.func107, Tryz.ntmps107
  go_wp2_with fail
  go_loopw [5] (fun i wr => ∃ j : Nat, j ≤ n ∧ i = .int .i64 j ∧ Hid (∀ t (ht : t < j) (ht' : t < fs.length), cmpOf lns st sh (fs[t]).1 k ≠ 0) ∧ Hid (Bk wr X F S (.slice a n cap) bb bx bc bm st sh lns fs s) ∧ Hid (Foot (fun i => i = bb) w wr)) (fun i _ => n - (intOf i).toNat)
  case atStart => exact ⟨0, Nat.zero_le _, rfl, (fun t ht => by omega), HBK.out, Foot.refl _ _⟩
  case round =>
    obtain ⟨j, hj, rfl, HNO, HB, HF⟩ := hrel
    have c2 := HB.out.c2
    have hl := (HB.out.from_ bb HB.out.own).2
    by_cases hlt : j < n
    · have hjl : j < fs.length := by rw [HN.out]; exact hlt
      have hrd := Reads.of_owns HB.out.row
      obtain ⟨g, off, rfl, hg, k0, k1, k2⟩ := facts_at hrd hjl
      have hfs := HSH.out fs[j] (List.getElem_mem hjl)
      have HJ : Hid (cmpOf lns st sh (fs[j]).1 k = 0 → findI (cmpOf lns st sh) fs k = j) := fun h => findI_some hjl h (fun t ht => HNO.out t ht (by omega))
      have HJ2 : Hid (cmpOf lns st sh (fs[j]).1 k ≠ 0 → ∀ t (ht : t < j + 1) (ht' : t < fs.length), cmpOf lns st sh (fs[t]).1 k ≠ 0) := fun h t ht ht' => by
        by_cases e : t = j
        · subst e; exact h
        · exact HNO.out t (by omega) ht'
      generalize fs[j] = f at *
      obtain ⟨fk, fv, ft⟩ := f
      simp only at k0 k1 k2 hfs HJ HJ2
      have i1 : (0 : Int) ≤ (j : Int) := by omega
      have i2 : (j : Int) < (n : Int) := by omega
      clear hrd
      go_wp2_with fail
      refine (keepSameKey_any fk k _ HB.out hfs hk).mono ?_
      rintro e w1 ⟨rfl, hb1, hf1⟩
      have HB1 := hide hb1
      have HF1 := hide (HF.out.trans hf1 (fun i hi => .inl hi))
      clear hb1 hf1
      by_cases h0 : cmpOf lns st sh fk k = 0
      · rw [decide_eq_true h0]
        have HJ' := hide (HJ.out h0)
        go_wp2
        go_ret
        exact ⟨ret_int HJ'.out.symm, HB1.out, HF1.out⟩
      · rw [decide_eq_false h0]
        have HJ' := hide (HJ2.out h0)
        go_wp2
        go_roundw
        case rel => exact ⟨j + 1, by omega, by go_num, HJ'.out, HB1.out, HF1.out⟩
        case measure => simp [intOf]; omega
    · have HNN : Hid (findI (cmpOf lns st sh) fs k = -1) := findI_none (fun t ht => HNO.out t (by rw [HN.out] at ht; omega) ht)
      go_wp2
      go_ret
      exact ⟨ret_int HNN.out.symm, HB.out, HF.out⟩

/-- How many of the first ones are there. -/
def hereTo (fs : List Tm.Fact) (j : Nat) : Nat := Tm.hereF (fs.take j)
theorem hereTo_step {fs : List Tm.Fact} {j : Nat} (hj : j < fs.length) : hereTo fs (j + 1) = hereTo fs j + (if (fs[j]).2.2 then 1 else 0) := by
  unfold hereTo Tm.hereF
  rw [List.take_add_one, List.getElem?_eq_getElem hj, List.filter_append, List.length_append]
  cases h : (fs[j]).2.2 <;> simp [h]
theorem hereTo_le (fs : List Tm.Fact) (j : Nat) : hereTo fs j ≤ j := by
  unfold hereTo Tm.hereF
  have := List.length_filter_le (fun f : Tm.Fact => f.2.2) (fs.take j)
  simp at this; omega
set_option maxRecDepth 100000 in
set_option maxHeartbeats 4000000 in
theorem keepHere_any {X : Nat} {F S : Nat → Prop} {vf : Value} {bb bx bc bm : Nat} {st : Int} {sh : Bool} {lns : List Tm.Ln} {fs : List Tm.Fact} {s : IxSt} (w : World) (hB : Bk w X F S vf bb bx bc bm st sh lns fs s) (hfew : fs.length ≤ 1000000) :
    Calls Tryz.prog 30 #[.pointer (some ⟨bb, 0, none⟩)] w fun e w' => e = .returned (.int .i64 (Tm.hereF fs : Nat)) ∧ w' = w := by
  obtain ⟨a, cap, rfl⟩ := (Reads.of_owns hB.row).shape
  have hrd := Reads.of_owns hB.row
  have c2 := hB.c2
  have hl := (hB.from_ bb hB.own).2
  obtain ⟨n, hn⟩ : ∃ n, fs.length = n := ⟨_, rfl⟩
  rw [hn] at hfew c2
  have HRD := hide hrd
  rw [hn] at HRD
  have HN := hide hn
  have HH : Hid (hereTo fs n = Tm.hereF fs) := by unfold Hid hereTo; rw [← hn, List.take_length]
  clear hB hrd hn
  go_enter Tryz.func30, Tryz.ntmps30
  go_wp2_with fail
  go_loopw [3, 4] (fun x i wr => ∃ j : Nat, j ≤ n ∧ i = .int .i64 j ∧ x = .int .i64 (hereTo fs j : Nat) ∧ wr = w) (fun _ i _ => n - (intOf i).toNat)
  case atStart => exact ⟨0, Nat.zero_le _, rfl, rfl, rfl⟩
  case round =>
    obtain ⟨j, hj, rfl, rfl, rfl⟩ := hrel
    have hle := hereTo_le fs j
    by_cases hlt : j < n
    · have hjl : j < fs.length := by rw [HN.out]; exact hlt
      obtain ⟨g, off, rfl, hg, k0, k1, k2⟩ := facts_at (fs := fs) (by rw [HN.out]; exact HRD.out) hjl
      have HST := hide (hereTo_step hjl)
      generalize fs[j] = f at *
      obtain ⟨fk, fv, ft⟩ := f
      simp only at k0 k1 k2 HST
      have i1 : (0 : Int) ≤ (j : Int) := by omega
      have i2 : (j : Int) < (n : Int) := by omega
      cases ft
      · go_wp2
        go_roundw
        case rel => exact ⟨j + 1, by omega, by go_num, by rw [HST.out]; simp, by first | rfl | trivial⟩
        case measure => simp [intOf]; omega
      · go_wp2
        go_roundw
        case rel => exact ⟨j + 1, by omega, by go_num, by rw [HST.out]; simp, by first | rfl | trivial⟩
        case measure => simp [intOf]; omega
    · have e : j = n := by omega
      subst e
      go_wp2
      go_ret
      exact ⟨by rw [HH.out]; rfl, rfl⟩
end Go.Proofs.YtmnjjjhmnhfapaaGreatDoor
namespace Go.Proofs.YtmnjjjhmnhfapaaGreatDoor
open Go.RowKit

theorem facts_own {w : World} {X : Nat} {vf : Value} {fs : List Tm.Fact} (h : w.ownsRow X 127 3 vf fs.length (factCells fs)) {k : Nat} (hk : k < fs.length) :
    ∃ g cap, vf = .slice (some ⟨g, 0, none⟩) fs.length cap ∧ g < w.heap.size ∧ w.cell? ⟨g, k * 3, none⟩ = some (.string fs[k].1) ∧ w.cell? ⟨g, k * 3 + 1, none⟩ = some (.string fs[k].2.1) ∧ w.cell? ⟨g, k * 3 + 2, none⟩ = some (.bool fs[k].2.2) ∧ ∀ o, w.frozen? ⟨g, o, none⟩ = false := by
  have hrd := Reads.of_owns h
  rcases h.2 with ⟨h1, h2⟩ | ⟨g, cap, cur, h1, hb, hg, _⟩
  · omega
  · subst h1
    obtain ⟨g', off, he, hlt, k0, k1, k2⟩ := facts_at hrd hk
    cases he
    rw [Nat.zero_add] at k0 k1 k2
    exact ⟨g, cap, rfl, hlt, k0, k1, k2, fun o => by simp [World.frozen?, hg]⟩
/-- A step of a book. -/
def BkStep (w w' : World) (X : Nat) (F : Nat → Prop) (bb bx bc bm : Nat) (st : Int) (sh : Bool) (lns : List Tm.Ln) (fs' : List Tm.Fact) (s' : IxSt) : Prop :=
  ∃ (F' S' : Nat → Prop) (vf' : Value), Bk w' X F' S' vf' bb bx bc bm st sh lns fs' s' ∧ Foot F w w' ∧ ∀ i, F' i → F i ∨ w.heap.size ≤ i
theorem Bk.refl {w : World} {X : Nat} {F S : Nat → Prop} {vf : Value} {bb bx bc bm : Nat} {st : Int} {sh : Bool} {lns : List Tm.Ln} {fs : List Tm.Fact} {s : IxSt} (h : Bk w X F S vf bb bx bc bm st sh lns fs s) : BkStep w w X F bb bx bc bm st sh lns fs s := ⟨F, S, vf, h, Foot.refl _ _, fun _ hi => .inl hi⟩
theorem BkStep.trans {u v w : World} {X : Nat} {F F1 : Nat → Prop} {bb bx bc bm : Nat} {st : Int} {sh : Bool} {lns : List Tm.Ln} {fs : List Tm.Fact} {s : IxSt} (h1 : Foot F u v) (h2 : ∀ i, F1 i → F i ∨ u.heap.size ≤ i) (h3 : BkStep v w X F1 bb bx bc bm st sh lns fs s) : BkStep u w X F bb bx bc bm st sh lns fs s := by
  obtain ⟨F', S', vf', hB, hf, hi⟩ := h3
  refine ⟨F', S', vf', hB, h1.trans hf h2, fun i hi' => ?_⟩
  rcases hi i hi' with e | e
  · exact h2 i e
  · exact .inr (by have := h1.size; omega)
theorem Tryz.infoFact : (Tryz.prog.info? 127).map (fun i => (i.zero, i.size, i.bytes)) = some (some (.agg #[.string ⟨#[]⟩, .string ⟨#[]⟩, .bool false]), 3, 40) := by kernel_rfl

theorem putErr_short {c : ByteArray → ByteArray → Int} {s : IxSt} {k v : ByteArray} (hk : k.size ≤ 64) (hv : v.size ≤ 64) : putErr c s k v = if Tm.ixHas c (nowOf s) k = false ∧ 64 ≤ (nowOf s).length then 8 else 0 := by
  unfold putErr; rw [if_neg (by omega)]

set_option maxRecDepth 100000 in
set_option maxHeartbeats 8000000 in
theorem keepPut_any {X : Nat} {F S : Nat → Prop} {vf : Value} {bb bx bc bm : Nat} {st : Int} {sh : Bool} {lns : List Tm.Ln} {fs : List Tm.Fact} {s : IxSt} (k0 v0 : ByteArray) (w : World) (hB : Bk w X F S vf bb bx bc bm st sh lns fs s) (hfo : Tm.FactsOk (cmpOf lns st sh) fs (nowOf s)) (hfew : fs.length ≤ 1000) :
    Calls Tryz.prog 60 #[.pointer (some ⟨bb, 0, none⟩), .agg #[.string k0, .string v0]] w fun e w' => e = .returned (.tuple #[]) ∧ ∃ fs', BkStep w w' X F bb bx bc bm st sh lns fs' (putSt (cmpOf lns st sh) s (cutB k0) (cutB v0)) ∧ Tm.FactsOk (cmpOf lns st sh) fs' (nowOf (putSt (cmpOf lns st sh) s (cutB k0) (cutB v0))) ∧ fs'.length ≤ fs.length + 1 := by
  have hT := told_cmpOf lns st sh
  have hRS := hB.ix.rises
  have HBK := hide hB
  have HFO := hide hfo
  have HHE := hide (hfo.here hT hRS)
  have hk64 := cutB_size k0
  have hv64 := cutB_size v0
  have HHAS := hide (hfo.has hT (cutB k0))
  have HPE := hide (putErr_short (c := cmpOf lns st sh) (s := s) hk64 hv64)
  have HPS := hide (@nowOf_put (cmpOf lns st sh) s (cutB k0) (cutB v0))
  have HPN := hide (@putSt_no (cmpOf lns st sh) s (cutB k0) (cutB v0))
  have HAT := hide (fun i (h : Tm.findF (cmpOf lns st sh) fs (cutB k0) = some i) => hfo.putAt hT (v := cutB v0) h hk64)
  have HNEW := hide (fun (h : Tm.findF (cmpOf lns st sh) fs (cutB k0) = none) => hfo.putNew (v := cutB v0) h hk64)
  have HB0 : Hid (Bk (w.alloc (.cells #[.string k0, .string v0] 67)) X F S vf bb bx bc bm st sh lns fs s) := hB.below ((Below.refl _ _).alloc (Nat.le_refl _) _)
  have c1 := HB0.out.c1
  have hl := (hB.from_ bb hB.own).2
  clear hB hfo hRS
  go_enter Tryz.func60, Tryz.ntmps60
  go_wp2_with fail
  refine (cut_any k0 _).mono ?_
  rintro e w0 ⟨rfl, rfl⟩
  go_wp2_with fail
  refine (cut_any v0 _).mono ?_
  rintro e w0 ⟨rfl, rfl⟩
  obtain ⟨k, hkd⟩ : ∃ k, cutB k0 = k := ⟨_, rfl⟩
  obtain ⟨v, hvd⟩ : ∃ v, cutB v0 = v := ⟨_, rfl⟩
  have HKD : Hid (cutB k0 = k) := hkd
  have HVD : Hid (cutB v0 = v) := hvd
  rw [hkd] at HHAS HPE HPS HPN HAT HNEW hk64 ⊢
  rw [hvd] at HPE HPS HPN HAT HNEW hv64 ⊢
  clear hkd hvd
  go_wp2_with fail
  refine (IxPut_any lns bc bm st sh X S bx s k v _ HB0.out.coll HB0.out.ok HB0.out.ix HB0.out.size).mono ?_
  rintro e w1 ⟨rfl, hstep⟩
  obtain ⟨F1, S1, hB1, hf1, hs1⟩ := HB0.out.step hstep
  have HB1 := hide hB1
  have HF1 : Hid (Foot F w w1) := (((Foot.refl F w).alloc _).trans hf1 (fun i hi => .inl hi))
  have HS1 : Hid (∀ i, F1 i → F i ∨ w.heap.size ≤ i) := fun i hi => by
    rcases hs1 i hi with e | e
    · exact .inl e
    · exact .inr (by simp at e; omega)
  clear hB1 hf1 hs1 hstep c1
  go_wp2_with fail
  refine (keepFind_any k _ HB1.out hk64 (by omega)).mono ?_
  rintro e w2 ⟨rfl, hB2, hf2⟩
  have HB2 := hide hB2
  have HF2 : Hid (Foot F w w2) := HF1.out.trans hf2 (fun i hi => HS1.out i (by rw [hi]; exact HB1.out.own))
  clear hB2 hf2
  go_wp2_with fail
  refine (keepHere_any _ HB2.out (by omega)).mono ?_
  rintro e w9 ⟨rfl, h9⟩
  have h9 := h9.symm
  subst h9
  rw [HHE.out]
  have hl2 := (HB2.out.from_ bb HB2.out.own).2
  have c2 := HB2.out.c2
  have c3 := HB2.out.c3
  have f3 := HB2.out.free 3
  have f2 := HB2.out.free 2
  have HB3 := hide HB2.out.set3
  have HF3 : Hid (Foot F w (w2.setCell ⟨bb, 3, none⟩ (.bool true))) := Foot.setCell (p := ⟨bb, 3, none⟩) HF2.out (HS1.out bb HB2.out.own) _
  have hl9 : 64 ≤ (nowOf s).length ∨ (nowOf s).length < 64 := by omega
  obtain ⟨N, hN⟩ : ∃ N, (nowOf s).length = N := ⟨_, rfl⟩
  rw [hN] at HPE HHE hl9 ⊢
  clear hN
  cases hff : Tm.findF (cmpOf lns st sh) fs k with
  | none =>
    have hfi : findI (cmpOf lns st sh) fs k = -1 := by unfold findI; rw [hff]
    rw [hff] at HHAS
    simp only at HHAS
    have HNEW' := hide (HNEW.out hff)
    rw [hfi]
    rcases hl9 with hfull | hfree
    · have hpe : putErr (cmpOf lns st sh) s k v = 8 := by rw [HPE.out, if_pos ⟨HHAS.out, hfull⟩]
      have HANS : Hid (∃ fs', BkStep w (w2.setCell ⟨bb, 3, none⟩ (.bool true)) X F bb bx bc bm st sh lns fs' (putSt (cmpOf lns st sh) s k v) ∧ Tm.FactsOk (cmpOf lns st sh) fs' (nowOf (putSt (cmpOf lns st sh) s k v)) ∧ fs'.length ≤ fs.length + 1) := by
        refine ⟨fs, ⟨F1, S1, _, HB3.out, HF3.out, HS1.out⟩, ?_, by omega⟩
        rw [HPN.out (by rw [hpe]; omega)]
        exact HFO.out
      rw [hpe]
      have i1 : (64 : Int) ≤ (N : Int) := by omega
      go_wp2
      refine bodyPost_ret (results_none rfl _ _ _) rfl ?_
      exact ⟨rfl, by rw [HKD.out, HVD.out]; exact HANS.out⟩
    · have hpe : putErr (cmpOf lns st sh) s k v = 0 := by rw [HPE.out, if_neg (by omega)]
      rw [hpe]
      have i1 : ¬ (64 : Int) ≤ (N : Int) := by omega
      have hps := HPS.out hpe
      have HPS' := hide hps
      obtain ⟨i0, hi0, hz0, hzs, hzb⟩ := info_parts Tryz.infoFact
      obtain ⟨a, cap, rfl⟩ := (Reads.of_owns HB2.out.row).shape
      have HW : Hid (∀ v' w4, w4.ownsRow X 127 3 v' (fs.length + 1) (factCells fs ++ [.string ⟨#[]⟩, .string ⟨#[]⟩, .bool false]) → ((w2.setCell ⟨bb, 3, none⟩ (.bool true)).alloc (.cells #[.string ⟨#[]⟩, .string ⟨#[]⟩, .bool false] 127)).grownBy w4 (Value.slice a fs.length cap).ownBlock → (v'.ownBlock = (Value.slice a fs.length cap).ownBlock ∨ v'.ownBlock = some ((w2.setCell ⟨bb, 3, none⟩ (.bool true)).alloc (.cells #[.string ⟨#[]⟩, .string ⟨#[]⟩, .bool false] 127)).heap.size) →
          w4.cell? ⟨bb, 2, none⟩ = some (.slice a fs.length cap) ∧ w4.frozen? ⟨bb, 2, none⟩ = false ∧ bb < w4.heap.size ∧ ∃ g cap4, v' = .slice (some ⟨g, 0, none⟩) (fs.length + 1) cap4 ∧ g < (w4.setCell ⟨bb, 2, none⟩ v').heap.size ∧ (w4.setCell ⟨bb, 2, none⟩ v').cell? ⟨bb, 2, none⟩ = some v' ∧ (w4.setCell ⟨bb, 2, none⟩ v').cell? ⟨g, fs.length * 3, none⟩ = some (.string ⟨#[]⟩) ∧ (w4.setCell ⟨bb, 2, none⟩ v').cell? ⟨g, fs.length * 3 + 1, none⟩ = some (.string ⟨#[]⟩) ∧ (w4.setCell ⟨bb, 2, none⟩ v').cell? ⟨g, fs.length * 3 + 2, none⟩ = some (.bool false) ∧ (∀ o, (w4.setCell ⟨bb, 2, none⟩ v').frozen? ⟨g, o, none⟩ = false) ∧
          ∃ fs', BkStep w ((((w4.setCell ⟨bb, 2, none⟩ v').setCell ⟨g, fs.length * 3, none⟩ (.string k)).setCell ⟨g, fs.length * 3 + 1, none⟩ (.string v)).setCell ⟨g, fs.length * 3 + 2, none⟩ (.bool true)) X F bb bx bc bm st sh lns fs' (putSt (cmpOf lns st sh) s k v) ∧ Tm.FactsOk (cmpOf lns st sh) fs' (nowOf (putSt (cmpOf lns st sh) s k v)) ∧ fs'.length ≤ fs.length + 1) := by
        intro v' w4 hown hgr hat
        have hlb := (HB3.out.from_ bb HB3.out.own).2
        have hz4 : (w2.setCell ⟨bb, 3, none⟩ (.bool true)).heap.size + 1 ≤ w4.heap.size := by have := hgr.size; simpa using this
        have hnb : (Value.slice a fs.length cap).ownBlock ≠ some bb := fun e => (HB3.out.rowF bb e).2.1 rfl
        have hbk : w4.heap[bb]? = (w2.setCell ⟨bb, 3, none⟩ (.bool true)).heap[bb]? := by rw [hgr.block bb (by simp; simpa using Nat.lt_succ_of_lt hlb) (fun e => hnb e.symm), Below.heap_alloc _ _ _ hlb]
        obtain ⟨F4, hB4, hf4, hi4⟩ := HB3.out.grow (f := (⟨#[]⟩, ⟨#[]⟩, false)) (by decide) hown hgr hat
        have hlen : (fs ++ [((⟨#[]⟩, ⟨#[]⟩, false) : Tm.Fact)]).length = fs.length + 1 := by simp
        obtain ⟨g, cap4, hv4, hg, y0, y1, y2, fz⟩ := facts_own hB4.row (k := fs.length) (by rw [hlen]; omega)
        rw [hlen] at hv4
        subst hv4
        simp only [List.getElem_concat_length] at y0 y1 y2
        obtain ⟨hB5, hf5⟩ := hB4.setFact (k := fs.length) (by rw [hlen]; omega) (k, v, true) hk64
        refine ⟨by rw [World.cell?_of_block (a := ⟨bb, 2, none⟩) hbk]; exact HB3.out.c2, by rw [World.frozen?_of_block (a := ⟨bb, 2, none⟩) hbk]; exact HB3.out.free 2, by omega, g, cap4, rfl, hg, hB4.c2, y0, y1, y2, fz, fs ++ [(k, v, true)], ?_, ?_, by simp⟩
        · refine ⟨F4, S1, .slice (some ⟨g, 0, none⟩) (fs.length + 1) cap4, ?_, (HF3.out.trans hf4 (fun i hi => HS1.out i hi)).trans hf5 (fun i hi => ?_), fun i hi => ?_⟩
          · have e1 : (fs ++ [((⟨#[]⟩, ⟨#[]⟩, false) : Tm.Fact)]).set fs.length (k, v, true) = fs ++ [(k, v, true)] := by simp
            rw [← e1]
            exact hB5
          · rcases hi4 i hi with e | e
            · exact HS1.out i e
            · exact .inr (by have := HF3.out.size; omega)
          · rcases hi4 i hi with e | e
            · exact HS1.out i e
            · exact .inr (by have := HF3.out.size; omega)
        · rw [HPS'.out]
          exact HNEW'.out
      have HR3 := hide HB3.out.row
      have hX3 : X ≤ (w2.setCell ⟨bb, 3, none⟩ (.bool true)).heap.size := HB3.out.size
      have c23 := HB3.out.c2
      have hX2 : X ≤ w2.heap.size := HB2.out.size
      have hl3 := (HB3.out.from_ bb HB3.out.own).2
      go_wp2_with (at_builtin; go_must (refine wpList_append_row rfl _ _ 57 57 rfl X 127 127 i0 (.agg #[.string ⟨#[]⟩, .string ⟨#[]⟩, .bool false]) 3 40 Tryz.underlying57 Tryz.underlying57 hi0 hz0 hzs hzb rfl (by omega) _ _ _ rfl (HR3.out.alloc _) ⟨w2.heap.size, 0, none⟩ 1 1 [.string ⟨#[]⟩, .string ⟨#[]⟩, .bool false] rfl rfl (news_three (by simp)) (by intro u hu; simp at hu; rcases hu with rfl | rfl <;> rfl) (by unfold maxLen; omega) (by omega) (by simp; omega) ?_))
      intro v' w4 hown hgr hat
      obtain ⟨c24, f24, hl4, g, cap4, rfl, hg4, d2, y0, y1, y2, fz, hans⟩ := HW.out v' w4 hown hgr (by simpa using hat)
      have HANS := hide hans
      have z0 := fz (fs.length * 3)
      have z1 := fz (fs.length * 3 + 1)
      have z2 := fz (fs.length * 3 + 2)
      clear hown hgr hat hans fz
      go_wp2
      go_end0
      exact ⟨rfl, by rw [HKD.out, HVD.out]; exact HANS.out⟩
  | some i =>
    have hfi : findI (cmpOf lns st sh) fs k = (i : Int) := by unfold findI; rw [hff]
    obtain ⟨hi, _⟩ := Tm.findF_some hff
    rw [hff] at HHAS
    simp only [List.getElem?_eq_getElem hi, Option.map_some, Option.getD_some] at HHAS
    rw [hfi]
    have HAT' := hide (HAT.out i hff)
    obtain ⟨g, cap, rfl, hg, x0, x1, x2, fz⟩ := facts_own HB2.out.row hi
    obtain ⟨g', cap', hv3, hg3, y0, y1, y2, fz3⟩ := facts_own HB3.out.row hi
    cases hv3
    have c23 := HB3.out.c2
    have hl3 := (HB3.out.from_ bb HB3.out.own).2
    have z0 := fz3 (i * 3)
    have z1 := fz3 (i * 3 + 1)
    have z2 := fz3 (i * 3 + 2)
    have HOK : Hid (putErr (cmpOf lns st sh) s k v = 0 → ∃ fs', BkStep w ((((w2.setCell ⟨bb, 3, none⟩ (.bool true)).setCell ⟨g, i * 3, none⟩ (.string k)).setCell ⟨g, i * 3 + 1, none⟩ (.string v)).setCell ⟨g, i * 3 + 2, none⟩ (.bool true)) X F bb bx bc bm st sh lns fs' (putSt (cmpOf lns st sh) s k v) ∧ Tm.FactsOk (cmpOf lns st sh) fs' (nowOf (putSt (cmpOf lns st sh) s k v)) ∧ fs'.length ≤ fs.length + 1) := fun hpe => by
      obtain ⟨hB5, hf5⟩ := HB3.out.setFact hi (k, v, true) hk64
      refine ⟨fs.set i (k, v, true), ⟨F1, S1, _, hB5, HF3.out.trans hf5 (fun i hi => HS1.out i hi), HS1.out⟩, ?_, by simp⟩
      rw [HPS.out hpe]
      exact HAT'.out
    have j1 : (0 : Int) ≤ (i : Int) := by omega
    have j2 : (i : Int) < (fs.length : Int) := by omega
    have j3 : ¬ (i : Int) < 0 := by omega
    generalize fs[i] = f at *
    obtain ⟨fk, fv, ft⟩ := f
    simp only at x0 x1 x2 y0 y1 y2 HHAS
    clear fz fz3
    cases ft
    · rcases hl9 with hfull | hfree
      · have hpe : putErr (cmpOf lns st sh) s k v = 8 := by rw [HPE.out, if_pos ⟨HHAS.out, hfull⟩]
        have HANS : Hid (∃ fs', BkStep w (w2.setCell ⟨bb, 3, none⟩ (.bool true)) X F bb bx bc bm st sh lns fs' (putSt (cmpOf lns st sh) s k v) ∧ Tm.FactsOk (cmpOf lns st sh) fs' (nowOf (putSt (cmpOf lns st sh) s k v)) ∧ fs'.length ≤ fs.length + 1) := by
          refine ⟨fs, ⟨F1, S1, _, HB3.out, HF3.out, HS1.out⟩, ?_, by omega⟩
          rw [HPN.out (by rw [hpe]; omega)]
          exact HFO.out
        rw [hpe]
        have i1 : (64 : Int) ≤ (N : Int) := by omega
        go_wp2
        refine bodyPost_ret (results_none rfl _ _ _) rfl ?_
        exact ⟨rfl, by rw [HKD.out, HVD.out]; exact HANS.out⟩
      · have hpe : putErr (cmpOf lns st sh) s k v = 0 := by rw [HPE.out, if_neg (by omega)]
        have HANS := hide (HOK.out hpe)
        rw [hpe]
        have i1 : ¬ (64 : Int) ≤ (N : Int) := by omega
        go_wp2
        go_end0
        exact ⟨rfl, by rw [HKD.out, HVD.out]; exact HANS.out⟩
    · have hpe : putErr (cmpOf lns st sh) s k v = 0 := by rw [HPE.out, if_neg (fun e => by rw [HHAS.out] at e; cases e.1)]
      have HANS := hide (HOK.out hpe)
      rw [hpe]
      rcases hl9 with hfull | hfree
      · have i1 : (64 : Int) ≤ (N : Int) := by omega
        go_wp2
        go_end0
        exact ⟨rfl, by rw [HKD.out, HVD.out]; exact HANS.out⟩
      · have i1 : ¬ (64 : Int) ≤ (N : Int) := by omega
        go_wp2
        go_end0
        exact ⟨rfl, by rw [HKD.out, HVD.out]; exact HANS.out⟩
end Go.Proofs.YtmnjjjhmnhfapaaGreatDoor
namespace Go.Proofs.YtmnjjjhmnhfapaaGreatDoor
open Go.RowKit

theorem factCells_gone (fs : List Tm.Fact) (k : Nat) (hk : k < fs.length) : (factCells fs).set (k * 3 + 2) (.bool false) = factCells (fs.set k (fs[k].1, fs[k].2.1, false)) := by
  rw [← factCells_set fs k hk]
  have hr := rows_get (fun f : Tm.Fact => [Value.string f.1, Value.string f.2.1, Value.bool f.2.2]) 3 (fun _ => rfl) fs k hk
  have h0 : (factCells fs)[k * 3]? = some (.string fs[k].1) := hr 0 (by omega)
  have h1 : (factCells fs)[k * 3 + 1]? = some (.string fs[k].2.1) := hr 1 (by omega)
  have e0 : (factCells fs).set (k * 3) (.string fs[k].1) = factCells fs := by
    obtain ⟨hl, he⟩ := List.getElem?_eq_some_iff.1 h0
    rw [← he]; exact List.set_getElem_self hl
  have e1 : (factCells fs).set (k * 3 + 1) (.string fs[k].2.1) = factCells fs := by
    obtain ⟨hl, he⟩ := List.getElem?_eq_some_iff.1 h1
    rw [← he]; exact List.set_getElem_self hl
  simp only
  rw [e0, e1]
/-- A fact is gone. -/
theorem Bk.setGone {w : World} {X : Nat} {F S : Nat → Prop} {g n cap bb bx bc bm : Nat} {st : Int} {sh : Bool} {lns : List Tm.Ln} {fs : List Tm.Fact} {s : IxSt} (h : Bk w X F S (.slice (some ⟨g, 0, none⟩) n cap) bb bx bc bm st sh lns fs s) {k : Nat} (hk : k < fs.length) :
    Bk (w.setCell ⟨g, k * 3 + 2, none⟩ (.bool false)) X F S (.slice (some ⟨g, 0, none⟩) n cap) bb bx bc bm st sh lns (fs.set k (fs[k].1, fs[k].2.1, false)) s ∧ Foot F w (w.setCell ⟨g, k * 3 + 2, none⟩ (.bool false)) := by
  obtain ⟨hg1, hg2, hg3⟩ := h.rowF g rfl
  have hf : Foot (fun i => i = g) w (w.setCell ⟨g, k * 3 + 2, none⟩ (.bool false)) := Foot.setCell (p := ⟨g, k * 3 + 2, none⟩) (Foot.refl (fun i => i = g) w) (.inl rfl) _
  have hl := (h.from_ bb h.own).2
  obtain ⟨W, hW, hC, hb⟩ := h.base
  have hn : n = fs.length := ((Reads.of_owns h.row).fits).1
  have hown : (w.setCell ⟨g, k * 3 + 2, none⟩ (.bool false)).ownsRow X 127 3 (.slice (some ⟨g, 0, none⟩) n cap) (fs.set k (fs[k].1, fs[k].2.1, false)).length (factCells (fs.set k (fs[k].1, fs[k].2.1, false))) := by
    rw [← factCells_gone fs k hk, List.length_set]
    have := h.row
    subst hn
    exact owns_setAt this _ _
  refine ⟨⟨⟨W, hW, hC, hb.trans (hf.below (fun i hi => by subst hi; exact (h.from_ i hg1).1) h.size)⟩, h.ok, h.ix.foot hf (fun i hi e => hg3 (e ▸ hi)), h.sub, fun i hi => ⟨(h.from_ i hi).1, Nat.lt_of_lt_of_le (h.from_ i hi).2 hf.size⟩, h.own, h.away,
    by rw [hf.cell (p := ⟨bb, 0, none⟩) hl (fun e => hg2 e.symm)]; exact h.c0, by rw [hf.cell (p := ⟨bb, 1, none⟩) hl (fun e => hg2 e.symm)]; exact h.c1, by rw [hf.cell (p := ⟨bb, 2, none⟩) hl (fun e => hg2 e.symm)]; exact h.c2, by rw [hf.cell (p := ⟨bb, 3, none⟩) hl (fun e => hg2 e.symm)]; exact h.c3,
    fun o => by rw [hf.frozen (p := ⟨bb, o, none⟩) hl (fun e => hg2 e.symm)]; exact h.free o, hown, h.rowF, fun f' hf' => ?_⟩, hf.mono (fun i hi => hi ▸ hg1)⟩
  rcases List.mem_or_eq_of_mem_set hf' with e | e
  · exact h.short f' e
  · rw [e]; exact h.short fs[k] (List.getElem_mem hk)

set_option maxRecDepth 100000 in
set_option maxHeartbeats 8000000 in
theorem keepDrop_any {X : Nat} {F S : Nat → Prop} {vf : Value} {bb bx bc bm : Nat} {st : Int} {sh : Bool} {lns : List Tm.Ln} {fs : List Tm.Fact} {s : IxSt} (k0 : ByteArray) (w : World) (hB : Bk w X F S vf bb bx bc bm st sh lns fs s) (hfo : Tm.FactsOk (cmpOf lns st sh) fs (nowOf s)) (hfew : fs.length ≤ 1000) :
    Calls Tryz.prog 59 #[.pointer (some ⟨bb, 0, none⟩), .string k0] w fun e w' => e = .returned (.tuple #[]) ∧ ∃ fs', BkStep w w' X F bb bx bc bm st sh lns fs' (dropSt (cmpOf lns st sh) s (cutB k0)) ∧ Tm.FactsOk (cmpOf lns st sh) fs' (nowOf (dropSt (cmpOf lns st sh) s (cutB k0))) ∧ fs'.length ≤ fs.length + 1 := by
  have hT := told_cmpOf lns st sh
  have HBK := hide hB
  have HFO := hide hfo
  have hk64 := cutB_size k0
  have HHAS := hide (hfo.has hT (cutB k0))
  have HDS := hide (nowOf_drop (c := cmpOf lns st sh) (s := s) hk64)
  have HAT := hide (fun i (h : Tm.findF (cmpOf lns st sh) fs (cutB k0) = some i) (hi : i < fs.length) => hfo.dropAt hT h hi)
  have c1 := hB.c1
  have hl := (hB.from_ bb hB.own).2
  clear hB hfo
  go_enter Tryz.func59, Tryz.ntmps59
  go_wp2_with fail
  refine (cut_any k0 _).mono ?_
  rintro e w0 ⟨rfl, h9⟩
  have h9 := h9.symm
  subst h9
  obtain ⟨k, hkd⟩ : ∃ k, cutB k0 = k := ⟨_, rfl⟩
  have HKD : Hid (cutB k0 = k) := hkd
  rw [hkd] at HHAS HDS HAT hk64 ⊢
  clear hkd
  go_wp2_with fail
  refine (IxDelete_any lns bc bm st sh X S bx s k _ HBK.out.coll HBK.out.ok HBK.out.ix HBK.out.size).mono ?_
  rw [if_pos hk64]
  rintro e w1 ⟨rfl, hstep⟩
  obtain ⟨F1, S1, hB1, hf1, hs1⟩ := HBK.out.step hstep
  have HB1 := hide hB1
  have HF1 := hide hf1
  have HS1 := hide hs1
  clear hB1 hf1 hs1 hstep c1
  go_wp2_with fail
  refine (keepFind_any k _ HB1.out hk64 (by omega)).mono ?_
  rintro e w2 ⟨rfl, hB2, hf2⟩
  have HB2 := hide hB2
  have HF2 : Hid (Foot F w w2) := HF1.out.trans hf2 (fun i hi => HS1.out i (by rw [hi]; exact HB1.out.own))
  clear hB2 hf2
  have hl2 := (HB2.out.from_ bb HB2.out.own).2
  have c2 := HB2.out.c2
  have c3 := HB2.out.c3
  have f3 := HB2.out.free 3
  have HB3 := hide HB2.out.set3
  have HF3 : Hid (Foot F w (w2.setCell ⟨bb, 3, none⟩ (.bool true))) := Foot.setCell (p := ⟨bb, 3, none⟩) HF2.out (HS1.out bb HB2.out.own) _
  cases hff : Tm.findF (cmpOf lns st sh) fs k with
  | none =>
    have hfi : findI (cmpOf lns st sh) fs k = -1 := by unfold findI; rw [hff]
    rw [hff] at HHAS
    simp only at HHAS
    have hh := HHAS.out
    rw [hfi, hh]
    obtain ⟨a, cap, rfl⟩ := (Reads.of_owns HB2.out.row).shape
    have HANS : Hid (∃ fs', BkStep w (w2.setCell ⟨bb, 3, none⟩ (.bool true)) X F bb bx bc bm st sh lns fs' (dropSt (cmpOf lns st sh) s k) ∧ Tm.FactsOk (cmpOf lns st sh) fs' (nowOf (dropSt (cmpOf lns st sh) s k)) ∧ fs'.length ≤ fs.length + 1) := by
      refine ⟨fs, ⟨F1, S1, _, HB3.out, HF3.out, HS1.out⟩, ?_, by omega⟩
      rw [HDS.out, Tm.ixDrop_gone hh]
      exact HFO.out
    go_wp2
    go_end0
    exact ⟨rfl, by rw [HKD.out]; exact HANS.out⟩
  | some i =>
    have hfi : findI (cmpOf lns st sh) fs k = (i : Int) := by unfold findI; rw [hff]
    obtain ⟨hi, _⟩ := Tm.findF_some hff
    rw [hff] at HHAS
    simp only [List.getElem?_eq_getElem hi, Option.map_some, Option.getD_some] at HHAS
    have HAT' := hide (HAT.out i hff hi)
    obtain ⟨g, cap, rfl, hg, x0, x1, x2, fz⟩ := facts_own HB2.out.row hi
    obtain ⟨g', cap', hv3, hg3, y0, y1, y2, fz3⟩ := facts_own HB3.out.row hi
    cases hv3
    have c23 := HB3.out.c2
    have hl3 := (HB3.out.from_ bb HB3.out.own).2
    have z2 := fz3 (i * 3 + 2)
    have HANS : Hid (∃ fs', BkStep w ((w2.setCell ⟨bb, 3, none⟩ (.bool true)).setCell ⟨g, i * 3 + 2, none⟩ (.bool false)) X F bb bx bc bm st sh lns fs' (dropSt (cmpOf lns st sh) s k) ∧ Tm.FactsOk (cmpOf lns st sh) fs' (nowOf (dropSt (cmpOf lns st sh) s k)) ∧ fs'.length ≤ fs.length + 1) := by
      obtain ⟨hB5, hf5⟩ := HB3.out.setGone hi
      refine ⟨fs.set i (fs[i].1, fs[i].2.1, false), ⟨F1, S1, _, hB5, HF3.out.trans hf5 (fun i hi => HS1.out i hi), HS1.out⟩, ?_, by simp⟩
      rw [HDS.out]
      exact HAT'.out
    rw [hfi, HHAS.out]
    have j1 : (0 : Int) ≤ (i : Int) := by omega
    have j2 : (i : Int) < (fs.length : Int) := by omega
    clear HAT'
    generalize fs[i] = f at *
    obtain ⟨fk, fv, ft⟩ := f
    simp only at x0 x1 x2 y0 y1 y2 HHAS ⊢
    clear fz fz3
    cases ft
    all_goals
      go_wp2
      go_end0
      exact ⟨rfl, by rw [HKD.out]; exact HANS.out⟩
end Go.Proofs.YtmnjjjhmnhfapaaGreatDoor
namespace Go.Proofs.YtmnjjjhmnhfapaaGreatDoor
open Go.RowKit

/-- A slice of entries that came in. -/
def EntsRd (w : World) (v : Value) (l : Tm.Ents) : Prop := ∃ a cap, v = .slice a l.length cap ∧ (0 < l.length → Reads w v 2 l.length (entCells l))
/-- One entry played. -/
def playOne (c : ByteArray → ByteArray → Int) (s : IxSt) (e : ByteArray × ByteArray) : IxSt := if e.2.size = 0 then dropSt c s (cutB e.1) else putSt c s (cutB e.1) (cutB e.2)
/-- Entries played. -/
def playAll (c : ByteArray → ByteArray → Int) (s : IxSt) (l : Tm.Ents) : IxSt := l.foldl (playOne c) s
theorem playAll_step {c : ByteArray → ByteArray → Int} {s : IxSt} {l : Tm.Ents} {j : Nat} (hj : j < l.length) : playAll c s (l.take (j + 1)) = playOne c (playAll c s (l.take j)) l[j] := by
  unfold playAll
  rw [List.take_add_one, List.getElem?_eq_getElem hj, List.foldl_append]
  rfl

set_option maxRecDepth 100000 in
set_option maxHeartbeats 8000000 in
theorem keepAll_any {X : Nat} {F : Nat → Prop} {bb bx bc bm : Nat} {st : Int} {sh : Bool} {lns : List Tm.Ln} {fs : List Tm.Fact} {s : IxSt} (l : Tm.Ents) (vl : Value) (w : World) (hB : BkStep w w X F bb bx bc bm st sh lns fs s) (hfo : Tm.FactsOk (cmpOf lns st sh) fs (nowOf s)) (hfew : fs.length ≤ 800) (hl : EntsRd w vl l) (hvl : 0 < l.length → ∀ g, vl.ownBlock = some g → ¬ F g) :
    Calls Tryz.prog 19 #[.pointer (some ⟨bb, 0, none⟩), vl] w fun e w' => e = .returned (.tuple #[]) ∧ ∃ fs', BkStep w w' X F bb bx bc bm st sh lns fs' (playAll (cmpOf lns st sh) s (l.take 100)) ∧ Tm.FactsOk (cmpOf lns st sh) fs' (nowOf (playAll (cmpOf lns st sh) s (l.take 100))) ∧ fs'.length ≤ fs.length + 100 := by
  obtain ⟨a, cap, rfl, hl⟩ := hl
  have HL := hide hl
  have HVL := hide hvl
  have HB0 := hide hB
  have HFO := hide hfo
  obtain ⟨n, hn⟩ : ∃ n, l.length = n := ⟨_, rfl⟩
  rw [hn] at HL HVL ⊢
  have HN := hide hn
  clear hl hvl hB hfo hn
  go_enter Tryz.func19, Tryz.ntmps19
  go_wp2_with fail
  go_loopw [4] (fun i wr => ∃ j : Nat, j ≤ n ∧ j ≤ 100 ∧ i = .int .i64 j ∧ ∃ fs', Hid (BkStep w wr X F bb bx bc bm st sh lns fs' (playAll (cmpOf lns st sh) s (l.take j))) ∧ Hid (Tm.FactsOk (cmpOf lns st sh) fs' (nowOf (playAll (cmpOf lns st sh) s (l.take j)))) ∧ fs'.length ≤ fs.length + j) (fun i _ => n - (intOf i).toNat)
  case atStart => exact ⟨0, Nat.zero_le _, Nat.zero_le _, rfl, fs, HB0.out, HFO.out, Nat.le_refl _⟩
  case round =>
    obtain ⟨j, hj, hj2, rfl, fs', HST, HFS, hlen⟩ := hrel
    obtain ⟨F', S', vf', hBk, hf, hi'⟩ := HST.out
    have HBK := hide hBk
    have HF := hide hf
    have HI := hide hi'
    have c3 := hBk.c3
    have hlb := (hBk.from_ bb hBk.own).2
    clear hBk hf hi'
    by_cases hlt : j < n
    · have hrd := HF.out.reads (HL.out (by omega)) (HVL.out (by omega))
      by_cases h100 : j < 100
      · have hjl : j < l.length := by rw [HN.out]; exact hlt
        obtain ⟨g, off, rfl, hg, x0, x1⟩ := ents_at (es := l) (by rw [HN.out]; exact hrd) hjl
        have HPL := hide (playAll_step (c := cmpOf lns st sh) (s := s) hjl)
        generalize l[j] = y at *
        obtain ⟨yk, yv⟩ := y
        simp only at x0 x1
        have i1 : (0 : Int) ≤ (j : Int) := by omega
        have i2 : (j : Int) < (n : Int) := by omega
        have i3 : (j : Int) < 100 := by omega
        have HNX : Hid (∀ w1 fs1, (∃ F1 S1 vf1, Bk w1 X F1 S1 vf1 bb bx bc bm st sh lns fs1 (playOne (cmpOf lns st sh) (playAll (cmpOf lns st sh) s (l.take j)) (yk, yv)) ∧ Foot F' wr w1 ∧ ∀ i, F1 i → F' i ∨ wr.heap.size ≤ i) → BkStep w w1 X F bb bx bc bm st sh lns fs1 (playAll (cmpOf lns st sh) s (l.take (j + 1)))) := fun w1 fs1 h => by
          rw [HPL.out]
          exact BkStep.trans HF.out HI.out h
        clear hrd
        by_cases h0 : yv.size = 0
        · have he : yv = ⟨#[]⟩ := by
            obtain ⟨⟨q⟩⟩ := yv
            simp [ByteArray.size] at h0
            subst h0
            rfl
          have HP1 : Hid (playOne (cmpOf lns st sh) (playAll (cmpOf lns st sh) s (l.take j)) (yk, yv) = dropSt (cmpOf lns st sh) (playAll (cmpOf lns st sh) s (l.take j)) (cutB yk)) := by unfold Hid playOne; rw [if_pos h0]
          subst he
          go_wp2_with fail
          refine (keepDrop_any yk _ HBK.out HFS.out (by omega)).mono ?_
          rintro e w1 ⟨rfl, fs1, hst1, hfo1, hl1⟩
          have HS1 : Hid (BkStep w w1 X F bb bx bc bm st sh lns fs1 (playAll (cmpOf lns st sh) s (l.take (j + 1)))) := HNX.out w1 fs1 (by rw [HP1.out]; exact hst1)
          have HF1 : Hid (Tm.FactsOk (cmpOf lns st sh) fs1 (nowOf (playAll (cmpOf lns st sh) s (l.take (j + 1))))) := by
            unfold Hid
            rw [HPL.out, HP1.out]; exact hfo1
          clear hst1 hfo1
          go_wp2
          go_roundw
          case rel => exact ⟨j + 1, by omega, by omega, by go_num, fs1, HS1.out, HF1.out, by omega⟩
          case measure => simp [intOf]; omega
        · have hne : (yv.toList == []) = false := by
            obtain ⟨⟨q⟩⟩ := yv
            rw [Go.ByteArray.toList_eq]
            cases q with
            | nil => simp [ByteArray.size] at h0
            | cons x r => rfl
          have HP1 : Hid (playOne (cmpOf lns st sh) (playAll (cmpOf lns st sh) s (l.take j)) (yk, yv) = putSt (cmpOf lns st sh) (playAll (cmpOf lns st sh) s (l.take j)) (cutB yk) (cutB yv)) := by unfold Hid playOne; rw [if_neg h0]
          go_wp2_with fail
          refine (keepPut_any yk yv _ HBK.out HFS.out (by omega)).mono ?_
          rintro e w1 ⟨rfl, fs1, hst1, hfo1, hl1⟩
          have HS1 : Hid (BkStep w w1 X F bb bx bc bm st sh lns fs1 (playAll (cmpOf lns st sh) s (l.take (j + 1)))) := HNX.out w1 fs1 (by rw [HP1.out]; exact hst1)
          have HF1 : Hid (Tm.FactsOk (cmpOf lns st sh) fs1 (nowOf (playAll (cmpOf lns st sh) s (l.take (j + 1))))) := by
            unfold Hid
            rw [HPL.out, HP1.out]; exact hfo1
          clear hst1 hfo1
          go_wp2
          go_roundw
          case rel => exact ⟨j + 1, by omega, by omega, by go_num, fs1, HS1.out, HF1.out, by omega⟩
          case measure => simp [intOf]; omega
      · have e : j = 100 := by omega
        subst e
        have i2 : ((100 : Nat) : Int) < (n : Int) := by omega
        go_wp2
        go_end0
        exact ⟨rfl, fs', HST.out, HFS.out, by omega⟩
    · have HT : Hid (l.take 100 = l.take j) := by
        unfold Hid
        rw [List.take_of_length_le (by rw [HN.out]; omega), List.take_of_length_le (by rw [HN.out]; omega)]
      have i2 : ¬ (j : Int) < (n : Int) := by omega
      go_wp2
      go_end0
      exact ⟨rfl, fs', by rw [HT.out]; exact HST.out, by rw [HT.out]; exact HFS.out, by omega⟩
end Go.Proofs.YtmnjjjhmnhfapaaGreatDoor
namespace Go.Proofs.YtmnjjjhmnhfapaaGreatDoor
open Go.RowKit

set_option maxRecDepth 100000 in
set_option maxHeartbeats 8000000 in
theorem keepRising_any {X : Nat} {F S : Nat → Prop} {vf : Value} {bb bx bc bm : Nat} {st : Int} {sh : Bool} {lns : List Tm.Ln} {fs : List Tm.Fact} {s : IxSt} (l : Tm.Ents) (vl : Value) (w : World) (hB : Bk w X F S vf bb bx bc bm st sh lns fs s) (hl : Reads w vl 2 l.length (entCells l)) (hsh : ∀ e ∈ l, e.1.size ≤ 64) (hr : Tm.Rises (Tm.ByKey (cmpOf lns st sh)) l) (hfew : l.length ≤ 1000000) :
    Calls Tryz.prog 22 #[.pointer (some ⟨bb, 0, none⟩), vl] w fun e w' => e = .returned (.bool true) ∧ Below w.heap.size w w' := by
  obtain ⟨a, cap, rfl⟩ := hl.shape
  have HL := hide hl
  have HBK := hide hB
  have HSH := hide hsh
  have HR := hide hr
  obtain ⟨n, hn⟩ : ∃ n, l.length = n := ⟨_, rfl⟩
  rw [hn] at HL hfew ⊢
  have HN := hide hn
  clear hl hB hsh hr hn
  go_enter Tryz.func22, Tryz.ntmps22
  go_wp2_with fail
  go_loopw [5] (fun i wr => ∃ k : Nat, 1 ≤ k ∧ (k ≤ n ∨ k = 1) ∧ i = .int .i64 k ∧ Hid (Below w.heap.size w wr)) (fun i _ => n - (intOf i).toNat)
  case atStart => exact ⟨1, Nat.le_refl _, .inr rfl, rfl, Below.refl _ _⟩
  case round =>
    obtain ⟨k, hk1, hk, rfl, HB⟩ := hrel
    obtain ⟨j, hjk⟩ : ∃ j, j + 1 = k := ⟨k - 1, by omega⟩
    have hbk := HBK.out.below HB.out
    have HBK' := hide hbk
    have c0 := hbk.c0
    have hlb := (hbk.from_ bb hbk.own).2
    have hrd := HL.out.below HB.out HL.out.2.1
    clear hbk
    by_cases hlt : k < n
    · have hjl : k < l.length := by rw [HN.out]; exact hlt
      have hjl0 : j < l.length := by omega
      obtain ⟨g, off, rfl, hg, x0, _⟩ := ents_at (es := l) (by rw [HN.out]; exact hrd) hjl0
      obtain ⟨g', off', he, _, y0, _⟩ := ents_at (es := l) (by rw [HN.out]; exact hrd) hjl
      cases he
      have hs0 := HSH.out l[j] (List.getElem_mem hjl0)
      have hs1 := HSH.out l[k] (List.getElem_mem hjl)
      have hup : cmpOf lns st sh l[j].1 l[k].1 < 0 := List.pairwise_iff_getElem.1 HR.out j k hjl0 hjl (by omega)
      generalize l[j].1 = p at *
      generalize l[k].1 = q at *
      have HC : Hid (∀ W, Below wr.heap.size wr W → Calls Tryz.prog 64 #[.pointer (some ⟨bc, 0, none⟩), .string p, .string q] W fun e w' => e = .returned (.bool true) ∧ Below wr.heap.size wr w' ∧ w'.cell? ⟨bb, 0, none⟩ = some (.pointer (some ⟨bc, 0, none⟩)) ∧ w'.cell? ⟨g, off + j * 2, none⟩ = some (.string p) ∧ w'.cell? ⟨g, off + k * 2, none⟩ = some (.string q)) := fun W hW => by
        refine (keepLess_any lns bc bm st sh p q W (HBK'.out.coll.below hW) HBK'.out.ok hs0 hs1).mono ?_
        rintro e w' ⟨rfl, hb⟩
        have hb2 := hW.trans (hb.mono hW.size)
        exact ⟨by rw [decide_eq_true hup], hb2, by rw [hb2.cell (p := ⟨bb, 0, none⟩) hlb]; exact c0, by rw [hb2.cell (p := ⟨g, off + j * 2, none⟩) hg]; exact x0, by rw [hb2.cell (p := ⟨g, off + k * 2, none⟩) hg]; exact y0⟩
      have i1 : (0 : Int) ≤ (k : Int) - 1 := by omega
      have i2 : (k : Int) - 1 < (n : Int) := by omega
      have i3 : ((k : Int) - 1).toNat = j := by omega
      have i4 : (k : Int) < (n : Int) := by omega
      have i5 : (0 : Int) ≤ (k : Int) := by omega
      have i7 : (1 : Int) ≤ (k : Int) := by omega
      have i8 : (k : Int) ≤ (n : Int) := by omega
      have i6 : IntKind.i64.wrap ((k : Int) - 1) = (k : Int) - 1 := by rw [IntKind.wrap_i64]; omega
      clear hrd hup
      go_wp2_with fail
      go_region_held3 (fun wx => wx.cell? ⟨bb, 0, none⟩ = some (.pointer (some ⟨bc, 0, none⟩)) ∧ wx.cell? ⟨g, off + j * 2, none⟩ = some (.string p) ∧ wx.cell? ⟨g, off + k * 2, none⟩ = some (.string q)) (go_keep)
        (first | (go_at_call 64; refine (HC.out _ (Below.refl _ _).drew).mono ?_; rintro e w1 ⟨rfl, hb1, d0, d1, d2⟩; have HB1 := hide (HB.out.trans (hb1.mono HB.out.size)); clear hb1))
      all_goals
        go_wp2
        go_roundw
        case rel => exact ⟨k + 1, by omega, .inl (by omega), by go_num, HB1.out⟩
        case measure => simp [intOf]; omega
    · have i4 : ¬ (k : Int) < (n : Int) := by omega
      go_wp2
      go_ret
      exact ⟨rfl, HB.out⟩
end Go.Proofs.YtmnjjjhmnhfapaaGreatDoor
