import Derived.BigQuiet
import Derived.Laws.IdiomStrings
import Derived.Test.YtmnjjjhmnhfapaaGreatDoorMKpBegin
import Derived.Test.YtmnjjjhmnhfapaaGreatDoorMIxSnap3
namespace Go.Proofs.YtmnjjjhmnhfapaaGreatDoor
open Go.RowKit

set_option maxRecDepth 100000 in
set_option maxHeartbeats 1000000 in
theorem keepSameEnts_any (va vb : Value) (l : Tm.Ents) (w : World) (ha : Reads w va 2 l.length (entCells l)) (hb : Reads w vb 2 l.length (entCells l)) (hl : l.length ≤ 1000000) :
    Calls Tryz.prog 29 #[va, vb] w fun e w' => e = .returned (.bool true) ∧ ∃ n, w' = w.drewN n := by
  obtain ⟨a, cap, rfl⟩ := ha.shape
  obtain ⟨a', cap', rfl⟩ := hb.shape
  have HA := hide ha
  have HB := hide hb
  obtain ⟨n, hn⟩ : ∃ n, l.length = n := ⟨_, rfl⟩
  have HN := hide hn
  rw [hn] at hl HA HB
  rw [hn]
  clear ha hb hn
  go_enter Tryz.func29, Tryz.ntmps29
  go_wp2
  go_loopw [5] (fun i wr => ∃ k : Nat, k ≤ n ∧ i = .int .i64 k ∧ ∃ q, wr = w.drewN q) (fun i _ => n - (intOf i).toNat)
  case atStart => exact ⟨0, Nat.zero_le _, rfl, 0, rfl⟩
  case round =>
    obtain ⟨k, hk, rfl, q, rfl⟩ := hrel
    by_cases hlt : k < n
    · have hlt' : k < l.length := by rw [HN.out]; exact hlt
      obtain ⟨g, off, rfl, hg, c0, c1⟩ := ents_at (by rw [HN.out]; exact HA.out) hlt'
      obtain ⟨g', off', rfl, hg', d0, d1⟩ := ents_at (by rw [HN.out]; exact HB.out) hlt'
      have i1 : (0 : Int) ≤ (k : Int) := by omega
      have i2 : (k : Int) < (n : Int) := by omega
      generalize l[k] = x at *
      obtain ⟨p, s⟩ := x
      simp only at c0 c1 d0 d1
      clear hlt'
      go_wp2
      go_quiet (fail)
      go_wp2
      go_roundw
      case rel => exact ⟨k + 1, by omega, by go_num, _, rfl⟩
      case measure => simp [intOf]; omega
    · go_wp2
      go_ret
      exact ⟨rfl, q, rfl⟩


set_option maxRecDepth 100000 in
set_option maxHeartbeats 1000000 in
/-- Scan by a handle that is not held. -/
theorem scanNo_any {X : Nat} {S F : Nat → Prop} {bx : Nat} {K : ByteArray → ByteArray} {s : IxSt} {B : Nat → Nat} {V : Nat → Value} {v vh : Value} (h : Int) (lo hi : ByteArray) (limit : Int) (w : World) (hi' : IxIn w X S F bx K s B V v vh) (hl : bx < w.heap.size) (hlen : s.held.length ≤ 8) (h0 : h ≠ 0) (hno : ¬ heldAt s h < s.held.length) :
    Calls Tryz.prog 21 #[.pointer (some ⟨bx, 0, none⟩), .int .i64 h, .string lo, .string hi, .int .i64 limit] w fun e w' => e = .returned (.tuple #[.slice none 0 0, .int .i64 9]) ∧ Below w.heap.size w w' := by
  have HSH := hide (shownBy_held h w hi' hl hlen h0)
  rw [dif_neg hno] at HSH
  clear hi'
  go_enter Tryz.func21, Tryz.ntmps21
  go_wp2_with fail
  refine HSH.out.mono ?_
  rintro e w1 ⟨rfl, hb1⟩
  have HB1 := hide hb1
  clear hb1
  go_wp2
  go_ret2
  exact ⟨rfl, HB1.out⟩
theorem scan_whole {c : ByteArray → ByteArray → Int} (h : ∀ k, 0 ≤ c k ⟨#[]⟩) (es : Tm.Ents) : Tm.ixScan c es ⟨#[]⟩ ⟨#[]⟩ = es := by
  unfold Tm.ixScan
  rw [List.filter_eq_self]
  intro e _
  unfold Tm.within
  rw [decide_eq_true (h e.1), decide_eq_true (show (ByteArray.mk #[]).size = 0 from rfl)]
  rfl
/-- Scan of all that a handle shows. -/
theorem scanAll_any (lns : List Tm.Ln) (bc bm : Nat) (st : Int) (sh : Bool) (X : Nat) (S : Nat → Prop) (bx : Nat) (s : IxSt) (h : Int) (l : Tm.Vers) (w : World) (hc : Coll w bc bm st sh lns) (hok : TableOk st lns) (hx : Ix w X S bx bc st sh lns s) (hsh : shownOf s h = some l) :
    Calls Tryz.prog 21 #[.pointer (some ⟨bx, 0, none⟩), .int .i64 h, .string ⟨#[]⟩, .string ⟨#[]⟩, .int .i64 1000] w fun e w' => ∃ v, e = .returned (.tuple #[v, .int .i64 0]) ∧ w'.ownsRow w.heap.size 67 2 v l.length (entCells (Tm.entsOf l)) ∧ Below w.heap.size w w' := by
  have hwh := scan_whole (c := cmpOf lns st sh) (fun k => cmpOf_none lns hok.st sh k)
  have hfin : ∀ (es : Tm.Ents) (e : Ending) (w' : World), es.length ≤ 64 → scanOf (cmpOf lns st sh) es ⟨#[]⟩ ⟨#[]⟩ 1000 w e w' → ∃ v, e = .returned (.tuple #[v, .int .i64 0]) ∧ w'.ownsRow w.heap.size 67 2 v es.length (entCells es) ∧ Below w.heap.size w w' := fun es e w' hle hs => by
    obtain ⟨hb, ha⟩ := hs
    rw [if_neg (by decide), if_neg (by decide), hwh es, List.take_of_length_le (by show es.length ≤ 1000; omega)] at ha
    obtain ⟨v, he, ho⟩ := ha
    exact ⟨v, he, ho, hb⟩
  unfold shownOf at hsh
  by_cases h0 : h = 0
  · subst h0
    rw [if_pos rfl] at hsh
    cases hsh
    refine (IxScan_any lns bc bm st sh X S bx s ⟨#[]⟩ ⟨#[]⟩ 1000 w hc hok hx (by omega)).mono fun e w' hs => ?_
    have h9 := hfin (nowOf s) e w' hx.few hs
    rw [nowOf_length] at h9
    exact h9
  · rw [if_neg h0] at hsh
    obtain ⟨F, B, V, v, vh, hi⟩ := hx.mem
    have hbl := (hx.from_ bx hx.own).2
    by_cases hlt : heldAt s h < s.held.length
    · rw [List.getElem?_eq_getElem hlt] at hsh
      have hl : s.held[heldAt s h].2 = l := by simpa using hsh
      have hm := List.getElem_mem hlt
      have hr := hi.snapRow hm
      have hok2 := hx.ok.heldOk _ hm
      rw [hl] at hr hok2
      have hsl := owns_slice (hi.rows _ hm).1
      rw [hl] at hsl
      refine (scanRow_any lns bc bm st sh bx h l B _ ⟨#[]⟩ ⟨#[]⟩ 1000 w hc hok hx.c0 hbl ?_ hok2.1 hok2.2 hr hsl (by omega)).mono fun e w' hs => ?_
      · refine (shownBy_held h w hi hbl hx.ok.held8 h0).mono ?_
        rw [dif_pos hlt]
        rintro e w' ⟨rfl, hb⟩
        exact ⟨rfl, hb⟩
      · have h9 := hfin (Tm.entsOf l) e w' (by rw [Tm.entsOf_length]; exact hok2.2) hs
        rw [Tm.entsOf_length] at h9
        exact h9
    · rw [List.getElem?_eq_none (by omega)] at hsh
      cases hsh

set_option maxRecDepth 100000 in
set_option maxHeartbeats 2000000 in
theorem keepScanned_any {X : Nat} {F S : Nat → Prop} {vf : Value} {bb bx bc bm : Nat} {st : Int} {sh : Bool} {lns : List Tm.Ln} {fs : List Tm.Fact} {s : IxSt} (h : Int) (l : Tm.Vers) (w : World) (hB : Bk w X F S vf bb bx bc bm st sh lns fs s) (hsh : shownOf s h = some l) :
    Calls Tryz.prog 27 #[.pointer (some ⟨bb, 0, none⟩), .int .i64 h] w fun e w' => ∃ a c, e = .returned (.slice a l.length c) ∧ w'.ownsRow w.heap.size 67 2 (.slice a l.length c) l.length (entCells (Tm.entsOf l)) ∧ Bk w' X F S vf bb bx bc bm st sh lns fs s ∧ Foot (fun i => i = bb) w w' := by
  have CS := hide (scanAll_any lns bc bm st sh X S bx s h l w hB.coll hB.ok hB.ix hsh)
  have c1 := hB.c1
  have hbb := (hB.from_ bb hB.own).2
  have HBK := hide hB
  clear hB
  go_enter Tryz.func27, Tryz.ntmps27
  go_wp2_with fail
  refine CS.out.mono ?_
  rintro e w1 ⟨v, rfl, ho, hb⟩
  have HB1 := hide (HBK.out.below hb)
  have c3 := HB1.out.c3
  have f3 := HB1.out.free 3
  have hz := hb.size
  have hbb1 : bb < w1.heap.size := by omega
  obtain ⟨a, cap, rfl⟩ := (Reads.of_owns ho).shape
  have HANS : Hid ((w1.setCell ⟨bb, 3, none⟩ (.bool true)).ownsRow w.heap.size 67 2 (.slice a l.length cap) l.length (entCells (Tm.entsOf l)) ∧ Bk (w1.setCell ⟨bb, 3, none⟩ (.bool true)) X F S vf bb bx bc bm st sh lns fs s ∧ Foot (fun i => i = bb) w (w1.setCell ⟨bb, 3, none⟩ (.bool true))) := by
    refine ⟨ownsRow_same ho (fun g hg => Below.heap_setCell _ _ _ _ (by rintro rfl; have := (ho.lt _ hg).1; omega)), HB1.out.set3, Foot.setCell (S := fun i => i = bb) (p := ⟨bb, 3, none⟩) (Foot.of hb) (.inl rfl) _⟩
  clear ho hb c1
  go_wp2
  go_ret
  exact ⟨_, _, rfl, HANS.out⟩

/-- A list of entries that came out, apart from the blocks of F. -/
def Outs (w : World) (F : Nat → Prop) (u : Value) (es : Tm.Ents) : Prop := Reads w u 2 es.length (entCells es) ∧ ∀ g, u.ownBlock = some g → ¬ F g
theorem Outs.step {w w2 : World} {F F2 T : Nat → Prop} {u : Value} {es : Tm.Ents} (h : Outs w F u es) (hf : Foot T w w2) (hT : ∀ i, T i → F i) (hF : ∀ i, F2 i → F i ∨ w.heap.size ≤ i) : Outs w2 F2 u es :=
  ⟨hf.reads h.1 (fun g e ht => h.2 g e (hT g ht)), fun g e h2 => by
    rcases hF g h2 with h3 | h3
    · exact h.2 g e h3
    · have := h.1.2.1 g e; omega⟩
/-- The lists that Scan told behind each snapshot, in the order of the snapshots. -/
def Was (w : World) (base : Nat) (F : Nat → Prop) (vw : Value) (held : List (Nat × Tm.Vers)) : Prop :=
  ∃ vals : List Value, vals.length = held.length ∧ w.ownsRow base 50 1 vw held.length vals ∧ (∀ g, vw.ownBlock = some g → ¬ F g) ∧ ∀ i (hi : i < held.length) (hv : i < vals.length), (∃ a c, vals[i] = .slice a held[i].2.length c) ∧ Outs w F vals[i] (Tm.entsOf held[i].2) ∧ ∀ g, vals[i].ownBlock = some g → vw.ownBlock ≠ some g
theorem Was.step {w w2 : World} {base : Nat} {F F2 T : Nat → Prop} {vw : Value} {held : List (Nat × Tm.Vers)} (h : Was w base F vw held) (hf : Foot T w w2) (hT : ∀ i, T i → F i) (hF : ∀ i, F2 i → F i ∨ w.heap.size ≤ i) : Was w2 base F2 vw held := by
  obtain ⟨vals, h1, h2, h3, h4⟩ := h
  refine ⟨vals, h1, hf.owns h2 (fun g e ht => h3 g e (hT g ht)), fun g e hg => ?_, fun i hi hv => ⟨(h4 i hi hv).1, (h4 i hi hv).2.1.step hf hT hF, (h4 i hi hv).2.2⟩⟩
  rcases hF g hg with h5 | h5
  · exact h3 g e h5
  · have := (h2.lt g e).2; omega
theorem playAll_keeps (c : ByteArray → ByteArray → Int) : ∀ (l : Tm.Ents) (s : IxSt), (playAll c s l).held = s.held ∧ (playAll c s l).given = s.given
  | [], _ => ⟨rfl, rfl⟩
  | e :: r, s => by
    have h1 : (playOne c s e).held = s.held ∧ (playOne c s e).given = s.given := by
      unfold playOne
      split
      · exact dropSt_held _ _ _
      · exact putSt_held _ _ _ _
    have h2 := playAll_keeps c r (playOne c s e)
    exact ⟨h2.1.trans h1.1, h2.2.trans h1.2⟩

end Go.Proofs.YtmnjjjhmnhfapaaGreatDoor
namespace Go.Proofs.YtmnjjjhmnhfapaaGreatDoor
open Go.RowKit

theorem Tryz.infoEnts : (Tryz.prog.info? 50).map (fun i => (i.zero, i.size, i.bytes)) = some (some (.slice none 0 0), 1, 24) := by kernel_rfl
/-- Slices of entries that came in. -/
def PartsRd (w : World) (v : Value) (ls : List Tm.Ents) : Prop := ∃ a cap, v = .slice a ls.length cap ∧ (0 < ls.length → ∃ vals : List Value, vals.length = ls.length ∧ Reads w v 1 ls.length vals ∧ ∀ i (hi : i < ls.length) (hv : i < vals.length), EntsRd w vals[i] ls[i])
/-- One list more. -/
theorem Was.push {w w' : World} {base : Nat} {F : Nat → Prop} {vw vw' u : Value} {held : List (Nat × Tm.Vers)} {g : Nat × Tm.Vers} {o : Obj} (h : Was w base F vw held) (hF : ∀ i, F i → i < w.heap.size) (hu : Outs w F u (Tm.entsOf g.2)) (hus : ∃ a c, u = .slice a g.2.length c) (hune : ∀ q, u.ownBlock = some q → vw.ownBlock ≠ some q)
    (hgr : (w.alloc o).grownBy w' vw.ownBlock) (hat : vw'.ownBlock = vw.ownBlock ∨ vw'.ownBlock = some (w.alloc o).heap.size) (hown : ∀ vals, w.ownsRow base 50 1 vw held.length vals → w'.ownsRow base 50 1 vw' (held.length + 1) (vals ++ [u])) : Was w' base F vw' (held ++ [g]) := by
  obtain ⟨vals, h1, h2, h3, h4⟩ := h
  have hlt : ∀ q, vw.ownBlock = some q → q < w.heap.size := fun q e => (h2.lt q e).2
  have hkeep : ∀ q, q < w.heap.size → vw.ownBlock ≠ some q → w'.heap[q]? = w.heap[q]? := fun q hq hne => by
    rw [hgr.block q (by simp; omega) (fun e => hne e.symm), Below.heap_alloc _ _ _ hq]
  have hz : w.heap.size ≤ w'.heap.size := by have := hgr.size; simp at this; omega
  have hout : ∀ (v : Value) (es : Tm.Ents), Outs w F v es → (∀ q, v.ownBlock = some q → vw.ownBlock ≠ some q) → Outs w' F v es ∧ ∀ q, v.ownBlock = some q → vw'.ownBlock ≠ some q := fun v es hv hne =>
    ⟨⟨hv.1.of_blocks hz (fun q e => hkeep q (hv.1.2.1 q e) (hne q e)), hv.2⟩, fun q e e2 => by
      rcases hat with h5 | h5
      · rw [h5] at e2; exact hne q e e2
      · rw [h5] at e2
        have := hv.1.2.1 q e
        simp at e2
        omega⟩
  refine ⟨vals ++ [u], by simp [h1], by rw [List.length_append]; exact hown vals h2, fun q e hq => ?_, fun i hi hv => ?_⟩
  · rcases hat with h5 | h5
    · rw [h5] at e; exact h3 q e hq
    · rw [h5] at e
      have := hF q hq
      simp at e
      omega
  · by_cases hil : i < held.length
    · have e1 : (held ++ [g])[i] = held[i] := List.getElem_append_left hil
      have e2 : (vals ++ [u])[i] = vals[i]'(by omega) := List.getElem_append_left (by omega)
      rw [e1, e2]
      obtain ⟨k1, k2, k3⟩ := h4 i hil (by omega)
      exact ⟨k1, hout _ _ k2 k3⟩
    · have hie : i = held.length := by simp at hi; omega
      subst hie
      have e1 : (held ++ [g])[held.length] = g := by simp
      have e2 : (vals ++ [u])[held.length] = u := by simp [← h1]
      rw [e1, e2]
      exact ⟨hus, hout _ _ hu hune⟩
/-- A handle that is held stands at its place. -/
theorem held_at {c : ByteArray → ByteArray → Int} {s : IxSt} (h : StOk c s) {g : Nat × Tm.Vers} (hg : g ∈ s.held) : ∃ hlt : heldAt s g.1 < s.held.length, s.held[heldAt s g.1] = g := by
  obtain ⟨j, hj, rfl⟩ := List.mem_iff_getElem.1 hg
  have he : heldAt s (s.held[j].1 : Nat) = j := (List.findIdx_eq hj).2 ⟨by simp, fun i hij => by
    have := List.pairwise_iff_getElem.1 h.apart i j (by omega) hj hij
    simp only [decide_eq_false_iff_not]
    omega⟩
  refine ⟨by rw [he]; exact hj, ?_⟩
  simp only [he]
theorem held_not {s : IxSt} {h : Int} (hn : ∀ g ∈ s.held, (g.1 : Int) ≠ h) : ¬ heldAt s h < s.held.length := by
  have : heldAt s h = s.held.length := List.findIdx_eq_length.2 fun x hx => by simpa using hn x hx
  omega
theorem let_mem {c : ByteArray → ByteArray → Int} {s : IxSt} (h : StOk c s) {d g : Nat × Tm.Vers} (hd : d ∈ s.held) : g ∈ (letSt s d.1).held ↔ g ∈ s.held ∧ g.1 ≠ d.1 := by
  obtain ⟨hlt, he⟩ := held_at h hd
  have hap := List.pairwise_iff_getElem.1 h.apart
  show g ∈ s.held.eraseIdx (heldAt s d.1) ↔ _
  rw [List.mem_eraseIdx_iff_getElem]
  constructor
  · rintro ⟨j, hj, hne, rfl⟩
    refine ⟨List.getElem_mem hj, fun e => ?_⟩
    rw [← he] at e
    rcases Nat.lt_or_gt_of_ne hne with h1 | h1
    · have := hap j _ hj hlt h1; omega
    · have := hap _ j hlt hj h1; omega
  · rintro ⟨hg, hne⟩
    obtain ⟨j, hj, rfl⟩ := List.mem_iff_getElem.1 hg
    exact ⟨j, hj, fun e => by subst e; exact hne (by rw [he]), rfl⟩
/-- What stands ahead of a snapshot, behind so many. -/
structure Fz (w wr : World) (X bb bx bc bm : Nat) (t : Int) (sh : Bool) (lns : List Tm.Ln) (m N : Nat) (vw : Value) (F S : Nat → Prop) (vf : Value) (fs : List Tm.Fact) (s : IxSt) : Prop where
  bk : Bk wr X F S vf bb bx bc bm t sh lns fs s
  facts : Tm.FactsOk (cmpOf lns t sh) fs (nowOf s)
  few : fs.length ≤ N
  len : s.held.length = m
  given : s.given = m
  nums : ∀ i (hi : i < s.held.length), s.held[i].1 = i + 1
  below : Below w.heap.size w wr
  was : Was wr X F vw s.held
/-- Entries were played. -/
theorem Fz.played {w wr w2 : World} {X bb bx bc bm : Nat} {t : Int} {sh : Bool} {lns : List Tm.Ln} {m N : Nat} {vw : Value} {F S : Nat → Prop} {vf : Value} {fs fs2 : List Tm.Fact} {s : IxSt} {l : Tm.Ents} (h : Fz w wr X bb bx bc bm t sh lns m N vw F S vf fs s) (hX : w.heap.size ≤ X) (h2 : BkStep wr w2 X F bb bx bc bm t sh lns fs2 (playAll (cmpOf lns t sh) s l)) (hf : Tm.FactsOk (cmpOf lns t sh) fs2 (nowOf (playAll (cmpOf lns t sh) s l))) (hl : fs2.length ≤ fs.length + 100) : ∃ F2 S2 vf2, Fz w w2 X bb bx bc bm t sh lns m (N + 100) vw F2 S2 vf2 fs2 (playAll (cmpOf lns t sh) s l) := by
  obtain ⟨F2, S2, vf2, hB, hft, hi⟩ := h2
  have hp := playAll_keeps (cmpOf lns t sh) l s
  have hfw := h.few
  refine ⟨F2, S2, vf2, hB, hf, by omega, by rw [hp.1]; exact h.len, by rw [hp.2]; exact h.given, fun i hi' => ?_, h.below.trans ((hft.below (fun i hi => (h.bk.from_ i hi).1) h.bk.size).mono hX), ?_⟩
  · simp only [hp.1] at hi' ⊢
    exact h.nums i hi'
  · rw [hp.1]
    exact h.was.step hft (fun i e => e) hi
/-- A snapshot was taken, and what it shows told. -/
theorem Fz.snapped {w wr w2 w3 w5 : World} {X bb bx bc bm : Nat} {t : Int} {sh : Bool} {lns : List Tm.Ln} {m N : Nat} {vw vw' : Value} {F S : Nat → Prop} {vf : Value} {fs : List Tm.Fact} {s : IxSt} {a : Option Addr} {c : Nat} {o : Obj} (h : Fz w wr X bb bx bc bm t sh lns m N vw F S vf fs s) (hX : w.heap.size ≤ X) (hm : m < 8) {F2 S2 : Nat → Prop} (hB2 : Bk w2 X F2 S2 vf bb bx bc bm t sh lns fs (snapSt s)) (hf2 : Foot F wr w2) (hi2 : ∀ i, F2 i → F i ∨ wr.heap.size ≤ i) (hB3 : Bk w3 X F2 S2 vf bb bx bc bm t sh lns fs (snapSt s)) (hft : Foot (fun i => i = bb) w2 w3) (hown : w3.ownsRow w2.heap.size 67 2 (.slice a s.now.length c) s.now.length (entCells (Tm.entsOf s.now)))
    (hgr : (w3.alloc o).grownBy w5 vw.ownBlock) (hat : vw'.ownBlock = vw.ownBlock ∨ vw'.ownBlock = some (w3.alloc o).heap.size) (hrow : ∀ vals, w3.ownsRow X 50 1 vw m vals → w5.ownsRow X 50 1 vw' (m + 1) (vals ++ [.slice a s.now.length c])) :
    Fz w (w5.setCell ⟨bb, 3, none⟩ (.bool true)) X bb bx bc bm t sh lns (m + 1) N vw' F2 S2 vf fs (snapSt s) := by
  have h8 : ¬ 8 ≤ s.held.length := by rw [h.len]; omega
  have hheld : (snapSt s).held = s.held ++ [(m + 1, s.now)] := by unfold snapSt; rw [if_neg h8, h.given]
  have hgiv : (snapSt s).given = m + 1 := by unfold snapSt; rw [if_neg h8, h.given]
  have hbb2 : F2 bb := hB2.own
  have hw2 := h.was.step hf2 (fun i e => e) hi2
  have hw3 := hw2.step hft (fun i e => by rw [e]; exact hbb2) (fun i e => .inl e)
  have hlen : s.held.length = m := h.len
  have hz23 := hft.size
  have hnF : ∀ g, (Value.slice a s.now.length c).ownBlock = some g → ¬ F2 g := fun g e hF => by
    have h1 := (hown.lt g e).1
    have h2 := (hB2.from_ g hF).2
    omega
  have hou : Outs w3 F2 (.slice a s.now.length c) (Tm.entsOf s.now) := ⟨by rw [Tm.entsOf_length]; exact Reads.of_owns hown, hnF⟩
  have hneq : ∀ q, (Value.slice a s.now.length c).ownBlock = some q → vw.ownBlock ≠ some q := fun q e e2 => by
    have h1 := (hown.lt q e).1
    obtain ⟨vals, _, hr, _⟩ := hw2
    have := (hr.lt q e2).2
    omega
  have hB3lt : ∀ i, F2 i → i < w3.heap.size := fun i e => (hB3.from_ i e).2
  have hwp := hw3.push (g := (m + 1, s.now)) (o := o) hB3lt hou ⟨a, c, rfl⟩ hneq hgr hat (fun vals hv => by rw [hlen] at hv ⊢; exact hrow vals hv)
  have hb35 : Foot (fun i => vw.ownBlock = some i) w3 w5 := Foot.grown (Foot.alloc (Foot.refl _ _) o) hgr (fun k e => .inl e)
  have hvwF : ∀ i, vw.ownBlock = some i → ¬ F2 i := fun i e hF => by
    obtain ⟨vals, _, _, h3, _⟩ := hw3
    exact h3 i e hF
  have hvwX : ∀ i, vw.ownBlock = some i → X ≤ i := fun i e => by
    obtain ⟨vals, _, hr, _⟩ := hw3
    exact (hr.lt i e).1
  have hB5 := (hB3.foot hb35 (fun i hF e => hvwF i e hF) hvwX).set3
  have hbX : X ≤ bb := (hB2.from_ bb hB2.own).1
  have hf5 : Foot (fun i => i = bb) w5 (w5.setCell ⟨bb, 3, none⟩ (.bool true)) := Foot.setCell (S := fun i => i = bb) (p := ⟨bb, 3, none⟩) (Foot.refl _ _) (.inl rfl) _
  have hX2 := hB2.size
  have hbel : Below X wr (w5.setCell ⟨bb, 3, none⟩ (.bool true)) := ((hf2.below (fun i hi => (h.bk.from_ i hi).1) h.bk.size).trans ((hft.below (fun i e => by rw [e]; exact hbX) hX2).trans (hb35.below hvwX (by omega)))).trans (hf5.below (fun i e => by rw [e]; exact hbX) (by have := hb35.size; omega))
  refine ⟨hB5, by rw [nowOf_snap]; exact h.facts, h.few, by rw [hheld, List.length_append, hlen]; rfl, hgiv, fun i hi => ?_, h.below.trans (hbel.mono hX), ?_⟩
  · simp only [hheld] at hi ⊢
    by_cases hil : i < s.held.length
    · rw [List.getElem_append_left hil]
      exact h.nums i hil
    · have hie : i = s.held.length := by simp at hi; omega
      subst hie
      simp [hlen]
  · rw [hheld]
    exact hwp.step hf5 (fun i e => by rw [e]; exact hbb2) (fun i e => .inl e)
theorem let_no {s : IxSt} {h : Int} (hn : ¬ heldAt s h < s.held.length) : letSt s h = s := by unfold letSt; rw [List.eraseIdx_of_length_le (by omega)]
/-- What stands while snapshots are let go: rl: which of them. -/
structure Fy (w wr : World) (X bb bx bc bm : Nat) (t : Int) (sh : Bool) (lns : List Tm.Ln) (held : List (Nat × Tm.Vers)) (now : Tm.Vers) (rl : Nat → Bool) (i : Nat) (vw vn : Value) (F S : Nat → Prop) (vf : Value) (fs : List Tm.Fact) (s : IxSt) : Prop where
  bk : Bk wr X F S vf bb bx bc bm t sh lns fs s
  below : Below w.heap.size w wr
  was : Was wr X F vw held
  nowO : Outs wr F vn (Tm.entsOf now)
  snow : s.now = now
  sub : ∀ g ∈ s.held, g ∈ held ∧ (i < g.1 ∨ rl (g.1 - 1) = false)
  sup : ∀ g ∈ held, (i < g.1 ∨ rl (g.1 - 1) = false) → g ∈ s.held
/-- .. the world has turned in the book's own blocks alone. -/
theorem Fy.turn {w wr w2 : World} {X bb bx bc bm : Nat} {t : Int} {sh : Bool} {lns : List Tm.Ln} {held : List (Nat × Tm.Vers)} {now : Tm.Vers} {rl : Nat → Bool} {i i2 : Nat} {vw vn : Value} {F S F2 S2 T : Nat → Prop} {vf : Value} {fs : List Tm.Fact} {s s2 : IxSt} (h : Fy w wr X bb bx bc bm t sh lns held now rl i vw vn F S vf fs s) (hX : w.heap.size ≤ X) (hB : Bk w2 X F2 S2 vf bb bx bc bm t sh lns fs s2) (hf : Foot T wr w2) (hT : ∀ i, T i → F i) (hF : ∀ i, F2 i → F i ∨ wr.heap.size ≤ i) (hn : s2.now = now) (hsub : ∀ g ∈ s2.held, g ∈ held ∧ (i2 < g.1 ∨ rl (g.1 - 1) = false)) (hsup : ∀ g ∈ held, (i2 < g.1 ∨ rl (g.1 - 1) = false) → g ∈ s2.held) : Fy w w2 X bb bx bc bm t sh lns held now rl i2 vw vn F2 S2 vf fs s2 :=
  ⟨hB, h.below.trans ((hf.below (fun i hi => (h.bk.from_ i (hT i hi)).1) h.bk.size).mono hX), h.was.step hf hT hF, h.nowO.step hf hT hF, hn, hsub, hsup⟩
end Go.Proofs.YtmnjjjhmnhfapaaGreatDoor
