import Derived.RangeFuncNested
import Derived.RangeFuncLeaves
import Derived.RangeFuncBound
import Derived.RangeFuncCalls
import Derived.Shelf.Abstract
import Derived.Shelf.RegionOpen
import Derived.WalkKit
import Derived.OwnWalkIn
import Derived.TacticsInMore
import Derived.LoopNIn
import Derived.LoopIn
import Derived.BigRegion
import Derived.Test.YtmnjjjhmnhfapaaGreatDoorMIxStore
/-
  Stored: a range over a function, the snapshots backward.
-/
namespace Go.Proofs.YtmnjjjhmnhfapaaGreatDoor
open Go.RowKit Go.Shelf

attribute [local go_sem] Oper.semAt_some

/-- Places, from the last one down, so many. -/
def downs (n : Nat) : (k : Nat) → k ≤ n → List { i : Nat // i < n }
  | 0, _ => []
  | k + 1, h => downs n k (by omega) ++ [⟨n - (k + 1), by omega⟩]
theorem downs_length (n : Nat) : ∀ k (h : k ≤ n), (downs n k h).length = k
  | 0, _ => rfl
  | k + 1, h => by simp [downs, downs_length n k (by omega)]

/-- What a round keeps: what lay below, and the iterator's own slice. -/
def Kept (n₀ Bs : Nat) (W W' : World) : Prop := Below n₀ W W' ∧ W'.heap[Bs]? = W.heap[Bs]?
theorem Kept.refl (n₀ Bs : Nat) (W : World) : Kept n₀ Bs W W := ⟨Below.refl _ _, rfl⟩
theorem Kept.trans {n₀ Bs : Nat} {A B C : World} (h : Kept n₀ Bs A B) (k : Kept n₀ Bs B C) : Kept n₀ Bs A C := ⟨h.1.trans k.1, k.2.trans h.2⟩

set_option maxRecDepth 100000 in
set_option maxHeartbeats 1000000 in
/-- The iterator: each snapshot, the last one first. -/
theorem back_in (m l Bs n₀ n cap : Nat) (ad : Option Addr) (H : Nat → Nat) (A : Nat → Option Addr × Nat × Nat) (hm : 1 ≤ m) (hlen : n ≤ 8) (J Jx : List { i : Nat // i < n } → World → Prop)
    (hY : ∀ pre (x : { i : Nat // i < n }) W, J pre W → pre.length < n → YieldAt Fence.wide (m - 1) Tryz.prog l #[.int .i64 (x.1 : Int), .agg #[.int .i64 (H x.1 : Int), .slice (A x.1).1 (A x.1).2.1 (A x.1).2.2]] W fun e W' =>
      (e = .returned (.bool true) ∧ J (pre ++ [x]) W' ∧ Kept n₀ Bs W W') ∨ (e = .returned (.bool false) ∧ Jx (pre ++ [x]) W'))
    (W : World) (hcB : W.cell? ⟨Bs, 0, none⟩ = some (.slice ad n cap)) (hc : 0 < n → ∃ b off, ad = some ⟨b, off, none⟩ ∧ b < n₀ ∧ ∀ k, k < n → W.cell? ⟨b, off + k * 2, none⟩ = some (.int .i64 (H k : Int)) ∧ W.cell? ⟨b, off + k * 2 + 1, none⟩ = some (.slice (A k).1 (A k).2.1 (A k).2.2)) (h0 : J [] W) :
    CallsIn Fence.wide m Tryz.prog 115 #[.func (.yield l) #[] #[], .pointer (some ⟨Bs, 0, none⟩)] W fun e W' => (∃ v, e = .returned v) ∧ ((∃ ys, ys = downs n n (Nat.le_refl _) ∧ J ys W') ∨ (∃ pre, True ∧ Jx pre W')) := by
  refine callsIn_of_wp Tryz.func115 rfl trivial ?_ rfl
  simp only [Tryz.ntmps115, List.size_toArray, List.length_cons, List.length_nil, Nat.reduceAdd, Nat.reduceSub, Array.replicate_succ, Array.replicate_zero, List.push_toArray, List.append_toArray, List.nil_append, List.cons_append]
  gi_wp2
  gi_loopw [3] (fun i wr => ∃ k : Nat, ∃ hk : k ≤ n, i = .int .i64 ((n : Int) - 1 - k) ∧ J (downs n k hk) wr ∧ Kept n₀ Bs W wr)
    (fun i _ => (intOf i + 1).toNat)
  case atStart => exact ⟨0, Nat.zero_le _, by simp, h0, Kept.refl _ _ _⟩
  case round =>
    obtain ⟨k, hk, rfl, hJs, hnx⟩ := hrel
    have hcB' : wr.cell? ⟨Bs, 0, none⟩ = some (.slice ad n cap) := (World.cell?_of_block (a := ⟨Bs, 0, none⟩) hnx.2).trans hcB
    by_cases hlt : k < n
    · obtain ⟨q, hq, hqn⟩ : ∃ q, n - (k + 1) = q ∧ q < n := ⟨_, rfl, by omega⟩
      have e1 : (n : Int) - 1 - k = (q : Int) := by omega
      have e2 : (q : Int) - 1 = (n : Int) - 1 - ((k + 1 : Nat) : Int) := by omega
      have i1 : (0 : Int) ≤ (q : Int) := by omega
      have i2 : (q : Int) < (n : Int) := by omega
      have hn0 : 0 < n := by omega
      obtain ⟨b, off, rfl, hb, hcx⟩ := hc hn0
      obtain ⟨hc0, hc1⟩ := hcx q hqn
      have hd0 := (hnx.1.cell (p := ⟨b, off + q * 2, none⟩) hb).trans hc0
      have hd1 := (hnx.1.cell (p := ⟨b, off + q * 2 + 1, none⟩) hb).trans hc1
      obtain ⟨fn, tmps, assign, body, hy, hR⟩ := hY _ ⟨q, hqn⟩ wr hJs (by rw [downs_length]; exact hlt)
      dsimp only at hy
      have HJ : Hid (downs n k hk ++ [⟨q, hqn⟩] = downs n (k + 1) hlt) := by subst hq; rfl
      have HE2 := hide e2
      rw [e1]
      clear e1 e2 hc0 hc1 hq hcx hc
      gi_wp2
      first | refine hR.mono ?_ | refine ⟨trivial, hR.mono ?_⟩ | refine ⟨trivial, fun _ => hm, hR.mono ?_⟩
      rintro e W3 (⟨rfl, hJ3, hk3⟩ | ⟨rfl, hJx3⟩)
      · gi_wp2
        go_roundw
        case rel => exact ⟨k + 1, hlt, by rw [HE2.out], by rw [HJ.out] at hJ3; exact hJ3, hnx.trans hk3⟩
        case measure => simp [intOf]
      · gi_wp2
        refine bodyPost_ret (results_none rfl _ _ _) rfl ?_
        exact ⟨⟨_, rfl⟩, .inr ⟨_, trivial, hJx3⟩⟩
    · have hke : k = n := by omega
      subst hke
      gi_wp2
      go_end0
      exact ⟨⟨_, rfl⟩, .inl ⟨_, rfl, hJs⟩⟩

/-- The count so far, the list that was looked at last, its slice: behind these places. -/
def accOf (L : Nat → Tm.Vers) (A : Nat → Option Addr × Nat × Nat) (s0 : Nat × Tm.Vers × Option Addr × Nat × Nat) (pre : List Nat) : Nat × Tm.Vers × Option Addr × Nat × Nat := pre.foldl (fun s k => (s.1 + Tm.lacks (L k) s.2.1, L k, A k)) s0
theorem accOf_snoc (L : Nat → Tm.Vers) (A : Nat → Option Addr × Nat × Nat) (s0 : Nat × Tm.Vers × Option Addr × Nat × Nat) (pre : List Nat) (k : Nat) : accOf L A s0 (pre ++ [k]) = ((accOf L A s0 pre).1 + Tm.lacks (L k) (accOf L A s0 pre).2.1, L k, A k) := by simp [accOf]

set_option maxHeartbeats 1000000 in
theorem backward_any (a : Option Addr) (n cap : Nat) (w : World) :
    Calls Tryz.prog 71 #[.slice a n cap] w fun e w' => e = .returned (.func (.func 115) #[] #[.pointer (some ⟨w.heap.size, 0, none⟩)]) ∧ w' = w.alloc (.cells #[.slice a n cap] 130) := by
  go_enter Tryz.func71, Tryz.ntmps71
  go_wp2
  go_ret
  exact ⟨rfl, rfl⟩

/-- How many versions are kept. -/
def storedOf (s : IxSt) : Nat := (s.held.reverse.foldl (fun (a : Nat × Tm.Vers) g => (a.1 + Tm.lacks g.2 a.2, g.2)) (s.now.length, s.now)).1
/-- The k-th snapshot's list. -/
def listAt (s : IxSt) (k : Nat) : Tm.Vers := (s.held[k]?.map (·.2)).getD []
/-- .. its handle. -/
def handleAt (s : IxSt) (k : Nat) : Nat := (s.held[k]?.map (·.1)).getD 0
theorem downs_held {α : Type} (l : List α) : ∀ k (h : k ≤ l.length), (downs l.length k h).map (fun x => l[x.1]'x.2) = l.reverse.take k
  | 0, _ => by simp [downs]
  | k + 1, h => by
    rw [downs, List.map_append, downs_held l k (by omega), List.take_add_one]
    congr 1
    rw [List.getElem?_reverse (by omega)]
    simp [show l.length - 1 - k = l.length - (k + 1) by omega, show l.length - (k + 1) < l.length by omega]
theorem stored_acc (s : IxSt) (A : Nat → Option Addr × Nat × Nat) (a0 : Option Addr × Nat × Nat) : (accOf (listAt s) A (s.now.length, s.now, a0) ((downs s.held.length s.held.length (Nat.le_refl _)).map (·.1))).1 = storedOf s := by
  have h1 := downs_held s.held s.held.length (Nat.le_refl _)
  rw [List.take_of_length_le (by simp)] at h1
  unfold storedOf accOf
  rw [← h1, List.foldl_map, List.foldl_map]
  generalize downs s.held.length s.held.length (Nat.le_refl _) = ds
  have : ∀ (ds : List { i : Nat // i < s.held.length }) (c : Nat) (l : Tm.Vers) (a0 : Option Addr × Nat × Nat), (ds.foldl (fun (t : Nat × Tm.Vers × Option Addr × Nat × Nat) k => (t.1 + Tm.lacks (listAt s k.1) t.2.1, listAt s k.1, A k.1)) (c, l, a0)).1 = (ds.foldl (fun (a : Nat × Tm.Vers) x => (a.1 + Tm.lacks (s.held[x.1]'x.2).2 a.2, (s.held[x.1]'x.2).2)) (c, l)).1 := by
    intro ds
    induction ds with
    | nil => intro c l a0; rfl
    | cons x r ih =>
      intro c l a0
      rw [List.foldl_cons, List.foldl_cons]
      have e : listAt s x.1 = (s.held[x.1]'x.2).2 := by simp [listAt, x.2]
      rw [e]
      exact ih _ _ _
  exact this ds _ _ _
theorem lacks_le (a b : Tm.Vers) : Tm.lacks a b ≤ a.length := List.length_filter_le _ _
theorem acc_le {L : Nat → Tm.Vers} {A : Nat → Option Addr × Nat × Nat} {s0 : Nat × Tm.Vers × Option Addr × Nat × Nat} (h0 : s0.1 ≤ 64) (hL : ∀ k, (L k).length ≤ 64) : ∀ (pre : List Nat), (accOf L A s0 pre).1 ≤ 64 + 64 * pre.length := fun pre => by
  have : ∀ (r : List Nat) (s : Nat × Tm.Vers × Option Addr × Nat × Nat), (accOf L A s r).1 ≤ s.1 + 64 * r.length := by
    intro r
    induction r with
    | nil => intro s; simp [accOf]
    | cons k r ih =>
      intro s
      have h1 := ih (s.1 + Tm.lacks (L k) s.2.1, L k, A k)
      have h2 := lacks_le (L k) s.2.1
      have h3 := hL k
      have h4 : accOf L A s (k :: r) = accOf L A (s.1 + Tm.lacks (L k) s.2.1, L k, A k) r := rfl
      rw [h4, List.length_cons]
      simp only at h1
      omega
  have := this pre s0
  omega
end Go.Proofs.YtmnjjjhmnhfapaaGreatDoor
namespace Go.Proofs.YtmnjjjhmnhfapaaGreatDoor
open Go.RowKit Go.Shelf

attribute [local go_sem] Oper.semAt_some

/-- What the walk of Stored leans on: rows of versions, of which none is written while it goes. -/
structure Shows (w : World) (K : ByteArray → ByteArray) (c : ByteArray → ByteArray → Int) (B : Nat → Nat) (n : Nat) (L : Nat → Tm.Vers) (A : Nat → Option Addr × Nat × Nat) (now : Tm.Vers) (a0 : Option Addr × Nat × Nat) : Prop where
  row : ∀ k, k < n → VRow w K B (.slice (A k).1 (A k).2.1 (A k).2.2) (L k)
  row0 : VRow w K B (.slice a0.1 a0.2.1 a0.2.2) now
  rises : ∀ k, k < n → Tm.Rises (Tm.ByKey c) (Tm.entsOf (L k))
  rises0 : Tm.Rises (Tm.ByKey c) (Tm.entsOf now)
  few : ∀ k, (L k).length ≤ 64
  few0 : now.length ≤ 64
  one : ∀ k, k < n → ∀ x ∈ L k, (∀ y ∈ now, (y.1 = x.1 → y = x) ∧ (B y.1 = B x.1 → y.1 = x.1)) ∧ ∀ j, j < n → ∀ y ∈ L j, (y.1 = x.1 → y = x) ∧ (B y.1 = B x.1 → y.1 = x.1)
/-- One list counted against the one that was looked at last. -/
theorem Shows.count {w : World} {K : ByteArray → ByteArray} {c : ByteArray → ByteArray → Int} {B : Nat → Nat} {n : Nat} {L : Nat → Tm.Vers} {A : Nat → Option Addr × Nat × Nat} {now : Tm.Vers} {a0 : Option Addr × Nat × Nat} (h : Shows w K c B n L A now a0) (hK : Keyed K c) (hT : Tm.Told c) (c0 : Nat) (pre : List { i : Nat // i < n }) (x : { i : Nat // i < n }) (W : World) (hW : Below w.heap.size w W) :
    Calls Tryz.prog 72 #[.slice (A x.1).1 (A x.1).2.1 (A x.1).2.2, .slice (accOf L A (c0, now, a0) (pre.map (·.1))).2.2.1 (accOf L A (c0, now, a0) (pre.map (·.1))).2.2.2.1 (accOf L A (c0, now, a0) (pre.map (·.1))).2.2.2.2] W fun e w' => e = .returned (.int .i64 (Tm.lacks (L x.1) (accOf L A (c0, now, a0) (pre.map (·.1))).2.1 : Nat)) ∧ Below W.heap.size W w' := by
  have hx := h.few x.1
  rcases List.eq_nil_or_concat pre with e | ⟨r, y, e⟩
  · subst e
    exact countNotIn_any K c hK hT (L x.1) now h.rises0 B _ _ W ((h.row x.1 x.2).below hW) (h.row0.below hW) (fun a ha b hb => ((h.one x.1 x.2 a ha).1 b hb).1) (fun a ha b hb => ((h.one x.1 x.2 a ha).1 b hb).2) (by omega) (by have := h.few0; omega)
  · subst e
    rw [List.concat_eq_append, List.map_append, List.map_cons, List.map_nil, accOf_snoc]
    exact countNotIn_any K c hK hT (L x.1) (L y.1) (h.rises y.1 y.2) B _ _ W ((h.row x.1 x.2).below hW) ((h.row y.1 y.2).below hW) (fun a ha b hb => ((h.one x.1 x.2 a ha).2 y.1 y.2 b hb).1) (fun a ha b hb => ((h.one x.1 x.2 a ha).2 y.1 y.2 b hb).2) (by omega) (by have := h.few y.1; omega)

/-- Behind the first two statements: the count, and the list of now. -/
def Laid (w : World) (n0 : Nat) (a0 : Option Addr × Nat × Nat) (b3 b4 : Nat) (wx : World) : Prop := Below w.heap.size w wx ∧ Boxed wx b3 3 (.int .i64 n0) ∧ Boxed wx b4 120 (.slice a0.1 a0.2.1 a0.2.2) ∧ b3 ≠ b4 ∧ w.heap.size ≤ b3 ∧ w.heap.size ≤ b4

theorem laid_one (w : World) (n0 : Nat) (a0 : Option Addr × Nat × Nat) : Laid w n0 a0 w.heap.size (w.heap.size + 1) ((w.alloc (.cells #[.int .i64 n0] 3)).alloc (.cells #[.slice a0.1 a0.2.1 a0.2.2] 120)).drew :=
  ⟨(((Below.refl _ w).alloc (Nat.le_refl _) _).alloc (by simp) _).drew, (Boxed.new w _ _).alloc _, by have := Boxed.new (w.alloc (.cells #[.int .i64 n0] 3)) 120 (.slice a0.1 a0.2.1 a0.2.2); rw [World.size_alloc] at this; exact this, by omega, Nat.le_refl _, by omega⟩
theorem laid_two (w : World) (n0 : Nat) (a0 : Option Addr × Nat × Nat) : Laid w n0 a0 (w.heap.size + 1) w.heap.size ((w.alloc (.cells #[.slice a0.1 a0.2.1 a0.2.2] 120)).alloc (.cells #[.int .i64 n0] 3)).drew :=
  ⟨(((Below.refl _ w).alloc (Nat.le_refl _) _).alloc (by simp) _).drew, by have := Boxed.new (w.alloc (.cells #[.slice a0.1 a0.2.1 a0.2.2] 120)) 3 (.int .i64 n0); rw [World.size_alloc] at this; exact this, (Boxed.new w _ _).alloc _, by omega, by omega, Nat.le_refl _⟩

/-- What a round leaves. -/
theorem stored_round {w W w' : World} {b3 b4 bi Bd : Nat} {u3 u4 vi v3 v4 : Value} (hb : Below W.heap.size W w') (bS : Boxed W b3 3 u3) (bB : Boxed W b4 120 u4) (bI : Boxed W bi 130 vi) (hB : Below w.heap.size w W) (h3 : w.heap.size ≤ b3) (h4 : w.heap.size ≤ b4) (hne : b3 ≠ b4) (k3 : b3 < bi) (k4 : b4 < bi) :
    KeepsFrom Bd W ((w'.setCell ⟨b3, 0, none⟩ v3).setCell ⟨b4, 0, none⟩ v4) ∧ Kept w.heap.size bi W ((w'.setCell ⟨b3, 0, none⟩ v3).setCell ⟨b4, 0, none⟩ v4) ∧ (Boxed ((w'.setCell ⟨b3, 0, none⟩ v3).setCell ⟨b4, 0, none⟩ v4) b3 3 v3 ∧ Boxed ((w'.setCell ⟨b3, 0, none⟩ v3).setCell ⟨b4, 0, none⟩ v4) b4 120 v4 ∧ Boxed ((w'.setCell ⟨b3, 0, none⟩ v3).setCell ⟨b4, 0, none⟩ v4) bi 130 vi) ∧ Below w.heap.size w ((w'.setCell ⟨b3, 0, none⟩ v3).setCell ⟨b4, 0, none⟩ v4) := by
  have p3 : Boxed w' b3 3 u3 := (hb.block b3 bS.lt).trans bS
  have p4 : Boxed w' b4 120 u4 := (hb.block b4 bB.lt).trans bB
  have pi : Boxed w' bi 130 vi := (hb.block bi bI.lt).trans bI
  have ko : KeepsOthers W w' := ⟨hb.size, fun k o hk _ => (hb.block k (Array.getElem?_eq_some_iff.1 hk).1).trans hk⟩
  have hbw : Below w.heap.size W w' := hb.mono hB.size
  have hb3 : Below w.heap.size W ((w'.setCell ⟨b3, 0, none⟩ v3).setCell ⟨b4, 0, none⟩ v4) := (hbw.setCell (p := ⟨b3, 0, none⟩) h3 v3).setCell (p := ⟨b4, 0, none⟩) h4 v4
  refine ⟨(ko.trans ((KeepsOthers.setCell _ _ _).trans (KeepsOthers.setCell _ _ _))).from _, ⟨hb3, ?_⟩, ⟨(p3.set v3).other hne v4, (p4.other (fun e => hne e.symm) v3).set v4, (pi.other (by omega) v3).other (by omega) v4⟩, hB.trans hb3⟩
  exact (((pi.other (by omega) v3).other (by omega) v4 : Boxed _ _ _ _)).trans bI.symm

set_option maxRecDepth 100000 in
set_option maxHeartbeats 8000000 in
theorem stored_walk (bx : Nat) (K : ByteArray → ByteArray) (c : ByteArray → ByteArray → Int) (hK : Keyed K c) (hT : Tm.Told c) (B : Nat → Nat) (n cap : Nat) (ad : Option Addr) (H : Nat → Nat) (L : Nat → Tm.Vers) (A : Nat → Option Addr × Nat × Nat) (now : Tm.Vers) (a0 : Option Addr × Nat × Nat) (w : World) (hbx : bx < w.heap.size) (c1 : w.cell? ⟨bx, 1, none⟩ = some (.slice a0.1 a0.2.1 a0.2.2)) (ha0 : a0.2.1 = now.length) (c2 : w.cell? ⟨bx, 2, none⟩ = some (.slice ad n cap)) (hn : n ≤ 8)
    (hc : 0 < n → ∃ b off, ad = some ⟨b, off, none⟩ ∧ b < w.heap.size ∧ ∀ k, k < n → w.cell? ⟨b, off + k * 2, none⟩ = some (.int .i64 (H k : Int)) ∧ w.cell? ⟨b, off + k * 2 + 1, none⟩ = some (.slice (A k).1 (A k).2.1 (A k).2.2)) (hS : Shows w K c B n L A now a0) :
    Calls Tryz.prog 31 #[.pointer (some ⟨bx, 0, none⟩)] w fun e w' => e = .returned (.int .i64 ((accOf L A (now.length, now, a0) ((downs n n (Nat.le_refl _)).map (·.1))).1 : Nat)) ∧ Below w.heap.size w w' := by
  have HS := hide hS
  have HCC := hide hc
  have HK := hide hK
  have HT := hide hT
  have hfew0 := hS.few0
  obtain ⟨aa, an, ac⟩ := a0
  simp only at c1 ha0
  subst ha0
  clear hS hc hK hT
  refine (callsIn_wide (n := 10)).1 ?_
  refine callsIn_of_wp_marks Tryz.func31 rfl trivial ?_ rfl
  simp only [Tryz.ntmps31, List.size_toArray, List.length_cons, List.length_nil, Nat.reduceAdd, Nat.reduceSub, Array.replicate_succ, Array.replicate_zero, List.push_toArray, List.append_toArray, List.nil_append, List.cons_append]
  refine wpIn_wide.2 ?_
  go_upto_region 1 with fail
  go_cut [3, 4] from 7 to 15 (fun t3 t4 wx => ∃ b3 b4, t3 = .pointer (some ⟨b3, 0, none⟩) ∧ t4 = .pointer (some ⟨b4, 0, none⟩) ∧ Hid (Laid w now.length (aa, now.length, ac) b3 b4 wx))
  case first =>
    go_region
    all_goals
      go_wp2_with fail
      go_meet
      first
        | exact ⟨_, _, rfl, rfl, laid_one w now.length (aa, now.length, ac)⟩
        | exact ⟨_, _, rfl, rfl, laid_two w now.length (aa, now.length, ac)⟩
  case rest =>
    obtain ⟨b3, b4, rfl, rfl, HL⟩ := hcut
    have c2c : wc.cell? ⟨bx, 2, none⟩ = some (.slice ad n cap) := (HL.out.1.cell (p := ⟨bx, 2, none⟩) hbx).trans c2
    have hbc : bx < wc.heap.size := by have := HL.out.1.size; omega
    clear c1 c2
    go_wp2_with fail
    refine (backward_any ad n cap _).mono ?_
    rintro e w2 ⟨rfl, hw2⟩
    have HW2 := hide hw2
    clear hw2
    go_wp2_with fail
    have HWC : Hid (Below w.heap.size w w2 ∧ Boxed w2 b3 3 (.int .i64 now.length) ∧ Boxed w2 b4 120 (.slice aa now.length ac) ∧ Boxed w2 wc.heap.size 130 (.slice ad n cap) ∧ b3 ≠ b4 ∧ w.heap.size ≤ b3 ∧ w.heap.size ≤ b4 ∧ b3 < wc.heap.size ∧ b4 < wc.heap.size ∧ w2.heap.size = wc.heap.size + 1) := by
      obtain ⟨l1, l2, l3, l4, l5, l6⟩ := HL.out
      rw [HW2.out]
      exact ⟨l1.alloc l1.size _, l2.alloc _, l3.alloc _, Boxed.new wc _ _, l4, l5, l6, l2.lt, l3.lt, by simp⟩
    obtain ⟨k1, k2, k3, k4, k5, k6, k7, k8, k9, k10⟩ := HWC.out
    have hmx : Tryz.prog.follows .mixedOrders = true := by kernel_rfl
    refine (wpIn_wide (n := 8)).1 ?_
    refine wpIn_rangeFunc_ownH (α := { i : Nat // i < n }) (encs := fun x => #[.int .i64 (x.1 : Int), .agg #[.int .i64 (H x.1 : Int), .slice (A x.1).1 (A x.1).2.1 (A x.1).2.2]]) (Kp := Kept w.heap.size wc.heap.size) (S := fun ys => ys = downs n n (Nat.le_refl _)) (Sp := fun _ => True) (N := n) (w0 := w2) rfl (by omega) (gf := 115) (lb := #[.pointer (some ⟨wc.heap.size, 0, none⟩)]) rfl trivial (enters_of Tryz.func115 (by kernel_rfl) rfl)
      (fun l J Jx W hW _ _ hY h0 => back_in 7 l wc.heap.size w.heap.size n cap ad H A (by omega) hn J Jx hY W ((hW.cell (p := ⟨wc.heap.size, 0, none⟩) k4.lt).trans k4.cell) (fun h => by
        obtain ⟨b, off, e, hb, hc⟩ := HCC.out h
        refine ⟨b, off, e, hb, fun k hk => ?_⟩
        have hWw : Below w.heap.size w W := k1.trans (hW.mono k1.size)
        rw [hWw.cell (p := ⟨b, off + k * 2, none⟩) hb, hWw.cell (p := ⟨b, off + k * 2 + 1, none⟩) hb]
        exact hc k hk) h0)
      Kept.trans (fun W l o o' hl h1 h2 h3 => ⟨belowK_b k1.size W l o o' hl h1 h2 h3, (grownBy_putObj' W l o').block _ (by have := (Array.getElem?_eq_some_iff.1 h1).1; omega) (by intro e; cases e; omega)⟩) (Below.refl _ _) (fun _ => rfl)
      (fun pre W => (Boxed W b3 3 (.int .i64 ((accOf L A (now.length, now, aa, now.length, ac) (pre.map (·.1))).1 : Nat)) ∧ Boxed W b4 120 (.slice (accOf L A (now.length, now, aa, now.length, ac) (pre.map (·.1))).2.2.1 (accOf L A (now.length, now, aa, now.length, ac) (pre.map (·.1))).2.2.2.1 (accOf L A (now.length, now, aa, now.length, ac) (pre.map (·.1))).2.2.2.2) ∧ Boxed W wc.heap.size 130 (.slice ad n cap)) ∧ Below w.heap.size w W)
      (fun _ _ _ => False)
      (OwnFrom.and (OwnFrom.and (Own.from (boxed_own _ _ _) _) (OwnFrom.and (Own.from (boxed_own _ _ _) _) (Own.from (boxed_own _ _ _) _))) (ownFrom_below (Nat.le_refl _) k1.size))
      (fun _ _ _ _ _ hs _ _ => hs)
      ⟨⟨k2, k3, k4⟩, k1⟩
      (fun x a' W => ∃ Bx, wc.heap.size < Bx ∧ W.heap[Bx]? = some (.cells #[.int .i64 (H x.1 : Int), .slice (A x.1).1 (A x.1).2.1 (A x.1).2.2] 142 (0, 0)) ∧ a' = { tmps := #[.pointer (some ⟨bx, 0, none⟩), undef, .int .i64 0, .pointer (some ⟨b3, 0, none⟩), .pointer (some ⟨b4, 0, none⟩), undef, .pointer (some ⟨Bx, 0, none⟩), u7, u8, u9, u10, u11, u12, u13, u14, u15, .pointer (some ⟨bx, 0, none⟩), .pointer (some ⟨bx, 0, none⟩), .pointer (some ⟨bx, 2, none⟩), .slice ad n cap, .func (.func 115) #[] #[.pointer (some ⟨wc.heap.size, 0, none⟩)], .int .i64 (x.1 : Int), .agg #[.int .i64 (H x.1 : Int), .slice (A x.1).1 (A x.1).2.1 (A x.1).2.2], undef, undef, undef, undef, undef, undef, undef, undef, undef], defers := [] })
      (fun x a' _ X Y row hs hg hr => by
        obtain ⟨Bx, e1, e2, e3⟩ := hs
        refine ⟨Bx, e1, (hg.block Bx (Array.getElem?_eq_some_iff.1 e2).1 (fun e => ?_)).trans e2, e3⟩
        obtain ⟨o, ho, hc⟩ := (hr Bx e.symm).2
        rw [e2] at ho; cases ho; cases hc)
      ?assign ?body ?done ?stop
    case assign =>
      rintro l pre x W K' ⟨⟨bS1, bB1, bI1⟩, hB1⟩ hK'
      gi_wp2
      exact hK' _ _ ((KeepsOthers.alloc _ _).from _) ⟨(Below.refl _ W).alloc hB1.size _, Below.heap_alloc W _ _ bI1.lt⟩ ⟨⟨bS1.alloc _, bB1.alloc _, bI1.alloc _⟩, hB1.alloc hB1.size _⟩ ⟨W.heap.size, bI1.lt, heap_alloc_new W _, rfl⟩
    case body =>
      rintro l pre x a' W hl _ ⟨⟨bS1, bB1, bI1⟩, hB1⟩ ⟨Bx, hBx, bX, rfl⟩ hlt
      have hCT := fun W hW => HS.out.count HK.out HT.out now.length pre x W hW
      have hac := acc_le (L := L) (A := A) (s0 := (now.length, now, aa, now.length, ac)) hfew0 HS.out.few (pre.map (·.1))
      rw [List.length_map] at hac
      have hlk := lacks_le (L x.1) (accOf L A (now.length, now, aa, now.length, ac) (pre.map (·.1))).2.1
      have hlx := HS.out.few x.1
      have HSN := hide (accOf_snoc L A (now.length, now, aa, now.length, ac) (pre.map (·.1)) x.1)
      have HMP : Hid ((pre ++ [x]).map (·.1) = pre.map (·.1) ++ [x.1]) := by unfold Hid; rw [List.map_append]; rfl
      generalize accOf L A (now.length, now, aa, now.length, ac) (pre.map (·.1)) = acc at *
      obtain ⟨cn, ls, la, ln, lc⟩ := acc
      simp only at hCT hac hlk HSN bS1 bB1
      have hcn : cn + Tm.lacks (L x.1) ls ≤ 1000 := by omega
      have HSN1 : Hid (accOf L A (now.length, now, aa, now.length, ac) ((pre ++ [x]).map (·.1)) = (cn + Tm.lacks (L x.1) ls, L x.1, A x.1)) := by unfold Hid; rw [HMP.out]; exact HSN.out
      have HCT := hide hCT
      generalize Tm.lacks (L x.1) ls = lk at *
      obtain ⟨cs, hcs⟩ : ∃ cs, cn + lk = cs := ⟨_, rfl⟩
      have HSN' : Hid (accOf L A (now.length, now, aa, now.length, ac) ((pre ++ [x]).map (·.1)) = (cs, L x.1, A x.1)) := by unfold Hid; rw [HSN1.out, hcs]
      have HCS := hide hcs
      clear hcs
      have q3 := bS1.cell
      have f3 := bS1.frozen
      have q4 := bB1.cell
      have f4 := bB1.frozen
      have x0 : W.cell? ⟨Bx, 0, none⟩ = some (.int .i64 (H x.1 : Int)) := by simp [World.cell?, bX]
      have x1 : W.cell? ⟨Bx, 1, none⟩ = some (.slice (A x.1).1 (A x.1).2.1 (A x.1).2.2) := by simp [World.cell?, bX]
      have hXl : Bx < W.heap.size := (Array.getElem?_eq_some_iff.1 bX).1
      have hd : 1 ≤ 8 - 1 - 1 := by omega
      clear hCT
      gi_wp2
      gi_region_with_o (refine ⟨trivial, ?_⟩; gi_at_call 72; refine (CallsIn.inRound l (callsIn_wide.2 (HCT.out _ hB1.drew))).mono ?_; rintro e w' ⟨rfl, hb'⟩; have q3' : w'.cell? ⟨b3, 0, none⟩ = some (.int .i64 (cn : Int)) := (hb'.cell (p := ⟨b3, 0, none⟩) bS1.lt).trans q3; have f3' : w'.frozen? ⟨b3, 0, none⟩ = false := (hb'.frozen (p := ⟨b3, 0, none⟩) bS1.lt).trans f3)
      all_goals
        have hb2 : Below W.heap.size W w' := (Below.refl _ _).drew.trans hb'
        have hwr : IntKind.i64.wrap ((cn : Int) + (lk : Int)) = (cs : Int) := by have := HCS.out; rw [IntKind.wrap_i64]; omega
        rw [hwr]
        have y1 : w'.cell? ⟨Bx, 1, none⟩ = some (.slice (A x.1).1 (A x.1).2.1 (A x.1).2.2) := (hb2.cell (p := ⟨Bx, 1, none⟩) hXl).trans x1
        have y4 : w'.cell? ⟨b4, 0, none⟩ = some (.slice la ln lc) := (hb2.cell (p := ⟨b4, 0, none⟩) bB1.lt).trans q4
        have z4 : w'.frozen? ⟨b4, 0, none⟩ = false := (hb2.frozen (p := ⟨b4, 0, none⟩) bB1.lt).trans f4
        have n1 : ¬ b3 = Bx := by omega
        have n2 : ¬ Bx = b3 := by omega
        have n3 : ¬ b4 = b3 := fun e => k5 e.symm
        have HFIN := hide (stored_round (Bd := w2.heap.size) (v3 := .int .i64 (cs : Int)) (v4 := .slice (A x.1).1 (A x.1).2.1 (A x.1).2.2) hb2 bS1 bB1 bI1 hB1 k6 k7 k5 k8 k9)
        clear hwr hb2 hb' q3 f3 q4 f4 x0 x1 q3' f3'
        gi_wp2
        obtain ⟨z1, z2, z3, z5⟩ := HFIN.out
        refine ⟨z1, z2, ?_, z5⟩
        rw [HSN'.out]
        exact z3
    case done =>
      rintro D ys W hD rfl ⟨⟨bS1, bB1, bI1⟩, hB1⟩ hK
      have cS := bS1.cell
      go_wp2
      refine ⟨by simp, .inl ⟨_, _, rfl, run_takeDeferred hK, ?_⟩⟩
      exact ⟨_, results_tmp rfl _ _ _, rfl, hB1.trans (belowK_b (w := w) (Nat.le_refl _) W D _ _ (by omega) hK rfl rfl)⟩
    case stop =>
      rintro D c pre W _ _ h _
      exact h.elim
end Go.Proofs.YtmnjjjhmnhfapaaGreatDoor
namespace Go.Proofs.YtmnjjjhmnhfapaaGreatDoor
open Go.RowKit

/-- A slice's parts. -/
def sliceOf : Value → Option Addr × Nat × Nat
  | .slice a n c => (a, n, c)
  | _ => (none, 0, 0)
theorem listAt_lt {s : IxSt} {k : Nat} (h : k < s.held.length) : listAt s k = s.held[k].2 := by simp [listAt, h]
theorem handleAt_lt {s : IxSt} {k : Nat} (h : k < s.held.length) : handleAt s k = s.held[k].1 := by simp [handleAt, h]
theorem IxStored_any (lns : List Tm.Ln) (bc : Nat) (st : Int) (sh : Bool) (X : Nat) (S : Nat → Prop) (bx : Nat) (s : IxSt) (w : World) (hfit : ∀ o ∈ lns, Tm.Fit o) (hok : TableOk st lns) (hx : Ix w X S bx bc st sh lns s) :
    Calls Tryz.prog 31 #[.pointer (some ⟨bx, 0, none⟩)] w fun e w' => e = .returned (.int .i64 (storedOf s : Nat)) ∧ Below w.heap.size w w' := by
  obtain ⟨F, B, V, v, vh, hi⟩ := hx.mem
  have hbx := (hx.from_ bx hx.own).2
  have c1 := hi.c1
  have c2 := hi.c2
  have hrn := hi.nowRow
  have hrh := Reads.of_owns hi.held
  obtain ⟨aa, ac, rfl⟩ := hrn.reads.shape
  obtain ⟨ad, cap, rfl⟩ := hrh.shape
  have hVs : ∀ k (hk : k < s.held.length), V s.held[k].1 = .slice (sliceOf (V (handleAt s k))).1 (sliceOf (V (handleAt s k))).2.1 (sliceOf (V (handleAt s k))).2.2 := fun k hk => by
    obtain ⟨a, n, c, e⟩ := hi.slices s.held[k] (List.getElem_mem hk)
    rw [handleAt_lt hk, e]
    rfl
  have hall : ∀ k, k < s.held.length → ∀ x ∈ listAt s k, x ∈ allVers s := fun k hk x hx' => by
    rw [listAt_lt hk] at hx'
    exact mem_held (List.getElem_mem hk) hx'
  have hfew : s.now.length ≤ 64 := by rw [← nowOf_length]; exact hx.few
  have hsh : Shows w (placeOf lns st sh) (cmpOf lns st sh) B s.held.length (listAt s) (fun k => sliceOf (V (handleAt s k))) s.now (aa, s.now.length, ac) := by
    refine ⟨fun k hk => ?_, hrn, fun k hk => ?_, hx.rises, fun k => ?_, hfew, fun k hk x hx' => ⟨fun y hy => ⟨fun e => hx.ok.one y (mem_now hy) x (hall k hk x hx') e, fun e => hi.inj y (mem_now hy) x (hall k hk x hx') e⟩, fun j hj y hy => ⟨fun e => hx.ok.one y (hall j hj y hy) x (hall k hk x hx') e, fun e => hi.inj y (hall j hj y hy) x (hall k hk x hx') e⟩⟩⟩
    · have h1 := hi.snapRow (List.getElem_mem hk)
      rw [hVs k hk] at h1
      rw [listAt_lt hk]
      exact h1
    · rw [listAt_lt hk]
      exact (hx.ok.heldOk _ (List.getElem_mem hk)).1
    · by_cases hk : k < s.held.length
      · rw [listAt_lt hk]
        exact (hx.ok.heldOk _ (List.getElem_mem hk)).2
      · simp [listAt, hk]
  refine (stored_walk bx (placeOf lns st sh) (cmpOf lns st sh) (keyed_place hfit hok.st) (told_cmpOf lns st sh) B s.held.length cap ad (handleAt s) (listAt s) (fun k => sliceOf (V (handleAt s k))) s.now (aa, s.now.length, ac) w hbx c1 rfl c2 hx.ok.held8 (fun h0 => ?_) hsh).mono ?_
  · obtain ⟨g, off, cap', he, hg, hc⟩ := hrh.form (by rw [snapCells_length]; omega)
    cases he
    refine ⟨g, off, rfl, hg, fun k hk => ?_⟩
    have hr := rows_get (fun g : Nat × Tm.Vers => [Value.int .i64 g.1, V g.1]) 2 (fun _ => rfl) s.held k hk
    have h1 := hc (k * 2) _ (hr 0 (by omega))
    have h2 := hc (k * 2 + 1) _ (hr 1 (by omega))
    rw [handleAt_lt hk]
    refine ⟨h1, ?_⟩
    have h3 := hVs k hk
    rw [handleAt_lt hk] at h3
    rw [← h3]
    exact h2
  · rintro e w' ⟨rfl, hb⟩
    rw [stored_acc]
    exact ⟨rfl, hb⟩
/-- Without a snapshot. -/
theorem stored_none {s : IxSt} (h : s.held = []) : storedOf s = s.now.length := by simp [storedOf, h]
/-- With one. -/
theorem stored_one {s : IxSt} {g : Nat} {l : Tm.Vers} (h : s.held = [(g, l)]) : storedOf s = s.now.length + Tm.lacks l s.now := by simp [storedOf, h]
theorem filter_parts {α : Type} (p : α → Bool) : ∀ (l : List α), l.length = (l.filter p).length + (l.filter (fun x => !p x)).length
  | [] => rfl
  | x :: r => by
    have ih := filter_parts p r
    cases h : p x
    · rw [List.filter_cons_of_neg (by simp [h]), List.filter_cons_of_pos (by simp [h]), List.length_cons, List.length_cons]
      omega
    · rw [List.filter_cons_of_pos h, List.filter_cons_of_neg (by simp [h]), List.length_cons, List.length_cons]
      omega
open Classical in
theorem length_sub {α : Type} : ∀ (l m : List α), l.Pairwise (· ≠ ·) → (∀ x ∈ l, x ∈ m) → l.length ≤ m.length
  | [], _, _, _ => Nat.zero_le _
  | x :: r, m, hp, hs => by
    have hx := hs x (by simp)
    have hp' := List.pairwise_cons.1 hp
    have ih := length_sub r (m.erase x) hp'.2 (fun y hy => (List.mem_erase_of_ne (fun e => hp'.1 y hy e.symm)).2 (hs y (by simp [hy])))
    rw [List.length_erase_of_mem hx] at ih
    have : 0 < m.length := List.length_pos_of_mem hx
    rw [List.length_cons]
    omega
/-- What a list has, and what it lacks: its own members at most, another's at least. -/
theorem lacks_ge {l m : Tm.Vers} (h1 : ∀ x ∈ l, ∀ y ∈ m, y.1 = x.1 → y = x) (hn : l.Pairwise (· ≠ ·)) : l.length ≤ m.length + Tm.lacks l m := by
  have h2 := filter_parts (fun x : Tm.Ver => Tm.hasVer m x.1) l
  have h3 : (l.filter (fun x => Tm.hasVer m x.1)).length ≤ m.length := by
    refine length_sub _ _ (List.Pairwise.filter _ hn) (fun x hx => ?_)
    obtain ⟨hl, hh⟩ := List.mem_filter.1 hx
    exact Tm.mem_of_hasVer (fun y hy e => h1 x hl y hy e) hh
  unfold Tm.lacks
  omega
theorem rises_apart {c : ByteArray → ByteArray → Int} (hT : Tm.Told c) {l : Tm.Vers} (h : Tm.Rises (Tm.ByKey c) (Tm.entsOf l)) : l.Pairwise (· ≠ ·) := by
  have h1 : l.Pairwise (fun a b => c a.2.1 b.2.1 < 0) := List.pairwise_map.1 h
  refine h1.imp fun {a b} hab e => ?_
  subst e
  rw [hT.self] at hab
  omega
end Go.Proofs.YtmnjjjhmnhfapaaGreatDoor
