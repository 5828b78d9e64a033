import Derived.Deep.RegionHeld3
import Derived.Test.YtmnjjjhmnhfapaaGreatDoorMKpMem
import Derived.Test.YtmnjjjhmnhfapaaGreatDoorMIxWithin
namespace Go.Proofs.YtmnjjjhmnhfapaaGreatDoor
open Go.RowKit

/-- Where a handle stands among snapshots: -1: nowhere. -/
def placeIn (l : List (Nat × Tm.Vers)) (h : Int) : Int := if l.findIdx (fun x => decide ((x.1 : Int) = h)) < l.length then l.findIdx (fun x => decide ((x.1 : Int) = h)) else -1
theorem placeIn_hit {l : List (Nat × Tm.Vers)} {h : Int} {k : Nat} (hk : k < l.length) (h1 : (l[k].1 : Int) = h) (h2 : ∀ j (hj : j < k), (l[j].1 : Int) ≠ h) : placeIn l h = k := by
  have : l.findIdx (fun x => decide ((x.1 : Int) = h)) = k := (List.findIdx_eq hk).2 ⟨by simpa using h1, fun j hj => by simpa using h2 j hj⟩
  unfold placeIn
  rw [this, if_pos hk]
theorem placeIn_no {l : List (Nat × Tm.Vers)} {h : Int} (h1 : ∀ j (hj : j < l.length), (l[j].1 : Int) ≠ h) : placeIn l h = -1 := by
  have : l.findIdx (fun x => decide ((x.1 : Int) = h)) = l.length := List.findIdx_eq_length.2 fun x hx => by
    obtain ⟨j, hj, rfl⟩ := List.mem_iff_getElem.1 hx
    simpa using h1 j hj
  unfold placeIn
  rw [this, if_neg (by omega)]
theorem snaps_at {w : World} {V : Nat → Value} {a : Option Addr} {n cap : Nat} {l : List (Nat × Tm.Vers)} (h : Reads w (.slice a n cap) 2 l.length (snapCells V l)) {k : Nat} (hk : k < l.length) :
    ∃ g off, a = some ⟨g, off, none⟩ ∧ g < w.heap.size ∧ w.cell? ⟨g, off + k * 2, none⟩ = some (.int .i64 l[k].1) ∧ w.cell? ⟨g, off + k * 2 + 1, none⟩ = some (V l[k].1) := by
  obtain ⟨g, off, cap', he, hg, hc⟩ := h.form (by rw [snapCells_length]; omega)
  cases he
  have hr := rows_get (fun g : Nat × Tm.Vers => [Value.int .i64 g.1, V g.1]) 2 (fun _ => rfl) l k hk
  exact ⟨g, off, rfl, hg, hc (k * 2) _ (hr 0 (by omega)), hc (k * 2 + 1) _ (hr 1 (by omega))⟩
/-- Each snapshot has a slice. -/
def AllSlices (V : Nat → Value) (l : List (Nat × Tm.Vers)) : Prop := ∀ g ∈ l, ∃ a n c, V g.1 = .slice a n c
theorem IxIn.slices {w : World} {X : Nat} {S F : Nat → Prop} {bx : Nat} {K : ByteArray → ByteArray} {s : IxSt} {B : Nat → Nat} {V : Nat → Value} {v h : Value} (hi : IxIn w X S F bx K s B V v h) : AllSlices V s.held := fun g hg => by
  obtain ⟨a, cap, e⟩ := (Reads.of_owns (hi.rows g hg).1).shape
  exact ⟨a, _, cap, e⟩

set_option maxRecDepth 100000 in
set_option maxHeartbeats 1000000 in
theorem isHandle_any (b g : Nat) (h : Int) (a : Option Addr) (n c : Nat) (w : World) (hb : w.cell? ⟨b, 0, none⟩ = some (.int .i64 h)) (hl : b < w.heap.size) :
    Calls Tryz.prog 113 #[.agg #[.int .i64 g, .slice a n c], .pointer (some ⟨b, 0, none⟩)] w fun e w' => e = .returned (.bool (decide ((g : Int) = h))) ∧ Below w.heap.size w w' := by
  have hb' : (w.alloc (.cells #[.int .i64 g, .slice a n c] 142)).cell? ⟨b, 0, none⟩ = some (.int .i64 h) := by rw [cell_old hl]; exact hb
  have HB : Hid (Below w.heap.size w (w.alloc (.cells #[.int .i64 g, .slice a n c] 142))) := (Below.refl _ _).alloc (Nat.le_refl _) _
  clear hb
  go_enter Tryz.func113, Tryz.ntmps113
  go_wp2
  go_ret
  exact ⟨rfl, HB.out⟩

set_option maxRecDepth 100000 in
set_option maxHeartbeats 2000000 in
theorem IndexFunc_held (b : Nat) (h : Int) (V : Nat → Value) (l : List (Nat × Tm.Vers)) (vh : Value) (w : World) (hrd : Reads w vh 2 l.length (snapCells V l)) (hV : AllSlices V l) (hl : l.length ≤ 1000) (hb : w.cell? ⟨b, 0, none⟩ = some (.int .i64 h)) (hbl : b < w.heap.size) :
    Calls Tryz.prog 112 #[vh, .func (.func 113) #[] #[.pointer (some ⟨b, 0, none⟩)]] w fun e w' => e = .returned (.int .i64 (placeIn l h)) ∧ Below w.heap.size w w' := by
  obtain ⟨a, cap, rfl⟩ := hrd.shape
  have HC : Hid (∀ k (hk : k < l.length), _) := fun k hk => snaps_at hrd hk
  have HV := hide hV
  have HBC := hide hb
  have HHIT := hide (fun k (hk : k < l.length) => placeIn_hit (l := l) (h := h) hk)
  have HNO := hide (placeIn_no (l := l) (h := h))
  generalize placeIn l h = pl at *
  clear hrd hV hb
  go_enter Tryz.func112, Tryz.ntmps112
  go_wp2
  go_loopw [8] (fun i wr => ∃ k : Nat, k ≤ l.length ∧ i = .int .i64 k ∧ Hid (∀ j (hj : j < l.length), j < k → (l[j].1 : Int) ≠ h) ∧ Hid (Below w.heap.size w wr)) (fun i _ => l.length - (intOf i).toNat)
  case atStart => exact ⟨0, Nat.zero_le _, rfl, fun j _ hj => by omega, Below.refl _ _⟩
  case round =>
    obtain ⟨k, hk, rfl, HN, HB⟩ := hrel
    have hz := HB.out.size
    by_cases hlt : k < l.length
    · obtain ⟨g, off, rfl, hg, c0, c1⟩ := HC.out k hlt
      obtain ⟨va, vn, vc, hve⟩ := HV.out l[k] (List.getElem_mem hlt)
      rw [hve] at c1
      have hc : ∀ o, wr.cell? ⟨g, o, none⟩ = w.cell? ⟨g, o, none⟩ := fun o => HB.out.cell (p := ⟨g, o, none⟩) hg
      rw [← hc] at c0 c1
      have HY : Hid ((l[k].1 : Int) = h → pl = k) := fun e => HHIT.out k hlt e (fun j hj => HN.out j (by omega) hj)
      have HS : Hid ((l[k].1 : Int) ≠ h → ∀ j (hj : j < l.length), j < k + 1 → (l[j].1 : Int) ≠ h) := fun e j hj hjk => by
        by_cases hjk2 : j < k
        · exact HN.out j hj hjk2
        · have : j = k := by omega
          subst this; exact e
      have hbw : wr.cell? ⟨b, 0, none⟩ = some (.int .i64 h) := by rw [HB.out.cell (p := ⟨b, 0, none⟩) hbl]; exact HBC.out
      have CC := hide (isHandle_any b l[k].1 h va vn vc wr hbw (by omega))
      generalize l[k].1 = x at *
      clear hc hve hbw HC HV HBC HHIT
      go_wp2_with fail
      refine CC.out.mono ?_
      rintro e w1 ⟨rfl, hb1⟩
      have HB1 : Hid (Below w.heap.size w w1) := HB.out.trans (hb1.mono hz)
      clear hb1
      by_cases hx : (x : Int) = h
      · have hd : decide ((x : Int) = h) = true := by simpa using hx
        have HE := hide (HY.out hx)
        rw [hd]
        clear hx hd
        go_wp2
        go_ret
        exact ⟨by rw [HE.out]; rfl, HB1.out⟩
      · have hd : decide ((x : Int) = h) = false := by simpa using hx
        have HE := hide (HS.out hx)
        rw [hd]
        clear hx hd
        go_wp2
        go_roundw
        case rel => exact ⟨k + 1, by omega, by go_num, HE.out, HB1.out⟩
        case measure => simp [intOf]; omega
    · have HE : Hid (pl = -1) := HNO.out (fun j hj => HN.out j hj (by omega))
      clear HC HV
      go_wp2
      go_ret
      exact ⟨by rw [HE.out]; rfl, HB.out⟩

set_option maxRecDepth 100000 in
set_option maxHeartbeats 1000000 in
theorem snapFind_any (h : Int) (V : Nat → Value) (l : List (Nat × Tm.Vers)) (vh : Value) (w : World) (hrd : Reads w vh 2 l.length (snapCells V l)) (hV : AllSlices V l) (hl : l.length ≤ 1000) :
    Calls Tryz.prog 69 #[vh, .int .i64 h] w fun e w' => e = .returned (.int .i64 (placeIn l h)) ∧ Below w.heap.size w w' := by
  have HB : Hid (Below w.heap.size w (w.alloc (.cells #[.int .i64 h] 3))) := (Below.refl _ _).alloc (Nat.le_refl _) _
  have HI := hide (IndexFunc_held w.heap.size h V l vh (w.alloc (.cells #[.int .i64 h] 3)) (hrd.below HB.out hrd.2.1) hV hl (by rw [cell_new rfl]; rfl) (by simp))
  obtain ⟨a, cap, rfl⟩ := hrd.shape
  clear hrd hV
  go_enter Tryz.func69, Tryz.ntmps69
  go_wp2_with fail
  refine HI.out.mono ?_
  rintro e w1 ⟨rfl, hb1⟩
  have HB1 : Hid (Below w.heap.size w w1) := HB.out.trans (hb1.mono (by simp))
  clear hb1
  go_wp2
  go_ret
  exact ⟨rfl, HB1.out⟩

/-- What a handle shows. -/
def shownOf (s : IxSt) (h : Int) : Option Tm.Vers := if h = 0 then some s.now else (s.held[heldAt s h]?).map (·.2)
theorem placeIn_held (s : IxSt) (h : Int) : placeIn s.held h = if heldAt s h < s.held.length then (heldAt s h : Int) else -1 := rfl
set_option maxRecDepth 100000 in
set_option maxHeartbeats 1000000 in
/-- A handle of a snapshot that is held, or not. -/
theorem shownBy_held {X : Nat} {S F : Nat → Prop} {bx : Nat} {K : ByteArray → ByteArray} {s : IxSt} {B : Nat → Nat} {V : Nat → Value} {v vh : Value} (h : Int) (w : World) (hi : IxIn w X S F bx K s B V v vh) (hl : bx < w.heap.size) (hlen : s.held.length ≤ 8) (h0 : h ≠ 0) :
    Calls Tryz.prog 61 #[.pointer (some ⟨bx, 0, none⟩), .int .i64 h] w fun e w' => (e = .returned (if hlt : heldAt s h < s.held.length then .tuple #[V s.held[heldAt s h].1, .int .i64 0] else .tuple #[.slice none 0 0, .int .i64 9])) ∧ Below w.heap.size w w' := by
  have hrd := Reads.of_owns hi.held
  have HF := hide (snapFind_any h V s.held vh w hrd hi.slices (by omega))
  rw [placeIn_held] at HF
  have c2 := hi.c2
  have hne : ((h : Int) == 0) = false := by simpa using h0
  obtain ⟨a, cap, rfl⟩ := hrd.shape
  by_cases hlt : heldAt s h < s.held.length
  · rw [dif_pos hlt]
    rw [if_pos hlt] at HF
    have HC : Hid (∀ w', Below w.heap.size w w' → _) := fun w' hb => snaps_at (hrd.below hb hrd.2.1) hlt
    obtain ⟨va, vn, vc, hve⟩ := hi.slices s.held[heldAt s h] (List.getElem_mem hlt)
    rw [hve] at HC ⊢
    generalize s.held[heldAt s h].1 = x at *
    generalize heldAt s h = k at *
    have i1 : ¬ ((k : Int) < 0) := by omega
    have i2 : (0 : Int) ≤ (k : Int) := by omega
    have i3 : (k : Int) < (s.held.length : Int) := by omega
    clear hi hrd hve
    go_enter Tryz.func61, Tryz.ntmps61
    go_wp2_with fail
    refine HF.out.mono ?_
    rintro e w1 ⟨rfl, hb1⟩
    have HB1 := hide hb1
    obtain ⟨g, off, rfl, hg, x0, x1⟩ := HC.out w1 hb1
    have c21 : w1.cell? ⟨bx, 2, none⟩ = some (.slice (some ⟨g, off, none⟩) s.held.length cap) := by rw [hb1.cell (p := ⟨bx, 2, none⟩) hl]; exact c2
    clear hb1 c2
    go_wp2
    go_ret2
    exact ⟨rfl, HB1.out⟩
  · rw [dif_neg hlt]
    rw [if_neg hlt] at HF
    clear hi hrd
    go_enter Tryz.func61, Tryz.ntmps61
    go_wp2_with fail
    refine HF.out.mono ?_
    rintro e w1 ⟨rfl, hb1⟩
    have HB1 := hide hb1
    clear hb1
    go_wp2
    go_ret2
    exact ⟨rfl, HB1.out⟩
end Go.Proofs.YtmnjjjhmnhfapaaGreatDoor
namespace Go.Proofs.YtmnjjjhmnhfapaaGreatDoor
open Go.RowKit

set_option maxRecDepth 100000 in
set_option maxHeartbeats 1000000 in
theorem Clone_vers (v : Value) (xs : List Value) (n : Nat) (w : World) (hr : Reads w v 1 n xs) (h1 : ∀ u ∈ xs, u.oneCell' = true) (hl : n ≤ 1000) :
    Calls Tryz.prog 68 #[v] w fun e w' => ∃ v', e = .returned v' ∧ w'.ownsRow w.heap.size 138 1 v' n xs ∧ Below w.heap.size w w' := by
  obtain ⟨i0, hi, hz0, hz1, hz2⟩ := info_parts Tryz.infoVer
  have hnil := fun (w : World) (a : Option Addr) (n c : Nat) => Lib.run_eql_slice_nil (P := Tryz.prog) w 120 138 a n c 0 0 Tryz.underlying120
  have hr' := hr
  obtain ⟨hlen, hlt, a, cap, rfl, hcap, hc⟩ := hr'
  have H1 := hide h1
  have HLEN := hide hlen
  clear h1
  cases a with
  | none =>
    have h0 : n = 0 := by
      cases xs with
      | nil => simp at hlen; exact hlen.symm
      | cons x r =>
        obtain ⟨g, off, he, _⟩ := hc 0 x (by simp)
        cases he
    subst h0
    have h00 : xs = [] := List.eq_nil_of_length_eq_zero (by rw [hlen])
    subst h00
    clear hr hc hlt
    go_enter Tryz.func68, Tryz.ntmps68
    go_wp2
    go_ret
    exact ⟨_, rfl, World.ownsRow_nil _ _ _ _, Below.refl _ _⟩
  | some ad =>
    obtain ⟨g, off, sp⟩ := ad
    have HC : Hid (∀ j u, xs[j]? = some u → (w.alloc (.cells #[] 138)).cell? ((⟨g, off, sp⟩ : Addr).add j) = some u) := fun j u hu => by
      obtain ⟨g', off', he, hcell⟩ := hc j u hu
      cases he
      rw [addr_add]
      rw [cell_old (hlt _ rfl)]
      exact hcell
    have HO : Hid ((w.alloc (.cells #[] 138)).ownsRow w.heap.size 138 1 (.slice (some ⟨w.heap.size, 0, none⟩) 0 0) 0 []) := World.ownsRow_made w #[] 0 (Nat.le_refl _) (Nat.zero_le _) rfl
    clear hr hc hlt hlen
    go_enter Tryz.func68, Tryz.ntmps68
    go_wp2_with (at_builtin; go_must (refine wpList_append_keep rfl _ _ 120 rfl w.heap.size 138 i0 (.pointer none) 8 Tryz.underlying120 hi hz0 hz1 hz2 rfl _ _ _ rfl HO.out ⟨g, off, sp⟩ n cap xs rfl (by have := HLEN.out; omega) HC.out H1.out (by unfold maxLen; omega) (by omega) (by simp) ?_))
    intro v' w' hown hgr _ _
    have HO' := hide hown
    have HB : Hid (Below w.heap.size w w') := ((Below.refl _ _).alloc (Nat.le_refl _) _).grown hgr (by simp) (fun k hk => by simp [Value.ownBlock] at hk; omega)
    obtain ⟨a', cap', rfl⟩ := (Reads.of_owns hown).shape
    clear hown hgr
    go_wp2
    go_ret
    refine ⟨_, rfl, ?_, HB.out⟩
    have := HO'.out
    simpa using this

set_option maxRecDepth 100000 in
set_option maxHeartbeats 1000000 in
/-- One snapshot more. -/
theorem snapWith_any (base : Nat) (xs : List Value) (n : Nat) (v : Value) (g : Int) (a : Option Addr) (m c : Nat) (w : World) (hown : w.ownsRow base 142 2 v n xs) (hn : n ≤ 1000) (hbase : base ≤ w.heap.size) :
    Calls Tryz.prog 67 #[v, .agg #[.int .i64 g, .slice a m c]] w fun r w' =>
      ∃ v', r = .returned v' ∧ w'.ownsRow base 142 2 v' (n + 1) (xs ++ [.int .i64 g, .slice a m c]) ∧ w.grownBy w' v.ownBlock ∧ ∀ q, v'.ownBlock = some q → v.ownBlock = some q ∨ w.heap.size ≤ q := by
  obtain ⟨i0, hi0, hz0, hzs, hzb⟩ := info_parts Tryz.infoSnap
  have HO := hide ((hown.alloc (.cells #[.int .i64 g, .slice a m c] 142)).alloc (.cells #[.int .i64 g, .slice a m c] 142))
  obtain ⟨b, cap, rfl⟩ := (Reads.of_owns hown).shape
  clear hown
  go_enter Tryz.func67, Tryz.ntmps67
  go_wp2_with (at_builtin; refine wpList_append_row rfl _ _ 130 130 rfl base 142 142 i0 (.agg #[.int .i64 0, .slice none 0 0]) 2 32 Tryz.underlying130 Tryz.underlying130 hi0 hz0 hzs hzb rfl (by omega) _ _ _ rfl HO.out ⟨w.heap.size + 1, 0, none⟩ 1 1 [.int .i64 g, .slice a m c] rfl rfl (news_two (by simp)) (by intro u hu; simp at hu; rcases hu with rfl | rfl <;> rfl) (by unfold maxLen; omega) (by omega) (by simp; omega) ?_)
  intro v' w' hown hgr hat
  have HANS : Hid (w'.ownsRow base 142 2 v' (n + 1) (xs ++ [.int .i64 g, .slice a m c]) ∧ w.grownBy w' (Value.slice b n cap).ownBlock ∧ ∀ q, v'.ownBlock = some q → (Value.slice b n cap).ownBlock = some q ∨ w.heap.size ≤ q) := by
    refine ⟨hown, ⟨hgr.os, hgr.tape, hgr.output, by have := hgr.size; simp at this; omega, fun k hk hne => ?_⟩, fun q hq => ?_⟩
    · rw [hgr.block k (by simp; omega) hne, Below.heap_alloc _ _ _ (by simp; omega), Below.heap_alloc _ _ _ hk]
    · rcases hat with h | h
      · exact .inl (by rw [← h]; exact hq)
      · rw [h] at hq; simp at hq; exact .inr (by omega)
  obtain ⟨a', cap', rfl⟩ := (Reads.of_owns hown).shape
  clear hown hgr hat
  go_wp2
  go_ret
  exact ⟨_, rfl, HANS.out⟩
set_option maxRecDepth 100000 in
set_option maxHeartbeats 1000000 in
/-- .. one less. -/
theorem snapWithout_any (base : Nat) (xs : List Value) (n : Nat) (v : Value) (i : Nat) (w : World) (hown : w.ownsRow base 142 2 v n xs) (h1 : ∀ u ∈ xs, u.oneCell' = true) (hi : i < n) (hn : n ≤ 1000) :
    Calls Tryz.prog 70 #[v, .int .i64 i] w fun r w' =>
      ∃ v', r = .returned v' ∧ w'.ownsRow base 142 2 v' (n - 1) (xs.take (i * 2) ++ xs.drop (i * 2 + 2)) ∧ w.grownBy w' v.ownBlock ∧ v'.ownBlock = v.ownBlock := by
  have HO := hide hown
  obtain ⟨a, cap, rfl⟩ := (Reads.of_owns hown).shape
  clear hown
  go_enter Tryz.func70, Tryz.ntmps70
  go_wp2_with fail
  refine (DeleteS_any base _ n i xs _ HO.out hi hn h1).mono ?_
  rintro r w1 ⟨v1, rfl, hown1, hgr1, hat1⟩
  have HANS := hide (And.intro hown1 (And.intro hgr1 hat1))
  obtain ⟨a1, cap1, rfl⟩ := (Reads.of_owns hown1).shape
  clear hown1 hgr1 hat1
  go_wp2
  go_ret
  exact ⟨_, rfl, HANS.out⟩
theorem snapCells_take (V : Nat → Value) (l : List (Nat × Tm.Vers)) (j : Nat) (hj : j ≤ l.length) : snapCells V (l.take j) = (snapCells V l).take (j * 2) := by
  have h1 : snapCells V l = snapCells V (l.take j) ++ snapCells V (l.drop j) := by rw [← snapCells_append, List.take_append_drop]
  have h2 : (snapCells V (l.take j)).length = j * 2 := by rw [snapCells_length]; simp; omega
  conv => rhs; rw [h1]
  exact (List.take_left' h2).symm
theorem snapCells_drop (V : Nat → Value) (l : List (Nat × Tm.Vers)) (j : Nat) (hj : j ≤ l.length) : snapCells V (l.drop j) = (snapCells V l).drop (j * 2) := by
  have h1 : snapCells V l = snapCells V (l.take j) ++ snapCells V (l.drop j) := by rw [← snapCells_append, List.take_append_drop]
  have h2 : (snapCells V (l.take j)).length = j * 2 := by rw [snapCells_length]; simp; omega
  rw [h1]
  exact (List.drop_left' h2).symm
theorem snapCells_one {V : Nat → Value} {l : List (Nat × Tm.Vers)} (hV : AllSlices V l) : ∀ u ∈ snapCells V l, u.oneCell' = true := by
  intro u hu
  obtain ⟨g, hg, he⟩ := List.mem_flatMap.1 hu
  obtain ⟨a, n, c, e⟩ := hV g hg
  simp [e] at he
  rcases he with rfl | rfl <;> rfl

set_option maxRecDepth 100000 in
set_option maxHeartbeats 2000000 in
theorem IxRelease_any (lns : List Tm.Ln) (bc : Nat) (st : Int) (sh : Bool) (X : Nat) (S : Nat → Prop) (bx : Nat) (s : IxSt) (hd : Int) (w : World) (hx : Ix w X S bx bc st sh lns s) :
    Calls Tryz.prog 28 #[.pointer (some ⟨bx, 0, none⟩), .int .i64 hd] w fun e w' => e = .returned (.int .i64 (if heldAt s hd < s.held.length then 0 else 9)) ∧ IxStep w w' X S bx bc st sh lns (letSt s hd) := by
  obtain ⟨F, B, V, v, vh, hi⟩ := hx.mem
  have h8 := hx.ok.held8
  have hl := (hx.from_ bx hx.own).2
  have hrd := Reads.of_owns hi.held
  have HF := hide (snapFind_any hd V s.held vh w hrd hi.slices (by omega))
  rw [placeIn_held] at HF
  have c2 := hi.c2
  have HX := hide hx
  have HI := hide hi
  have HOKP := hide (hx.ok.let_ hd)
  have HC2 := hide c2
  obtain ⟨a, cap, rfl⟩ := hrd.shape
  clear hx hi hrd
  by_cases hlt : heldAt s hd < s.held.length
  · rw [if_pos hlt] at HF ⊢
    have HS : Hid (letSt s hd = { s with held := s.held.eraseIdx (heldAt s hd), given := s.given }) := rfl
    obtain ⟨k, hk⟩ : ∃ k, heldAt s hd = k := ⟨_, rfl⟩
    rw [hk] at HF HS hlt
    clear hk
    have i1 : ¬ ((k : Int) < 0) := by omega
    go_enter Tryz.func28, Tryz.ntmps28
    go_wp2_with fail
    refine HF.out.mono ?_
    rintro e w1 ⟨rfl, hb1⟩
    have HB1 := hide hb1
    have hz1 := hb1.size
    have c21 : w1.cell? ⟨bx, 2, none⟩ = some (.slice a s.held.length cap) := by rw [hb1.cell (p := ⟨bx, 2, none⟩) hl]; exact c2
    have f21 : w1.frozen? ⟨bx, 2, none⟩ = false := by rw [hb1.frozen (p := ⟨bx, 2, none⟩) hl]; exact HX.out.free 2
    have HO1 : Hid (w1.ownsRow X 142 2 (.slice a s.held.length cap) s.held.length (snapCells V s.held)) := ownsRow_same HI.out.held (fun g hg => hb1.block g (HI.out.held.lt g hg).2)
    clear hb1 c2
    go_wp2_with fail
    refine (snapWithout_any X (snapCells V s.held) s.held.length _ k _ HO1.out (snapCells_one HI.out.slices) hlt (by omega)).mono ?_
    rintro e w3 ⟨v3, rfl, hown3, hgr3, hat3⟩
    have hz3 := hgr3.size
    have hne : (Value.slice a s.held.length cap).ownBlock ≠ some bx := fun e => (HI.out.hS bx e).2.1 rfl
    have hbk1 : w3.heap[bx]? = w1.heap[bx]? := hgr3.block bx (by omega) (fun e => hne e.symm)
    have hbk : w3.heap[bx]? = w.heap[bx]? := hbk1.trans (HB1.out.block bx hl)
    have c23 : w3.cell? ⟨bx, 2, none⟩ = some (.slice a s.held.length cap) := by rw [World.cell?_of_block (a := ⟨bx, 2, none⟩) hbk1]; exact c21
    have f23 : w3.frozen? ⟨bx, 2, none⟩ = false := by rw [World.frozen?_of_block (a := ⟨bx, 2, none⟩) hbk1]; exact f21
    have hne3 : v3.ownBlock ≠ some bx := by rw [hat3]; exact hne
    have HANS : Hid (IxStep w (w3.setCell ⟨bx, 2, none⟩ v3) X S bx bc st sh lns (letSt s hd)) := by
      unfold Hid
      rw [HS.out]
      refine HX.out.turnHeld HI.out (h' := v3) _ _ (Foot.setCell (p := ⟨bx, 2, none⟩) ((Foot.of HB1.out).grown hgr3 (fun k e => .inl (.inr e))) (.inl (.inl rfl)) _) ?_ ?_ ?_ ?_ (fun o => ?_) V (fun _ => False) ?_ (fun g e => .inl (by rw [← hat3]; exact e)) (fun _ e => e.elim) (fun g hg => .inl ⟨List.mem_of_mem_eraseIdx hg, rfl⟩) (by have := HOKP.out; rw [HS.out] at this; exact this)
      · rw [World.cell?_setCell_other _ _ _ _ (by simp)]
        exact World.cell?_of_block (a := ⟨bx, 0, none⟩) hbk
      · rw [World.cell?_setCell_other _ _ _ _ (by simp)]
        exact World.cell?_of_block (a := ⟨bx, 1, none⟩) hbk
      · exact World.cell?_setCell_same _ _ _ ((World.cell?_of_block (a := ⟨bx, 2, none⟩) hbk).trans HC2.out)
      · rw [World.cell?_setCell_other _ _ _ _ (by simp)]
        exact (World.cell?_of_block (a := ⟨bx, 3, none⟩) hbk).trans HX.out.c3
      · rw [World.frozen?_setCell]
        exact World.frozen?_of_block (a := ⟨bx, o, none⟩) hbk
      · have e1 : snapCells V (s.held.eraseIdx k) = (snapCells V s.held).take (k * 2) ++ (snapCells V s.held).drop (k * 2 + 2) := by
          rw [List.eraseIdx_eq_take_drop_succ, snapCells_append, snapCells_take _ _ _ (by omega), snapCells_drop _ _ _ (by omega), show (k + 1) * 2 = k * 2 + 2 by omega]
        rw [e1, List.length_eraseIdx, if_pos hlt]
        exact ownsRow_same hown3 (fun g e => Below.heap_setCell _ _ _ _ (by rintro rfl; exact hne3 e))
    obtain ⟨a3, cap3, rfl⟩ := (Reads.of_owns hown3).shape
    have hl3 : bx < w3.heap.size := by omega
    clear hown3 hgr3 hat3 hbk hbk1 hne hne3
    go_wp2
    go_ret
    exact ⟨rfl, HANS.out⟩
  · rw [if_neg hlt] at HF ⊢
    have HS : Hid (letSt s hd = s) := by unfold Hid letSt; rw [List.eraseIdx_of_length_le (by omega)]
    go_enter Tryz.func28, Tryz.ntmps28
    go_wp2_with fail
    refine HF.out.mono ?_
    rintro e w1 ⟨rfl, hb1⟩
    have HANS : Hid (IxStep w w1 X S bx bc st sh lns (letSt s hd)) := by
      unfold Hid
      rw [HS.out]
      exact IxStep.of_below HX.out hb1
    clear hb1
    go_wp2
    go_ret
    exact ⟨rfl, HANS.out⟩
end Go.Proofs.YtmnjjjhmnhfapaaGreatDoor
