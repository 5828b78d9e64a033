import Derived.Test.YtmnjjjhmnhfapaaDoorMRefRunes
import Derived.Test.YtmnjjjhmnhfapaaDoorMNormPlain
import Derived.Test.YtmnjjjhmnhfapaaDoorMCodeArr
import Derived.Test.YtmnjjjhmnhfapaaDoorMAppKeep
namespace Go.Proofs.YtmnjjjhmnhfapaaDoor
open Go.RowKit

/-- A row of numbers that is sorted in place; none: nothing is held. -/
def Held (w : World) (base : Nat) (a : Option Addr) (xs : List Int) : Prop :=
  (xs = [] ∧ a = none) ∨ ∃ g, a = some ⟨g, 0, none⟩ ∧ base ≤ g ∧ g < w.heap.size ∧ Ints w g 0 xs
theorem Held.of_owns {w : World} {base n cap : Nat} {a : Option Addr} {xs : List Int} (h : w.ownsRow base 3 1 (.slice a n cap) xs.length (ints xs)) : Held w base a xs := by
  have hn := (Reads.of_owns h).fits.1
  obtain ⟨m, hm⟩ : ∃ m, xs.length = m := ⟨_, rfl⟩
  rw [hm] at h hn
  subst hn
  rcases h.2 with ⟨h1, h2⟩ | ⟨g, c, cur, h1, hg, _⟩
  · cases h1
    exact .inl ⟨List.eq_nil_of_length_eq_zero hm, rfl⟩
  · cases h1
    exact .inr ⟨g, rfl, hg, (h.lt g rfl).2, owns_ints h⟩
theorem Held.reads {w : World} {base cap : Nat} {a : Option Addr} {xs : List Int} (h : Held w base a xs) (hc : xs.length ≤ cap) (hm : cap ≤ maxLen) : Reads w (.slice a xs.length cap) 1 xs.length (ints xs) := by
  refine ⟨by simp [ints], ?_, a, cap, rfl, ⟨hc, hm⟩, ?_⟩
  · rcases h with ⟨_, rfl⟩ | ⟨g, rfl, _, hg, _⟩
    · intro g hg; simp [Value.ownBlock] at hg
    · intro g' hg'; simp [Value.ownBlock] at hg'; omega
  · intro j u hu
    rcases h with ⟨rfl, _⟩ | ⟨g, rfl, _, _, hi⟩
    · simp [ints] at hu
    · simp only [ints, List.getElem?_map, Option.map_eq_some_iff] at hu
      obtain ⟨x, hx, rfl⟩ := hu
      exact ⟨g, 0, rfl, (hi j x hx).1⟩
theorem Ints.below {w w' : World} {g off B : Nat} {xs : List Int} (h : Ints w g off xs) (hb : Below B w w') (hg : g < B) : Ints w' g off xs := by
  intro j x hx
  obtain ⟨h1, h2⟩ := h j x hx
  refine ⟨?_, ?_⟩
  · rw [World.cell?_of_block (hb.block g hg)]; exact h1
  · rw [World.frozen?_of_block (hb.block g hg)]; exact h2
theorem Held.below {w w' : World} {base B : Nat} {a : Option Addr} {xs : List Int} (h : Held w base a xs) (hb : Below B w w') (hB : w.heap.size ≤ B) : Held w' base a xs := by
  rcases h with h | ⟨g, rfl, h1, h2, h3⟩
  · exact .inl h
  · exact .inr ⟨g, rfl, h1, Nat.lt_of_lt_of_le h2 hb.size, h3.below hb (by omega)⟩
theorem split_two {ys : List Int} {j : Nat} (h : j + 1 < ys.length) : ys = ys.take j ++ ys[j] :: ([] ++ ys[j + 1] :: ys.drop (j + 2)) := by
  have h1 : ys.drop j = ys[j] :: ys[j + 1] :: ys.drop (j + 2) := by
    rw [List.drop_eq_getElem_cons (by omega), List.drop_eq_getElem_cons (by omega)]
  rw [List.nil_append, ← h1, List.take_append_drop]

def stepsSt (lns : List Tm.Ln) (E l : List Int) (t : Bool) : Prop := if t then ∃ n, n ≤ 4 ∧ l.all (Tm.ends lns n) = true ∧ l.flatMap (Tm.expand lns n) = E else l = E
theorem stepsSt.go {lns : List Tm.Ln} {E l : List Int} (h : stepsSt lns E l true) : stepsSt lns E (Tm.stepAll lns l) (Tm.hasParts lns l) := by
  obtain ⟨n, hn, ha, he⟩ := h
  cases hp : Tm.hasParts lns l
  · show Tm.stepAll lns l = E
    rw [Tm.step_stop hp, ← he, Tm.flat_leaf hp]
  · exact Tm.depth_step ha hn he hp
theorem stepsSt.short {lns : List Tm.Ln} {E l : List Int} {t : Bool} (h : stepsSt lns E l t) : l.length ≤ E.length := by
  cases t
  · have : l = E := h
    rw [this]; exact Nat.le_refl _
  · obtain ⟨n, hn, ha, he⟩ := h
    rw [← he]; exact Tm.flat_long n l
/-- How many steps are left. -/
noncomputable def stepsLeft (lns : List Tm.Ln) (w : World) (v y : Value) : Nat := match y with
  | .bool true => Tm.depth lns (listOf w v) + 1
  | _ => 0
theorem stepsSt.less {lns : List Tm.Ln} {E l : List Int} {w w' : World} {v v' : Value} (h : stepsSt lns E l true) (h1 : listOf w v = l) (h2 : listOf w' v' = Tm.stepAll lns l) : stepsLeft lns w' v' (.bool (Tm.hasParts lns l)) < stepsLeft lns w v (.bool true) := by
  obtain ⟨n, hn, ha, he⟩ := h
  unfold stepsLeft
  rw [h1, h2]
  cases hp : Tm.hasParts lns l
  · exact Nat.succ_pos _
  · have := Tm.depth_less ha hn hp
    simp only; omega
/-- How much the passes have left. -/
noncomputable def passLeft (k : Int → Int) (w : World) (v y : Value) : Nat := 2 * Tm.inv k (listOf w v) + match y with
  | .bool true => 1
  | _ => 0
/-- A pass as far as j. -/
structure Pass (k : Int → Int) (E xs ys : List Int) (t : Bool) (j : Nat) : Prop where
  len : ys.length = xs.length
  same : Tm.ord k ys = Tm.ord k E
  still : t = false → ys = xs ∧ ∀ m, m < j → m + 1 < xs.length → Tm.wrong k (xs.getD m 0) (xs.getD (m + 1) 0) = false
  less : t = true → Tm.inv k ys < Tm.inv k xs
theorem getD_at {l : List Int} {j : Nat} (h : j < l.length) : l.getD j 0 = l[j] := by simp [List.getD, h]
theorem Pass.on {k : Int → Int} {E xs ys : List Int} {t : Bool} {j : Nat} (h : Pass k E xs ys t j) (hj : j + 1 < ys.length) (hw : Tm.wrong k ys[j] ys[j + 1] = false) : Pass k E xs ys t (j + 1) := by
  refine ⟨h.len, h.same, fun ht => ?_, h.less⟩
  obtain ⟨rfl, h2⟩ := h.still ht
  refine ⟨rfl, fun m hm hl => ?_⟩
  by_cases e : m = j
  · subst e
    rw [getD_at (by omega), getD_at hj]; exact hw
  · exact h2 m (by omega) hl
theorem Pass.swap {k : Int → Int} {E xs ys : List Int} {t : Bool} {j : Nat} (h : Pass k E xs ys t j) (hj : j + 1 < ys.length) (hw : Tm.wrong k ys[j] ys[j + 1] = true) : Pass k E xs (ys.take j ++ ys[j + 1] :: ([] ++ ys[j] :: ys.drop (j + 2))) true (j + 1) := by
  have hw' : k ys[j + 1] ≠ 0 ∧ k ys[j + 1] < k ys[j] := by simpa [Tm.wrong] using hw
  have e := split_two hj
  have hi : Tm.inv k ys = Tm.inv k (ys.take j ++ ys[j + 1] :: ys[j] :: ys.drop (j + 2)) + 1 := by
    rw [← Tm.inv_swap hw'.1 hw'.2]
    exact congrArg (Tm.inv k) e
  have ho : Tm.ord k ys = Tm.ord k (ys.take j ++ ys[j + 1] :: ys[j] :: ys.drop (j + 2)) := by
    rw [← Tm.ord_swap hw'.1 hw'.2]
    exact congrArg (Tm.ord k) e
  refine ⟨?_, ?_, fun ht => (by cases ht), fun _ => ?_⟩
  · have := h.len
    simp; omega
  · rw [List.nil_append, ← ho]; exact h.same
  · rw [List.nil_append]
    cases t
    · have := (h.still rfl).1
      subst this; omega
    · have := h.less rfl; omega
theorem Pass.calm {k : Int → Int} {E xs ys : List Int} {j : Nat} (h : Pass k E xs ys false j) (hj : xs.length ≤ j + 1) : Tm.Calm k ys := by
  obtain ⟨rfl, h2⟩ := h.still rfl
  exact Tm.calm_of fun m hm => h2 m (by omega) hm
theorem Pass.left {k : Int → Int} {E xs ys : List Int} {t : Bool} {j : Nat} {w w' : World} {v : Value} (h : Pass k E xs ys t j) (h1 : listOf w v = xs) (h2 : listOf w' v = ys) : passLeft k w' v (.bool t) < passLeft k w v (.bool true) := by
  unfold passLeft
  rw [h1, h2]
  cases t
  · have := (h.still rfl).1
    subst this
    simp
  · have := h.less rfl
    simp only; omega
end Go.Proofs.YtmnjjjhmnhfapaaDoor
namespace Go.Proofs.YtmnjjjhmnhfapaaDoor
open Go.RowKit

set_option maxRecDepth 100000 in
theorem markInt_any (n : Int) (w : World) (h : 0 ≤ n ∧ n ≤ 1000000000) :
    Calls Tryd.prog 33 #[.int .i64 n] w fun e w' => e = .returned (.int .i64 (-1000 - n)) ∧ w' = w := by
  obtain ⟨h1, h2⟩ := h
  go_enter Tryd.func33, Tryd.ntmps33
  go_wp2
  go_ret
  exact ⟨rfl, rfl⟩

/-- The first k numbers written over. -/
def filled (m : Int) (xs : List Int) (k : Nat) : List Int := List.replicate k m ++ xs.drop k
theorem filled_zero (m : Int) (xs : List Int) : filled m xs 0 = xs := by simp [filled]
theorem filled_all (m : Int) (xs : List Int) : filled m xs xs.length = List.replicate xs.length m := by simp [filled]
theorem filled_length {m : Int} {xs : List Int} {k : Nat} (h : k ≤ xs.length) : (filled m xs k).length = xs.length := by simp [filled]; omega
theorem Ints.fill {w : World} {g : Nat} {m : Int} {xs : List Int} {k : Nat} (h : Ints w g 0 (filled m xs k)) (hk : k < xs.length) : Ints (w.setCell ⟨g, k, none⟩ (.int .i64 m)) g 0 (filled m xs (k + 1)) := by
  intro j u hu
  rw [World.frozen?_setCell]
  by_cases e : j = k
  · subst e
    have hu' : u = m := by
      rw [filled, List.getElem?_append_left (by simp)] at hu
      simpa using hu.symm
    subst hu'
    have hx := h j xs[j] (by rw [filled, List.getElem?_append_right (by simp)]; simp [hk])
    rw [Nat.zero_add] at hx ⊢
    exact ⟨World.cell?_setCell_same _ _ _ hx.1, hx.2⟩
  · rw [World.cell?_setCell_other _ _ _ _ (by simp <;> omega)]
    refine h j u ?_
    rw [← hu, filled, filled]
    by_cases e2 : j < k
    · rw [List.getElem?_append_left (by simp; omega), List.getElem?_append_left (by simp; omega)]
      simp [e2, show j < k + 1 by omega]
    · rw [List.getElem?_append_right (by simp; omega), List.getElem?_append_right (by simp; omega)]
      simp [List.getElem?_drop]
      congr 1; omega
/-- A slice that lies at the head of a longer one reads as its head. -/
theorem Reads.head {w w0 : World} {g n cap m cap1 : Nat} {xs ys : List Value} (h0 : Reads w0 (.slice (some ⟨g, 0, none⟩) n cap) 1 n xs) (h : Reads w (.slice (some ⟨g, 0, none⟩) m cap1) 1 m (xs ++ ys)) : Reads w (.slice (some ⟨g, 0, none⟩) n cap) 1 n xs := by
  obtain ⟨l0, _, a, c, e0, hc0, _⟩ := h0
  obtain ⟨_, lt, a', c', e, _, hc⟩ := h
  cases e0
  cases e
  refine ⟨l0, fun g' hg' => lt g' (by simpa [Value.ownBlock] using hg'), _, _, rfl, hc0, fun j u hu => ?_⟩
  exact hc j u (by rw [List.getElem?_append_left (List.getElem?_eq_some_iff.1 hu).1]; exact hu)
/-- What a slice reads as stays, where a longer one at the same place stays, or nothing turns at its place. -/
theorem Reads.stay {w0 w1 w2 : World} {base base' : Nat} {e : TypeId} {v v1 : Value} {n m : Nat} {xs ys : List Value} (h0 : w0.ownsRow base e 1 v n xs) (h1 : Reads w1 v 1 n xs) (hv1 : w1.ownsRow base' e 1 v1 m (xs ++ ys)) (hg : w1.grownBy w2 v1.ownBlock) (h2 : Reads w2 v1 1 m (xs ++ ys)) : Reads w2 v 1 n xs := by
  rcases h0.2 with ⟨rfl, rfl⟩ | ⟨g, cap, cur, rfl, _⟩
  · exact h1.of_blocks hg.size (fun g hg => by simp [Value.ownBlock] at hg)
  · by_cases he : v1.ownBlock = some g
    · rcases hv1.2 with ⟨rfl, rfl⟩ | ⟨g', cap', cur', rfl, _⟩
      · simp [Value.ownBlock] at he
      · simp [Value.ownBlock] at he
        subst he
        exact Reads.head h1 h2
    · refine h1.of_blocks hg.size (fun g' hg' => hg.block g' (h1.2.1 g' hg') ?_)
      simp [Value.ownBlock] at hg'
      subst hg'
      exact fun h => he h.symm
end Go.Proofs.YtmnjjjhmnhfapaaDoor
namespace Go.Proofs.YtmnjjjhmnhfapaaDoor
open Go.RowKit

theorem news_quad {w : World} {x y z u : Value} {t : TypeId} : ∀ j q, [x, y, z, u][j]? = some q → (w.alloc (.cells #[x, y, z, u] t)).cell? ((⟨w.heap.size, 0, none⟩ : Addr).add j) = some q := by
  intro j q hj
  match j, hj with
  | 0, hj => simp at hj; subst hj; simp [Addr.add]
  | 1, hj => simp at hj; subst hj; simp [Addr.add]
  | 2, hj => simp at hj; subst hj; simp [Addr.add]
  | 3, hj => simp at hj; subst hj; simp [Addr.add]
theorem ints_more (n : Nat) (mk : Int) : ints (List.replicate n mk) ++ [.int .i64 mk] = ints (List.replicate (n + 1) mk) := by
  rw [List.replicate_succ']; simp [ints]
theorem ints_more2 (n : Nat) (mk : Int) : ints (List.replicate n mk) ++ [.int .i64 mk, .int .i64 mk] = ints (List.replicate (n + 2) mk) := by
  rw [← ints_more (n + 1), ← ints_more n]; simp
theorem ints_more3 (n : Nat) (mk : Int) : ints (List.replicate n mk) ++ [.int .i64 mk, .int .i64 mk, .int .i64 mk] = ints (List.replicate (n + 3) mk) := by
  rw [← ints_more (n + 2), ← ints_more2 n]; simp
theorem Reads.set {w : World} {v : Value} {size n : Nat} {xs : List Value} (h : Reads w v size n xs) {a : Addr} (ha : v.ownBlock ≠ some a.block) (u : Value) : Reads (w.setCell a u) v size n xs :=
  h.of_blocks (by simp [World.setCell]) (fun g hg => Below.heap_setCell _ _ _ _ (by rintro rfl; exact ha hg))
/-- What keepInts leaves. -/
structure Kept (bb B base : Nat) (vb v : Value) (rows : List Value) (n : Nat) (mk : Int) (w w' : World) (vb' v1 v2 v3 : Value) : Prop where
  cell : w'.cell? ⟨bb, 0, none⟩ = some vb'
  free : w'.frozen? ⟨bb, 0, none⟩ = false
  rest : ∀ o, o ≠ 0 → w'.cell? ⟨bb, o, none⟩ = w.cell? ⟨bb, o, none⟩
  row : w'.ownsRow B 53 1 vb' (rows.length + 4) (rows ++ [v, v1, v2, v3])
  at' : ∀ g, vb'.ownBlock = some g → vb.ownBlock = some g ∨ w.heap.size ≤ g
  size : w.heap.size ≤ w'.heap.size
  os : w'.os = w.os
  tape : w'.tape = w.tape
  output : w'.output = w.output
  r0 : Reads w' v 1 n (ints (List.replicate n mk))
  r1 : Reads w' v1 1 (n + 1) (ints (List.replicate (n + 1) mk))
  r2 : Reads w' v2 1 (n + 2) (ints (List.replicate (n + 2) mk))
  r3 : Reads w' v3 1 (n + 3) (ints (List.replicate (n + 3) mk))
  far : ∀ u ∈ [v, v1, v2, v3], ∀ g, u.ownBlock = some g → base ≤ g ∧ vb'.ownBlock ≠ some g
  block : ∀ k, k < base → k ≠ bb → vb.ownBlock ≠ some k → w'.heap[k]? = w.heap[k]?

set_option maxRecDepth 100000 in
set_option maxHeartbeats 4000000 in
theorem keepInts_any (bb B base : Nat) (vb v : Value) (rows : List Value) (xs : List Int) (w : World) (hc : w.cell? ⟨bb, 0, none⟩ = some vb) (hf : w.frozen? ⟨bb, 0, none⟩ = false) (hrow : w.ownsRow B 53 1 vb rows.length rows) (hl : w.ownsRow base 3 1 v xs.length (ints xs)) (hbb : bb < base) (hvb : ∀ g, vb.ownBlock = some g → g < base ∧ g ≠ bb) (hbase : base ≤ w.heap.size) (hB : B ≤ base) (hr9 : rows.length ≤ 100000000) (hx9 : xs.length ≤ 100000) :
    Calls Tryd.prog 32 #[.pointer (some ⟨bb, 0, none⟩), v] w fun e w' => e = .returned (.tuple #[]) ∧ ∃ vb' v1 v2 v3, Kept bb B base vb v rows xs.length (-1000 - ((rows.length : Nat) : Int) / 4) w w' vb' v1 v2 v3 := by
  obtain ⟨i0, hi, hz0, hz1, hz2⟩ := info_parts Tryd.infoInt
  obtain ⟨i1, ki, kz0, kz1, kz2⟩ := info_parts (show (Tryd.prog.info? 53).map (fun i => (i.zero, i.size, i.bytes)) = some (some (.slice none 0 0), 1, 24) by kernel_rfl)
  obtain ⟨ab, capb, rfl⟩ := (Reads.of_owns hrow).shape
  obtain ⟨al, capl, rfl⟩ := (Reads.of_owns hl).shape
  have HROW := hide hrow
  have HL := hide hl
  have HVB := hide hvb
  obtain ⟨R, hR⟩ : ∃ R, rows.length = R := ⟨_, rfl⟩
  rw [hR] at hr9 hc
  have HR := hide hR
  obtain ⟨n, hn⟩ : ∃ n, xs.length = n := ⟨_, rfl⟩
  rw [hn] at hx9
  have HNN := hide hn
  simp only [hn]
  clear hrow hl hvb
  have q1 : (0 : Int) ≤ (R : Int) / 4 := by omega
  have q2 : (R : Int) / 4 ≤ 1000000000 := by omega
  go_enter Tryd.func32, Tryd.ntmps32
  go_wp2_with fail
  refine (markInt_any _ _ ⟨q1, q2⟩).mono ?_
  rintro e w1 ⟨rfl, rfl⟩
  obtain ⟨mk, hmk⟩ : ∃ mk : Int, -1000 - (R : Int) / 4 = mk := ⟨_, rfl⟩
  rw [hmk]
  go_wp2
  go_loopw [5] (fun i wr => ∃ k : Nat, k ≤ n ∧ i = .int .i64 k ∧ wr.ownsRow base 3 1 (.slice al n capl) n (ints (filled mk xs k)) ∧ w1.grownBy wr (Value.slice al n capl).ownBlock ∧ wr.heap.size = w1.heap.size) (fun i _ => n - (intOf i).toNat)
  case atStart => exact ⟨0, Nat.zero_le _, rfl, by rw [filled_zero]; have := HL.out; rw [HNN.out] at this; exact this, ⟨rfl, rfl, rfl, Nat.le_refl _, fun _ _ _ => rfl⟩, rfl⟩
  case round =>
    obtain ⟨k, hk, rfl, hown, hgr, hsz⟩ := hrel
    by_cases hlt : k < n
    · rcases hown.2 with ⟨h1, h2⟩ | ⟨g, c, cur, h1, hg, _⟩
      · omega
      · cases h1
        have hI := owns_ints hown
        have hck := hI.at (j := k) (by rw [filled_length (by omega)]; omega)
        rw [Nat.zero_add] at hck
        have HI2 := hide (hI.fill (by omega))
        have HO2 : Hid ((wr.setCell ⟨g, k, none⟩ (.int .i64 mk)).ownsRow base 3 1 (.slice (some ⟨g, 0, none⟩) n capl) n (ints (filled mk xs (k + 1)))) :=
          owns_turned hown ((Turn.refl g 0 n wr).setCell (Nat.zero_le _) (by omega) _) HI2.out (by rw [filled_length (by omega), filled_length (by omega)])
        have HG2 : Hid (w1.grownBy (wr.setCell ⟨g, k, none⟩ (.int .i64 mk)) (some g)) := ⟨hgr.os, hgr.tape, hgr.output, by simpa [World.setCell] using hgr.size, fun q hq hne => by rw [Below.heap_setCell _ _ _ _ (by simp at hne; exact hne)]; exact hgr.block q hq (by simpa [Value.ownBlock] using hne)⟩
        obtain ⟨ck, fk⟩ := hck
        clear hown hgr hI
        go_wp2
        go_roundw
        case rel => exact ⟨k + 1, by omega, by go_num, HO2.out, HG2.out, by simpa [World.setCell] using hsz⟩
        case measure => simp [intOf]; omega
    · have hkn : k = n := by omega
      have hfull : filled mk xs k = List.replicate n mk := by rw [hkn, ← HNN.out]; exact filled_all _ _
      rw [hfull] at hown
      have HO := hide hown
      have HG := hide hgr
      have hblk : ∀ g, (Value.slice al n capl).ownBlock = some g → base ≤ g := fun g h => (hown.lt g h).1
      have HSEP : Hid ((Value.slice ab R capb).ownBlock = none ∨ (Value.slice ab R capb).ownBlock ≠ (Value.slice al n capl).ownBlock) := by
        cases hob : (Value.slice ab R capb).ownBlock with
        | none => exact .inl rfl
        | some g =>
          refine .inr fun h => ?_
          have h1 := (HVB.out g (by rw [HR.out]; exact hob)).1
          have h2 := hblk g h.symm
          omega
      have cb : wr.cell? ⟨bb, 0, none⟩ = some (.slice ab R capb) := by
        rw [World.cell?_of_block (hgr.block bb (by omega) (fun h => by have := hblk bb h.symm; omega))]; exact hc
      have fb : wr.frozen? ⟨bb, 0, none⟩ = false := by
        rw [World.frozen?_of_block (hgr.block bb (by omega) (fun h => by have := hblk bb h.symm; omega))]; exact hf
      have HRW : Hid (wr.ownsRow B 53 1 (.slice ab R capb) R rows) := by
        have h := HROW.out
        rw [HR.out] at h
        exact h.kept HG.out HSEP.out
      have hbz : base ≤ wr.heap.size := by omega
      have HSZ := hide hsz
      clear hown hgr hfull hsz hblk
      go_wp2_with (at_builtin; refine wpList_append_keep rfl _ _ 53 rfl base 3 i0 (.int .i64 0) 8 Tryd.underlying53 hi hz0 hz1 hz2 rfl _ _ _ rfl (HO.out.alloc _) ⟨wr.heap.size, 0, none⟩ 1 1 [.int .i64 mk] rfl rfl news_one (by intro u hu; simp at hu; subst hu; rfl) (by unfold maxLen; omega) (by omega) (by simp; omega) ?_)
      intro v1 w2 hown1 hgr1 hat1 hrd1
      have z2 := hgr1.size
      have z2 : wr.heap.size + 1 ≤ w2.heap.size := by simpa using z2
      have HO1 := hide hown1
      have HG1 := hide hgr1
      have HAT1 := hide hat1
      have HRD1 := hide hrd1
      obtain ⟨a1, c1, rfl⟩ := (Reads.of_owns hown1).shape
      clear hown1 hgr1 hat1 hrd1
      go_wp2_with (at_builtin; refine wpList_append_keep rfl _ _ 53 rfl base 3 i0 (.int .i64 0) 8 Tryd.underlying53 hi hz0 hz1 hz2 rfl _ _ _ rfl (HO1.out.alloc _) ⟨w2.heap.size, 0, none⟩ 1 1 [.int .i64 mk] rfl rfl news_one (by intro u hu; simp at hu; subst hu; rfl) (by unfold maxLen; omega) (by omega) (by simp; omega) ?_)
      intro v2 w3 hown2 hgr2 hat2 hrd2
      have z3 := hgr2.size
      have z3 : w2.heap.size + 1 ≤ w3.heap.size := by simpa using z3
      have HO2 := hide hown2
      have HG2 := hide hgr2
      have HAT2 := hide hat2
      have HRD2 := hide hrd2
      have HR02 := hide (Reads.stay HO.out (HRD1.out.below ((Below.refl _ _).alloc (Nat.le_refl _) _) HRD1.out.2.1) (HO1.out.alloc _) hgr2 hrd2)
      obtain ⟨a2, c2, rfl⟩ := (Reads.of_owns hown2).shape
      clear hown2 hgr2 hat2 hrd2
      go_wp2_with (at_builtin; refine wpList_append_keep rfl _ _ 53 rfl base 3 i0 (.int .i64 0) 8 Tryd.underlying53 hi hz0 hz1 hz2 rfl _ _ _ rfl (HO2.out.alloc _) ⟨w3.heap.size, 0, none⟩ 1 1 [.int .i64 mk] rfl rfl news_one (by intro u hu; simp at hu; subst hu; rfl) (by unfold maxLen; omega) (by omega) (by simp; omega) ?_)
      intro v3 w4 hown3 hgr3 hat3 hrd3
      have z4 := hgr3.size
      have z4 : w3.heap.size + 1 ≤ w4.heap.size := by simpa using z4
      have HO3 := hide hown3
      have HG3 := hide hgr3
      have HAT3 := hide hat3
      have HRD3 := hide hrd3
      have HR13 := hide (Reads.stay (base' := base) (ys := [.int .i64 mk]) HO1.out (HRD2.out.below ((Below.refl _ _).alloc (Nat.le_refl _) _) HRD2.out.2.1) (by simpa using HO2.out.alloc (.cells #[.int .i64 mk] 3)) hgr3 (by simpa using hrd3))
      have HR03 := hide (Reads.stay (base' := base) (ys := [.int .i64 mk] ++ [.int .i64 mk]) HO.out (HR02.out.below ((Below.refl _ _).alloc (Nat.le_refl _) _) HR02.out.2.1) (by simpa using HO2.out.alloc (.cells #[.int .i64 mk] 3)) hgr3 (by simpa using hrd3))
      obtain ⟨a3, c3, rfl⟩ := (Reads.of_owns hown3).shape
      have HB4 : Hid (Below base wr w4) := ((((((Below.refl base wr).alloc hbz _).grown HG1.out (by simp; omega) (fun q hq => (HO.out.lt q hq).1)).alloc (by omega) _).grown HG2.out (by simp; omega) (fun q hq => (HO1.out.lt q hq).1)).alloc (by omega) _).grown HG3.out (by simp; omega) (fun q hq => (HO2.out.lt q hq).1)
      have HRW4 : Hid (w4.ownsRow B 53 1 (.slice ab R capb) R rows) := ownsRow_same HRW.out (fun q hq => HB4.out.block q (HVB.out q (by rw [HR.out]; exact hq)).1)
      have cb4 : w4.cell? ⟨bb, 0, none⟩ = some (.slice ab R capb) := by rw [HB4.out.cell (p := ⟨bb, 0, none⟩) hbb]; exact cb
      have fb4 : w4.frozen? ⟨bb, 0, none⟩ = false := by rw [World.frozen?_of_block (HB4.out.block bb hbb)]; exact fb
      have hbb4 : bb < w4.heap.size := by omega
      clear hown3 hgr3 hat3 hrd3 cb fb
      go_wp2_with (at_builtin; refine wpList_append_keep rfl _ _ 38 rfl B 53 i1 (.slice none 0 0) 24 Tryd.underlying38 ki kz0 kz1 kz2 rfl _ _ _ rfl (HRW4.out.alloc _) ⟨w4.heap.size, 0, none⟩ 4 4 [.slice al n capl, .slice a1 (n + 1) c1, .slice a2 (n + 1 + 1) c2, .slice a3 (n + 1 + 1 + 1) c3] rfl rfl news_quad (by intro u hu; simp at hu; rcases hu with rfl | rfl | rfl | rfl <;> rfl) (by unfold maxLen; omega) (by omega) (by simp; omega) ?_)
      intro vb' w5 hown5 hgr5 hat5 _
      have z5 : w4.heap.size + 1 ≤ w5.heap.size := by have := hgr5.size; simpa using this
      have hvb5 : ∀ g, (Value.slice ab R capb).ownBlock = some g → g < base ∧ g ≠ bb := fun g hg => HVB.out g (by rw [HR.out]; exact hg)
      have hbk5 : ∀ k, k < w4.heap.size → (Value.slice ab R capb).ownBlock ≠ some k → w5.heap[k]? = w4.heap[k]? := fun k hk hne => by
        rw [hgr5.block k (by simp; omega) (fun e => hne e.symm)]
        exact Below.heap_alloc _ _ _ hk
      have hnb : (Value.slice ab R capb).ownBlock ≠ some bb := fun h => (hvb5 bb h).2 rfl
      have cb5 : w5.cell? ⟨bb, 0, none⟩ = some (.slice ab R capb) := by rw [World.cell?_of_block (hbk5 bb hbb4 hnb)]; exact cb4
      have fb5 : w5.frozen? ⟨bb, 0, none⟩ = false := by rw [World.frozen?_of_block (hbk5 bb hbb4 hnb)]; exact fb4
      have HK : Hid (∃ v1 v2 v3, Kept bb B base (.slice ab R capb) (.slice al n capl) rows n mk w1 (w5.setCell ⟨bb, 0, none⟩ vb') vb' v1 v2 v3) := by
        have hat' : ∀ g, vb'.ownBlock = some g → (Value.slice ab R capb).ownBlock = some g ∨ w4.heap.size ≤ g := fun g hg => by
          rcases hat5 with h | h
          · exact .inl (by rw [← h]; exact hg)
          · rw [h] at hg; simp at hg; exact .inr (by omega)
        have hfar : ∀ u : Value, (∀ g, u.ownBlock = some g → base ≤ g ∧ g < w4.heap.size) → (∀ g, u.ownBlock = some g → base ≤ g ∧ vb'.ownBlock ≠ some g) := fun u hu g hg => by
          refine ⟨(hu g hg).1, fun h => ?_⟩
          rcases hat' g h with h | h
          · have := (hvb5 g h).1; have := (hu g hg).1; omega
          · have := (hu g hg).2; omega
        have hkeep : ∀ (u : Value) (m : Nat) (l : List Value), (∀ g, u.ownBlock = some g → base ≤ g ∧ g < w4.heap.size) → Reads w4 u 1 m l → Reads (w5.setCell ⟨bb, 0, none⟩ vb') u 1 m l := fun u m l hu hr => by
          refine Reads.set (hr.of_blocks (by omega) (fun g hg => hbk5 g (hu g hg).2 (fun h => by have := (hvb5 g h).1; have := (hu g hg).1; omega))) (fun h => by have := (hu bb h).1; omega) _
        have l0 : ∀ g, (Value.slice al n capl).ownBlock = some g → base ≤ g ∧ g < w4.heap.size := fun g hg => ⟨(HO.out.lt g hg).1, HR03.out.2.1 g hg⟩
        have l1 : ∀ g, (Value.slice a1 (n + 1) c1).ownBlock = some g → base ≤ g ∧ g < w4.heap.size := fun g hg => ⟨(HO1.out.lt g hg).1, HR13.out.2.1 g hg⟩
        have l2 : ∀ g, (Value.slice a2 (n + 1 + 1) c2).ownBlock = some g → base ≤ g ∧ g < w4.heap.size := fun g hg => ⟨(HO2.out.lt g hg).1, HRD3.out.2.1 g hg⟩
        have l3 : ∀ g, (Value.slice a3 (n + 1 + 1 + 1) c3).ownBlock = some g → base ≤ g ∧ g < w4.heap.size := fun g hg => HO3.out.lt g hg
        have b1 : Below base w1 w4 := ((Below.refl base w1).grown HG.out hbase (fun q hq => (HO.out.lt q hq).1)).trans HB4.out
        refine ⟨.slice a1 (n + 1) c1, .slice a2 (n + 1 + 1) c2, .slice a3 (n + 1 + 1 + 1) c3, ⟨World.cell?_setCell_same _ _ _ cb5, by rw [World.frozen?_setCell]; exact fb5, ?_, ?_, ?_, ?_, ?_, ?_, ?_, hkeep _ _ _ l0 HR03.out, ?_, ?_, ?_, ?_, ?_⟩⟩
        · intro o ho
          rw [World.cell?_setCell_other _ _ _ _ (by simp <;> omega), World.cell?_of_block (a := ⟨bb, o, none⟩) (hbk5 bb hbb4 hnb), World.cell?_of_block (a := ⟨bb, o, none⟩) (b1.block bb hbb)]
        · rw [HR.out]
          exact owns_setCell hown5 (fun h => by rcases hat' bb h with h | h; exact hnb h; omega) _
        · intro g hg
          rcases hat' g hg with h | h
          · exact .inl h
          · exact .inr (by have := b1.size; omega)
        · have := b1.size; simp [World.setCell]; omega
        · exact (hgr5.os).trans b1.os
        · exact (hgr5.tape).trans b1.tape
        · exact (hgr5.output).trans b1.output
        · exact hkeep _ _ _ l1 (by rw [← ints_more]; exact HR13.out)
        · exact hkeep _ _ _ l2 (by rw [← ints_more2]; simpa using HRD3.out)
        · exact hkeep _ _ _ l3 (by rw [← ints_more3]; simpa using Reads.of_owns HO3.out)
        · intro u hu
          simp only [List.mem_cons, List.not_mem_nil, or_false] at hu
          rcases hu with rfl | rfl | rfl | rfl
          · exact hfar _ l0
          · exact hfar _ l1
          · exact hfar _ l2
          · exact hfar _ l3
        · intro k hk hne hnv
          rw [Below.heap_setCell _ _ _ _ (by simpa using hne), hbk5 k (by omega) hnv]
          exact b1.block k hk
      obtain ⟨ab5, capb5, rfl⟩ := (Reads.of_owns hown5).shape
      clear hown5 hgr5 hat5 hvb5 hbk5
      go_wp2
      go_end0
      obtain ⟨v1, v2, v3, hK⟩ := HK.out
      rw [← HR.out] at hmk
      rw [← hmk] at hK
      exact ⟨rfl, .slice ab5 (R + 4) capb5, v1, v2, v3, by rw [HR.out]; rw [HR.out] at hK; exact hK⟩
end Go.Proofs.YtmnjjjhmnhfapaaDoor
namespace Go.Proofs.YtmnjjjhmnhfapaaDoor
open Go.RowKit

/-- The law's book of lists: the rows of numbers, each written full with the mark of its four. -/
structure BookIs (w : World) (bb B : Nat) (vb : Value) (rows : List Value) : Prop where
  lt : bb < w.heap.size
  le : B ≤ bb
  cell : w.cell? ⟨bb, 0, none⟩ = some vb
  free : w.frozen? ⟨bb, 0, none⟩ = false
  nil : ∀ o, o = 1 ∨ o = 2 ∨ o = 3 → w.cell? ⟨bb, o, none⟩ = some (.slice none 0 0)
  row : w.ownsRow B 53 1 vb rows.length rows
  other : ∀ g, vb.ownBlock = some g → g ≠ bb
  four : rows.length % 4 = 0
  marks : ∀ (i : Nat) (u : Value), rows[i]? = some u → ∃ n, n ≤ 100003 ∧ Reads w u 1 n (ints (List.replicate n (-1000 - (i : Int) / 4))) ∧ ∀ g, u.ownBlock = some g → g ≠ bb ∧ vb.ownBlock ≠ some g

/-- Blocks of the book itself. -/
theorem BookIs.stay {w w' : World} {bb B : Nat} {vb : Value} {rows : List Value} (h : BookIs w bb B vb rows) (hb : Below w.heap.size w w') : BookIs w' bb B vb rows := by
  refine ⟨Nat.lt_of_lt_of_le h.lt hb.size, h.le, ?_, ?_, fun o ho => ?_, ownsRow_same h.row (fun g hg => hb.block g (h.row.lt g hg).2), h.other, h.four, fun i u hu => ?_⟩
  · rw [hb.cell (p := ⟨bb, 0, none⟩) h.lt]; exact h.cell
  · rw [World.frozen?_of_block (hb.block bb h.lt)]; exact h.free
  · rw [hb.cell (p := ⟨bb, o, none⟩) h.lt]; exact h.nil o ho
  · obtain ⟨n, h1, h2, h3⟩ := h.marks i u hu
    exact ⟨n, h1, h2.below hb h2.2.1, h3⟩

/-- One list more. -/
theorem BookIs.kept {w0 w w' : World} {bb B : Nat} {vb vb' v v1 v2 v3 : Value} {rows : List Value} {n : Nat} (h : BookIs w0 bb B vb rows) (hb : Below w0.heap.size w0 w) (hk : Kept bb B w0.heap.size vb v rows n (-1000 - ((rows.length : Nat) : Int) / 4) w w' vb' v1 v2 v3) (hn : n ≤ 100000) :
    BookIs w' bb B vb' (rows ++ [v, v1, v2, v3]) := by
  have h1 := h.stay hb
  have hz := hb.size
  have hz' := hk.size
  refine ⟨Nat.lt_of_lt_of_le h1.lt hk.size, h.le, hk.cell, hk.free, fun o ho => ?_, by simpa using hk.row, ?_, by simp; have := h.four; omega, ?_⟩
  · rw [hk.rest o (by omega)]; exact h1.nil o ho
  · intro g hg
    rcases hk.at' g hg with h2 | h2
    · exact h.other g h2
    · have := h.lt; omega
  · intro i u hu
    by_cases hi : i < rows.length
    · rw [List.getElem?_append_left hi] at hu
      obtain ⟨m, m1, m2, m3⟩ := h1.marks i u hu
      obtain ⟨m', _, m2', _⟩ := h.marks i u hu
      refine ⟨m, m1, m2.of_blocks hz' (fun g hg => hk.block g (m2'.2.1 g hg) (m3 g hg).1 (m3 g hg).2), fun g hg => ⟨(m3 g hg).1, fun hv => ?_⟩⟩
      rcases hk.at' g hv with h2 | h2
      · exact (m3 g hg).2 h2
      · have := m2'.2.1 g hg; omega
    · rw [List.getElem?_append_right (by omega)] at hu
      obtain ⟨j, hj⟩ : ∃ j, i - rows.length = j := ⟨_, rfl⟩
      rw [hj] at hu
      have hj4 : j < 4 := by have := (List.getElem?_eq_some_iff.1 hu).1; simpa using this
      have he : (i : Int) / 4 = ((rows.length : Nat) : Int) / 4 := by have := h.four; omega
      rw [he]
      have hfar : ∀ g, u.ownBlock = some g → g ≠ bb ∧ vb'.ownBlock ≠ some g := fun g hg => by
        have h2 := hk.far u (List.mem_of_getElem? hu) g hg
        exact ⟨by have := h.lt; omega, h2.2⟩
      match j, hj4, hu with
      | 0, _, hu => simp at hu; subst hu; exact ⟨n, by omega, hk.r0, hfar⟩
      | 1, _, hu => simp at hu; subst hu; exact ⟨n + 1, by omega, hk.r1, hfar⟩
      | 2, _, hu => simp at hu; subst hu; exact ⟨n + 2, by omega, hk.r2, hfar⟩
      | 3, _, hu => simp at hu; subst hu; exact ⟨n + 3, by omega, hk.r3, hfar⟩
end Go.Proofs.YtmnjjjhmnhfapaaDoor
