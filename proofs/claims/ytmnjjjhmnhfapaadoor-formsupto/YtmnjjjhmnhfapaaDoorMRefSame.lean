import Derived.Test.YtmnjjjhmnhfapaaDoorRows
import Derived.WalkKit
import Derived.WalkSpells
import Derived.WalkLawsBesides
import Derived.Deep.QuietTactic
import Derived.BigQuiet
import Derived.Test.YtmnjjjhmnhfapaaDoorMPlain
/-
  What the walks of this family share: small facts on endings, hidden facts, bytes of a string.
-/
namespace Go.Proofs.YtmnjjjhmnhfapaaDoor
open Go.RowKit

theorem hide {p : Prop} (h : p) : Hid p := h
theorem ret_int {k : IntKind} {a b : Int} (h : a = b) : Ending.returned (.int k a) = .returned (.int k b) := by rw [h]
theorem len_bytes (s : ByteArray) : s.data.toList.length = s.size := by simp
theorem head_of (s : ByteArray) (h : 0 < s.size) : s.data.toList.head? = some s[0] := by
  have := Tm.drop_cons s 0 h
  simp at this
  rw [this]; rfl
theorem extract_bytes (s : ByteArray) (m k : Nat) : (s.extract m k).data.toList = (s.data.toList.drop m).take (k - m) := by
  simp [ByteArray.data_extract, List.extract_eq_take_drop]
theorem bcell {W w1 : World} (hb : Below W.heap.size W w1) : (∀ b o, b < W.heap.size → w1.cell? ⟨b, o, none⟩ = W.cell? ⟨b, o, none⟩) ∧ (∀ b o, b < W.heap.size → w1.frozen? ⟨b, o, none⟩ = W.frozen? ⟨b, o, none⟩) :=
  ⟨fun b o h => hb.cell (p := ⟨b, o, none⟩) h, fun b o h => hb.frozen (p := ⟨b, o, none⟩) h⟩

/-- A slice value of n elements, 'size' cells each, that reads as the cells xs. -/
def Reads (w : World) (v : Value) (size n : Nat) (xs : List Value) : Prop :=
  xs.length = n * size ∧ (∀ g, v.ownBlock = some g → g < w.heap.size) ∧
  ∃ a cap, v = .slice a n cap ∧ (n ≤ cap ∧ cap ≤ maxLen) ∧ ∀ j u, xs[j]? = some u → ∃ g off, a = some ⟨g, off, none⟩ ∧ w.cell? ⟨g, off + j, none⟩ = some u

theorem Reads.of_owns {w : World} {base : Nat} {e : TypeId} {size : Nat} {v : Value} {n : Nat} {xs : List Value} (h : w.ownsRow base e size v n xs) : Reads w v size n xs := by
  refine ⟨h.1, fun g hg => (h.lt g hg).2, ?_⟩
  have hc := @World.ownsRow.cells _ _ _ _ _ _ _ h
  rcases h.2 with ⟨rfl, rfl⟩ | ⟨g, cap, cur, rfl, _, _, hc1, hc2, _⟩
  · have h0 := h.1
    simp at h0
    subst h0
    exact ⟨none, 0, rfl, ⟨Nat.le_refl _, Nat.zero_le _⟩, by simp⟩
  · refine ⟨_, cap, rfl, ⟨hc1, hc2⟩, fun j u hu => ⟨g, 0, rfl, ?_⟩⟩
    have hx := hc (g := g) rfl j u hu
    have hadd : (⟨g, 0, none⟩ : Addr).add j = ⟨g, 0 + j, none⟩ := by unfold Addr.add; split <;> simp_all
    rw [hadd] at hx
    exact hx

theorem Reads.form {w : World} {v : Value} {size n : Nat} {xs : List Value} (h : Reads w v size n xs) (hn : 0 < xs.length) :
    ∃ g off cap, v = .slice (some ⟨g, off, none⟩) n cap ∧ g < w.heap.size ∧ ∀ j u, xs[j]? = some u → w.cell? ⟨g, off + j, none⟩ = some u := by
  obtain ⟨_, hlt, a, cap, rfl, _, hc⟩ := h
  obtain ⟨g, off, rfl, _⟩ := hc 0 xs[0] (by simp [hn])
  refine ⟨g, off, cap, rfl, hlt g rfl, fun j u hu => ?_⟩
  obtain ⟨g', off', he, hcell⟩ := hc j u hu
  cases he
  exact hcell

theorem Reads.shape {w : World} {v : Value} {size n : Nat} {xs : List Value} (h : Reads w v size n xs) : ∃ a cap, v = .slice a n cap := by
  obtain ⟨_, _, a, cap, rfl, _⟩ := h
  exact ⟨a, cap, rfl⟩

theorem Reads.fits {w : World} {a : Option Addr} {m cap : Nat} {size n : Nat} {xs : List Value} (h : Reads w (.slice a m cap) size n xs) : m = n ∧ n ≤ cap ∧ cap ≤ maxLen := by
  obtain ⟨_, _, a, cap, he, hc, _⟩ := h
  cases he
  exact ⟨rfl, hc⟩

/-- All that is read lies in blocks that are as they were. -/
theorem Reads.of_blocks {w w' : World} {v : Value} {size n : Nat} {xs : List Value} (h : Reads w v size n xs) (hs : w.heap.size ≤ w'.heap.size) (hb : ∀ g, v.ownBlock = some g → w'.heap[g]? = w.heap[g]?) : Reads w' v size n xs := by
  obtain ⟨h1, hlt, a, cap, rfl, hcap, hc⟩ := h
  refine ⟨h1, fun g hg => Nat.lt_of_lt_of_le (hlt g hg) hs, a, cap, rfl, hcap, fun j u hu => ?_⟩
  obtain ⟨g, off, rfl, hcell⟩ := hc j u hu
  refine ⟨g, off, rfl, ?_⟩
  rw [World.cell?_of_block (w := w) (hb g rfl)]
  exact hcell

theorem Reads.below {w w' : World} {v : Value} {size n : Nat} {xs : List Value} (h : Reads w v size n xs) {B : Nat} (hb : Below B w w') (hB : ∀ g, v.ownBlock = some g → g < B) : Reads w' v size n xs :=
  h.of_blocks hb.size (fun g hg => hb.block g (hB g hg))

theorem Reads.kept {w w' : World} {v : Value} {size n : Nat} {xs : List Value} (h : Reads w v size n xs) {row : Option Nat} (hg : w.grownBy w' row) (hne : v.ownBlock = none ∨ v.ownBlock ≠ row) : Reads w' v size n xs := by
  refine h.of_blocks hg.size (fun g hg' => hg.block g (h.2.1 g hg') ?_)
  rw [← hg']
  rcases hne with hne | hne
  · rw [hg'] at hne; cases hne
  · exact hne
end Go.Proofs.YtmnjjjhmnhfapaaDoor
namespace Go.Proofs.YtmnjjjhmnhfapaaDoor
open Go.RowKit

/-- Whole numbers as cells. -/
def ints (l : List Int) : List Value := l.map (Value.int .i64)

theorem ints_get {l : List Int} {k : Nat} (h : k < l.length) : (ints l)[k]? = some (.int .i64 l[k]) := by simp [ints, h]
theorem ints_length (l : List Int) : (ints l).length = l.length := by simp [ints]

theorem ret_bool {a b : Bool} (h : a = b) : Ending.returned (.bool a) = .returned (.bool b) := by rw [h]
/-- The first k numbers are the same. -/
def sameTo (la lb : List Int) (k : Nat) : Prop := la.take k = lb.take k
theorem sameTo_step {la lb : List Int} {k : Nat} (h : sameTo la lb k) (hk : k < la.length) (hk' : k < lb.length) (he : la[k] = lb[k]) : sameTo la lb (k + 1) := by
  unfold sameTo at *
  rw [List.take_succ_eq_append_getElem hk, List.take_succ_eq_append_getElem hk', h, he]
theorem sameTo_all {la lb : List Int} {k : Nat} (h : sameTo la lb k) (hk : la.length ≤ k) (hk' : lb.length ≤ k) : la = lb := by
  unfold sameTo at h
  rwa [List.take_of_length_le hk, List.take_of_length_le hk'] at h

set_option maxRecDepth 100000 in
set_option maxHeartbeats 1000000 in
theorem sameInts_any (va vb : Value) (la lb : List Int) (w : World) (ha : Reads w va 1 la.length (ints la)) (hb : Reads w vb 1 lb.length (ints lb)) (hl : la.length ≤ 1000000) (hl' : lb.length ≤ 1000000) :
    Calls Tryd.prog 50 #[va, vb] w fun e w' => e = .returned (.bool (decide (la = lb))) ∧ ∃ n, w' = w.drewN n := by
  by_cases hlen : la.length = lb.length
  · by_cases h0 : la.length = 0
    · obtain ⟨a, cap, rfl⟩ := ha.shape
      obtain ⟨a', cap', rfl⟩ := hb.shape
      have e1 : la = [] := List.eq_nil_of_length_eq_zero h0
      have e2 : lb = [] := List.eq_nil_of_length_eq_zero (by omega)
      subst e1 e2
      clear ha hb hl hl' hlen h0
      go_enter Tryd.func50, Tryd.ntmps50
      go_wp2
      go_loop [5] (fun i => i = .int .i64 0) (fun _ => 0)
      case atStart => rfl
      case round =>
        subst hrel
        go_wp2
        go_ret
        exact ⟨rfl, 0, rfl⟩
    · obtain ⟨g, off, cap, rfl, _, hc⟩ := ha.form (by rw [ints_length]; omega)
      obtain ⟨g', off', cap', rfl, _, hc'⟩ := hb.form (by rw [ints_length]; omega)
      clear ha hb
      generalize hn : la.length = n at *
      have hcells : ∀ k (h : k < la.length), w.cell? ⟨g, off + k, none⟩ = some (.int .i64 la[k]) := fun k h => hc k _ (ints_get h)
      have hcells' : ∀ k (h : k < lb.length), w.cell? ⟨g', off' + k, none⟩ = some (.int .i64 lb[k]) := fun k h => hc' k _ (ints_get h)
      have HN := hide hn
      have HC := hide hcells
      have HC' := hide hcells'
      have HL := hide hlen
      rw [← hlen]
      clear hc hc' hcells hcells' hn hlen hl'
      go_enter Tryd.func50, Tryd.ntmps50
      go_wp2
      go_loopw [5] (fun i wr => ∃ k : Nat, k ≤ n ∧ i = .int .i64 k ∧ sameTo la lb k ∧ ∃ q, wr = w.drewN q) (fun i _ => n - (intOf i).toNat)
      case atStart => exact ⟨0, Nat.zero_le _, rfl, rfl, 0, rfl⟩
      case round =>
        obtain ⟨k, hk, rfl, hsame, q, rfl⟩ := hrel
        by_cases hlt : k < n
        · have hka : k < la.length := by rw [HN.out]; exact hlt
          have hkb : k < lb.length := by rw [← HL.out]; exact hlt
          have c1 := HC.out k hka
          have c2 := HC'.out k hkb
          have i1 : (0 : Int) ≤ (k : Int) := by omega
          have i2 : (k : Int) < (n : Int) := by omega
          have HE : Hid (∀ h : la[k] = lb[k], sameTo la lb (k + 1)) := fun h => sameTo_step hsame hka hkb h
          have HX : Hid (la[k] ≠ lb[k] → la ≠ lb) := fun h h' => h (by subst h'; rfl)
          generalize la[k] = x at *
          generalize lb[k] = y at *
          clear hsame hka hkb
          go_wp2
          go_quiet (fail)
          cases hxy : (x != y)
          · go_wp2
            go_roundw
            case rel => exact ⟨k + 1, by omega, by go_num, HE.out (by simpa using hxy), _, rfl⟩
            case measure => simp [intOf]; omega
          · go_wp2
            go_ret
            exact ⟨ret_bool (by simp [HX.out (by simpa using hxy)]), q + nq, by simp⟩
        · have HE := hide (sameTo_all hsame (by rw [HN.out]; omega) (by rw [← HL.out]; omega))
          clear hsame
          go_wp2
          go_ret
          exact ⟨ret_bool (by simp [HE.out]), q, rfl⟩
  · obtain ⟨a, cap, rfl⟩ := ha.shape
    obtain ⟨a', cap', rfl⟩ := hb.shape
    have hne : ((la.length : Int) != (lb.length : Int)) = true := by rw [bne_iff_ne]; omega
    have HE : Hid (la ≠ lb) := fun h => hlen (by rw [h])
    clear ha hb
    go_enter Tryd.func50, Tryd.ntmps50
    go_wp2
    go_ret
    exact ⟨ret_bool (by simp [HE.out]), 0, rfl⟩
end Go.Proofs.YtmnjjjhmnhfapaaDoor
