import Derived.Lib.Bytealg
import Derived.Laws.Externs
import Derived.Deep.QuietTactic
import Derived.BigQuiet
import Derived.BigGuardPart
import Derived.Deep.DeepCutAuto
import Derived.Test.YthaecjhnlpbfnaaDoorMCodeNum
/-
  Go's own strings functions at a separator of one byte, as the walks meet them.
-/
namespace Go.Proofs.YthaecjhnlpbfnaaDoor
open Go.RowKit

theorem run_indexByteStr (s : ByteArray) (c : UInt8) (w : World) : (callFunc 124 #[.string s, .int .u8 c.toNat]).run Tryd.prog w = .ok (.value (.int .i64 (Lib.indexByte s.data.toList c))) w := by
  rw [run_callFunc_extern Tryd.func124 (by kernel_rfl) (by kernel_rfl) (by kernel_rfl) (show Extern.find _ = some Extern.BytealgIndexByte.indexByte by kernel_rfl), Lib.run_indexByteString]
  simp
theorem run_countStr (s : ByteArray) (c : UInt8) (w : World) : (callFunc 128 #[.string s, .int .u8 c.toNat]).run Tryd.prog w = .ok (.value (.int .i64 (Lib.countByte s.data.toList c))) w := by
  rw [run_callFunc_extern Tryd.func128 (by kernel_rfl) (by kernel_rfl) (by kernel_rfl) (show Extern.find _ = some Extern.BytealgCount.count by kernel_rfl), Lib.run_countString]
  simp

set_option maxRecDepth 100000 in
theorem sliteIndexByte_any (s : ByteArray) (c : UInt8) (w : World) : Calls Tryd.prog 112 #[.string s, .int .u8 c.toNat] w fun e w' => e = .returned (.int .i64 (Lib.indexByte s.data.toList c)) ∧ w' = w := by
  have h := run_indexByteStr s c w
  go_enter Tryd.func112, Tryd.ntmps112
  go_wp2
  go_ret
  exact ⟨rfl, rfl⟩

theorem indexByte_self (c : UInt8) (s : ByteArray) (h : ([c] == s.toList) = true) : Lib.indexByte s.data.toList c = 0 := by
  rw [ByteArray.toList_eq] at h
  have : s.data.toList = [c] := (by simpa using h : [c] = s.data.toList).symm
  rw [this]; simp [Lib.indexByte]

set_option maxRecDepth 100000 in
set_option maxHeartbeats 400000 in
theorem sliteIndex_one (s : ByteArray) (c : UInt8) (w : World) : Calls Tryd.prog 103 #[.string s, .string ⟨#[c]⟩] w fun e w' => e = .returned (.int .i64 (Lib.indexByte s.data.toList c)) ∧ w' = w := by
  cases he : ([c] == s.toList)
  · go_enter Tryd.func103, Tryd.ntmps103
    go_wp2_with fail
    refine (sliteIndexByte_any s c _).mono ?_
    rintro e w' ⟨rfl, rfl⟩
    go_wp2
    go_ret
    exact ⟨rfl, rfl⟩
  · have HI := hide (indexByte_self c s he)
    go_enter Tryd.func103, Tryd.ntmps103
    go_wp2
    go_ret
    exact ⟨ret_int HI.out.symm, rfl⟩

set_option maxRecDepth 100000 in
theorem strIndex_one (s : ByteArray) (c : UInt8) (w : World) : Calls Tryd.prog 118 #[.string s, .string ⟨#[c]⟩] w fun e w' => e = .returned (.int .i64 (Lib.indexByte s.data.toList c)) ∧ w' = w := by
  go_enter Tryd.func118, Tryd.ntmps118
  go_wp2_with fail
  refine (sliteIndex_one s c _).mono ?_
  rintro e w' ⟨rfl, rfl⟩
  go_wp2
  go_ret
  exact ⟨rfl, rfl⟩

set_option maxRecDepth 100000 in
theorem strCount_one (s : ByteArray) (c : UInt8) (w : World) : Calls Tryd.prog 117 #[.string s, .string ⟨#[c]⟩] w fun e w' => e = .returned (.int .i64 (Lib.countByte s.data.toList c)) ∧ w' = w := by
  have h : (callFunc 128 #[.string s, .int .u8 (((ByteArray.mk #[c])[0]'(by show 0 < 1; omega)).toNat)]).run Tryd.prog w = .ok (.value (.int .i64 (Lib.countByte s.data.toList c))) w := run_countStr s c w
  go_enter Tryd.func117, Tryd.ntmps117
  go_wp2
  go_ret
  exact ⟨rfl, rfl⟩

/-- What the words of a text are, by the place of the first sign. -/
theorem split_at (c : UInt8) (l : List UInt8) : (Lib.indexByte l c = -1 ∧ Tm.split c l = [l] ∧ l.count c = 0) ∨ (∃ m : Nat, Lib.indexByte l c = m ∧ m < l.length ∧ Tm.split c l = l.take m :: Tm.split c (l.drop (m + 1)) ∧ l.count c = 1 + (l.drop (m + 1)).count c) := by
  induction l with
  | nil => left; simp [Lib.indexByte, Tm.split]
  | cons x r ih =>
    by_cases hx : x = c
    · subst hx
      right
      refine ⟨0, by simp [Lib.indexByte], by simp, by simp [Tm.split], by simp; omega⟩
    · have hxc : (x == c) = false := by simp [hx]
      rcases ih with ⟨h1, h2, h3⟩ | ⟨m, h1, h2, h3, h4⟩
      · left
        refine ⟨by simp [Lib.indexByte, hxc, h1], ?_, by rw [List.count_cons, h3]; simp [hx]⟩
        rw [Tm.split_cons, if_neg hx, h2]
      · right
        refine ⟨m + 1, ?_, by simp; omega, ?_, ?_⟩
        · have hne : ((Lib.indexByte r c) == -1) = false := by rw [beq_eq_false_iff_ne]; omega
          simp only [Lib.indexByte, hxc, hne]
          rw [h1]; simp
        · rw [Tm.split_cons, if_neg hx, h3]
          simp
        · rw [List.count_cons, h4]; simp [hx]
theorem split_len (c : UInt8) (l : List UInt8) : (Tm.split c l).length = l.count c + 1 := by
  induction l with
  | nil => simp [Tm.split]
  | cons x r ih =>
    rw [Tm.split_cons]
    by_cases hx : x = c
    · subst hx; simp [ih]
    · rw [if_neg hx, List.count_cons]
      have : (x == c) = false := by simp [hx]
      rw [this]
      cases hs : Tm.split c r with
      | nil => exact absurd hs (Tm.split_ne c r)
      | cons a b => rw [hs] at ih; simp at *; omega

theorem set_row {w : World} {G j : Nat} {cur : Array Value} {e : TypeId} {fr : Nat × Nat} (h : w.heap[G]? = some (.cells cur e fr)) (u : Value) : (w.setCell ⟨G, j, none⟩ u).heap[G]? = some (.cells (cur.setIfInBounds j u) e fr) := by
  simp [World.setCell, Array.getElem?_modify, h]

/-- k words lie in the row at G; what is left of the text is r. -/
structure Splitting (w : World) (G : Nat) (c : UInt8) (l : List UInt8) (k : Nat) (r : List UInt8) (wr : World) : Prop where
  below : Below G w wr
  room : G < wr.heap.size
  row : ∃ (cur : Array Value) (bs : List ByteArray), wr.heap[G]? = some (.cells cur 9 (0, 0)) ∧ cur.size = l.count c + 1 ∧ bs.length = k ∧ cur.toList.take k = bs.map Value.string ∧ Tm.split c l = bs.map (·.data.toList) ++ Tm.split c r
  count : l.count c = k + r.count c

theorem Splitting.cell {w : World} {G : Nat} {c : UInt8} {l : List UInt8} {k : Nat} {r : List UInt8} {wr : World} (h : Splitting w G c l k r wr) : ∃ u, wr.cell? ⟨G, k, none⟩ = some u ∧ wr.frozen? ⟨G, k, none⟩ = false := by
  obtain ⟨cur, bs, h1, h2, h3, h4, h5⟩ := h.row
  have hk : k < cur.size := by rw [h2, h.count]; omega
  refine ⟨cur[k], ?_, by simp [World.frozen?, h1]⟩
  rw [cell_of_row wr G k cur _ _ h1]
  simp [hk]

theorem Splitting.step {w : World} {G : Nat} {c : UInt8} {l : List UInt8} {k m : Nat} {s : ByteArray} {wr : World} (h : Splitting w G c l k s.data.toList wr) (hm : Tm.split c s.data.toList = s.data.toList.take m :: Tm.split c (s.data.toList.drop (m + 1))) (hc : s.data.toList.count c = 1 + (s.data.toList.drop (m + 1)).count c) :
    Splitting w G c l (k + 1) (s.extract (m + 1) s.size).data.toList (wr.setCell ⟨G, k, none⟩ (.string (s.extract 0 m))) := by
  obtain ⟨cur, bs, h1, h2, h3, h4, h5⟩ := h.row
  have hk : k < cur.size := by rw [h2, h.count]; omega
  have e1 : (s.extract (m + 1) s.size).data.toList = s.data.toList.drop (m + 1) := by
    rw [extract_bytes, List.take_of_length_le (by rw [List.length_drop, len_bytes]; omega)]
  rw [e1]
  refine ⟨h.below.setCell (by simp) _, by simpa [World.setCell] using h.room, ⟨_, bs ++ [s.extract 0 m], set_row h1 _, by simpa using h2, by simp [h3], ?_, ?_⟩, by rw [h.count, hc]; omega⟩
  · rw [List.take_succ_eq_append_getElem (by simpa using hk)]
    simp only [Array.toList_setIfInBounds, List.take_set, List.map_append, List.map_cons, List.map_nil]
    rw [List.set_eq_of_length_le (by simp; omega), h4]
    simp
  · rw [h5, hm, List.map_append, List.append_assoc]
    simp

set_option maxRecDepth 100000 in
set_option maxHeartbeats 1000000 in
theorem genSplit_one (s : ByteArray) (c : UInt8) (w : World) (hs : s.size ≤ 8192) : Calls Tryd.prog 104 #[.string s, .string ⟨#[c]⟩, .int .i64 0, .int .i64 (-1)] w fun e w' =>
    ∃ (v : Value) (bs : List ByteArray), e = .returned v ∧ Reads w' v 1 bs.length (bs.map Value.string) ∧ bs.map (·.data.toList) = Tm.split c s.data.toList ∧ (∀ g, v.ownBlock = some g → w.heap.size ≤ g) ∧ Below w.heap.size w w' := by
  obtain ⟨i0, hi, hz0, hz1, hz2⟩ := info_parts (show (Tryd.prog.info? 9).map (fun i => (i.zero, i.size, i.bytes)) = some (some (.string ByteArray.empty), 1, 16) by kernel_rfl)
  have hcn : Lib.countByte s.data.toList c ≤ s.size := by
    unfold Lib.countByte
    have := List.count_le_length (a := c) (l := s.data.toList)
    rw [len_bytes] at this
    exact this
  have hemp : ([c] : List UInt8).isEmpty = false := rfl
  have hmin : min ((Lib.countByte s.data.toList c : Int) + 1) ((s.size : Int) + 1) = (Lib.countByte s.data.toList c : Int) + 1 := by omega
  go_enter Tryd.func104, Tryd.ntmps104
  go_wp2_with fail
  refine (strCount_one s c _).mono ?_
  rintro e w1 ⟨rfl, rfl⟩
  generalize hN : Lib.countByte s.data.toList c = N at *
  have HN := hide hN
  clear hN
  go_wp2_with (at_make; go_must (refine wpList_make_full _ rfl _ _ 32 rfl w1.heap.size 9 i0 (.string ByteArray.empty) 1 Tryd.underlying32 hi hz0 hz1 _ _ _ _ (N + 1) rfl rfl (by omega) (by omega) (by rw [hz2]; omega) (by unfold maxLen; omega) (Nat.le_refl _) ?_))
  intro w2 hown hgrow
  have hst : Splitting w1 w1.heap.size c s.data.toList 0 s.data.toList w2 := by
    rcases hown.2 with ⟨hv, _⟩ | ⟨g, cap, cur, hv, hb, hg, hcap, hcap2, hsz, ht⟩
    · cases hv
    · cases hv
      exact ⟨(Below.refl _ _).grown hgrow (Nat.le_refl _) (fun k hk => by cases hk), (Array.getElem?_eq_some_iff.1 hg).1, ⟨cur, [], hg, by rw [hsz, ← HN.out]; simp [Lib.countByte], rfl, by simp, by simp⟩, by simp⟩
  clear hown hgrow
  go_wp2_with fail
  go_loopw [0, 10] (fun sv i wr => ∃ (k : Nat) (r : ByteArray), sv = .string r ∧ i = .int .i64 k ∧ k ≤ N ∧ r.size ≤ s.size ∧ Splitting w1 w1.heap.size c s.data.toList k r.data.toList wr) (fun _ i _ => N - (intOf i).toNat)
  case atStart => exact ⟨0, s, rfl, rfl, Nat.zero_le _, Nat.le_refl _, hst⟩
  case round =>
    obtain ⟨k, r, rfl, rfl, hk, hrs, hS⟩ := hrel
    obtain ⟨u, cu, fu⟩ := hS.cell
    have hcount := hS.count
    rw [show s.data.toList.count c = N from HN.out] at hcount
    have HS := hide hS
    by_cases hlt : k < N
    · rcases split_at c r.data.toList with ⟨_, _, h0⟩ | ⟨m, h1, h2, h3, h4⟩
      · exfalso; omega
      · rw [len_bytes] at h2
        have HST := hide (hS.step h3 h4)
        have HI := hide h1
        clear hS hst hcount h1 h3 h4
        go_wp2_with fail
        refine (strIndex_one r c _).mono ?_
        rintro e w3 ⟨rfl, rfl⟩
        rw [HI.out]
        go_wp2
        go_roundw
        case rel => exact ⟨k + 1, r.extract (m + 1) r.size, rfl, by go_num, by omega, by simp; omega, HST.out⟩
        case measure => simp [intOf]; omega
    · have hkN : k = N := by omega
      rcases split_at c r.data.toList with ⟨_, hsp, h0⟩ | ⟨m, h1, h2, h3, h4⟩
      · obtain ⟨cur, bs, e1, e2, e3, e4, e5⟩ := hS.row
        have hfin : Hid (∃ bs : List ByteArray, bs.length = N + 1 ∧ Reads (wr.setCell ⟨w1.heap.size, k, none⟩ (.string r)) (.slice (some ⟨w1.heap.size, 0, none⟩) (N + 1) (N + 1)) 1 bs.length (bs.map Value.string) ∧ bs.map (·.data.toList) = Tm.split c s.data.toList) := by
          refine ⟨bs ++ [r], by simp [e3, hkN], ?_, by rw [e5, hsp]; simp⟩
          have hsz : cur.size = N + 1 := by rw [e2]; rw [show s.data.toList.count c = N from HN.out]
          have hl : (bs ++ [r]).length = N + 1 := by simp [e3, hkN]
          rw [hl]
          refine ⟨by simp [e3, hkN], fun g hg => ?_, _, _, rfl, ⟨Nat.le_refl _, by unfold maxLen; omega⟩, fun j x hx => ⟨w1.heap.size, 0, rfl, ?_⟩⟩
          · simp [Value.ownBlock] at hg
            have := hS.room
            simp [World.setCell]; omega
          · rw [cell_of_row _ _ (0 + j) _ _ _ (set_row e1 _)]
            rw [Nat.zero_add]
            by_cases hj : j < k
            · have : cur.toList[j]? = some x := by
                have h := congrArg (fun l => l[j]?) e4
                simp only [List.getElem?_take, hj, if_true] at h
                rw [h, ← hx, List.map_append, List.getElem?_append_left (by simp [e3]; exact hj)]
              rw [Array.getElem?_setIfInBounds_ne (by omega)]
              simpa using this
            · have hj2 : j = k := by
                have := (List.getElem?_eq_some_iff.1 hx).1
                simp [e3] at this
                omega
              subst hj2
              rw [Array.getElem?_setIfInBounds_self_of_lt (by omega)]
              rw [← hx, List.map_append, List.getElem?_append_right (by simp [e3])]
              simp [e3]
        have HB : Hid (Below w1.heap.size w1 (wr.setCell ⟨w1.heap.size, k, none⟩ (.string r))) := hS.below.setCell (by simp) _
        clear hS hst hcount h0 hsp e1 e2 e3 e4 e5
        subst hkN
        go_wp2
        go_ret
        obtain ⟨bs, hb1, hb2, hb3⟩ := hfin.out
        exact ⟨.slice (some ⟨w1.heap.size, 0, none⟩) (k + 1) (k + 1), bs, rfl, hb2, hb3, fun g hg => by simp [Value.ownBlock] at hg; omega, HB.out⟩
      · exfalso; omega

set_option maxRecDepth 100000 in
theorem Split_one (s : ByteArray) (c : UInt8) (w : World) (hs : s.size ≤ 8192) : Calls Tryd.prog 96 #[.string s, .string ⟨#[c]⟩] w fun e w' =>
    ∃ (v : Value) (bs : List ByteArray), e = .returned v ∧ Reads w' v 1 bs.length (bs.map Value.string) ∧ bs.map (·.data.toList) = Tm.split c s.data.toList ∧ (∀ g, v.ownBlock = some g → w.heap.size ≤ g) ∧ Below w.heap.size w w' := by
  go_enter Tryd.func96, Tryd.ntmps96
  go_wp2_with fail
  refine (genSplit_one s c _ hs).mono ?_
  rintro e w1 ⟨v, bs, rfl, h1, h2, h3, h4⟩
  have H := hide (And.intro h1 (And.intro h2 (And.intro h3 h4)))
  clear h1 h2 h3 h4
  go_wp2
  go_ret
  exact ⟨v, bs, rfl, H.out⟩
end Go.Proofs.YthaecjhnlpbfnaaDoor
namespace Go.Proofs.YthaecjhnlpbfnaaDoor
open Go.RowKit

/-- Whole numbers as cells. -/
def ints (l : List Int) : List Value := l.map (Value.int .i64)

theorem ints_get {l : List Int} {k : Nat} (h : k < l.length) : (ints l)[k]? = some (.int .i64 l[k]) := by simp [ints, h]
theorem ints_length (l : List Int) : (ints l).length = l.length := by simp [ints]

theorem ret_bool {a b : Bool} (h : a = b) : Ending.returned (.bool a) = .returned (.bool b) := by rw [h]
/-- The first k numbers are the same. -/
def sameTo (la lb : List Int) (k : Nat) : Prop := la.take k = lb.take k
theorem sameTo_step {la lb : List Int} {k : Nat} (h : sameTo la lb k) (hk : k < la.length) (hk' : k < lb.length) (he : la[k] = lb[k]) : sameTo la lb (k + 1) := by
  unfold sameTo at *
  rw [List.take_succ_eq_append_getElem hk, List.take_succ_eq_append_getElem hk', h, he]
theorem sameTo_all {la lb : List Int} {k : Nat} (h : sameTo la lb k) (hk : la.length ≤ k) (hk' : lb.length ≤ k) : la = lb := by
  unfold sameTo at h
  rwa [List.take_of_length_le hk, List.take_of_length_le hk'] at h

set_option maxRecDepth 100000 in
set_option maxHeartbeats 1000000 in
theorem sameInts_any (va vb : Value) (la lb : List Int) (w : World) (ha : Reads w va 1 la.length (ints la)) (hb : Reads w vb 1 lb.length (ints lb)) (hl : la.length ≤ 1000000) (hl' : lb.length ≤ 1000000) :
    Calls Tryd.prog 50 #[va, vb] w fun e w' => e = .returned (.bool (decide (la = lb))) ∧ ∃ n, w' = w.drewN n := by
  by_cases hlen : la.length = lb.length
  · by_cases h0 : la.length = 0
    · obtain ⟨a, cap, rfl⟩ := ha.shape
      obtain ⟨a', cap', rfl⟩ := hb.shape
      have e1 : la = [] := List.eq_nil_of_length_eq_zero h0
      have e2 : lb = [] := List.eq_nil_of_length_eq_zero (by omega)
      subst e1 e2
      clear ha hb hl hl' hlen h0
      go_enter Tryd.func50, Tryd.ntmps50
      go_wp2
      go_loop [5] (fun i => i = .int .i64 0) (fun _ => 0)
      case atStart => rfl
      case round =>
        subst hrel
        go_wp2
        go_ret
        exact ⟨rfl, 0, rfl⟩
    · obtain ⟨g, off, cap, rfl, _, hc⟩ := ha.form (by rw [ints_length]; omega)
      obtain ⟨g', off', cap', rfl, _, hc'⟩ := hb.form (by rw [ints_length]; omega)
      clear ha hb
      generalize hn : la.length = n at *
      have hcells : ∀ k (h : k < la.length), w.cell? ⟨g, off + k, none⟩ = some (.int .i64 la[k]) := fun k h => hc k _ (ints_get h)
      have hcells' : ∀ k (h : k < lb.length), w.cell? ⟨g', off' + k, none⟩ = some (.int .i64 lb[k]) := fun k h => hc' k _ (ints_get h)
      have HN := hide hn
      have HC := hide hcells
      have HC' := hide hcells'
      have HL := hide hlen
      rw [← hlen]
      clear hc hc' hcells hcells' hn hlen hl'
      go_enter Tryd.func50, Tryd.ntmps50
      go_wp2
      go_loopw [5] (fun i wr => ∃ k : Nat, k ≤ n ∧ i = .int .i64 k ∧ sameTo la lb k ∧ ∃ q, wr = w.drewN q) (fun i _ => n - (intOf i).toNat)
      case atStart => exact ⟨0, Nat.zero_le _, rfl, rfl, 0, rfl⟩
      case round =>
        obtain ⟨k, hk, rfl, hsame, q, rfl⟩ := hrel
        by_cases hlt : k < n
        · have hka : k < la.length := by rw [HN.out]; exact hlt
          have hkb : k < lb.length := by rw [← HL.out]; exact hlt
          have c1 := HC.out k hka
          have c2 := HC'.out k hkb
          have i1 : (0 : Int) ≤ (k : Int) := by omega
          have i2 : (k : Int) < (n : Int) := by omega
          have HE : Hid (∀ h : la[k] = lb[k], sameTo la lb (k + 1)) := fun h => sameTo_step hsame hka hkb h
          have HX : Hid (la[k] ≠ lb[k] → la ≠ lb) := fun h h' => h (by subst h'; rfl)
          generalize la[k] = x at *
          generalize lb[k] = y at *
          clear hsame hka hkb
          go_wp2
          go_quiet (fail)
          cases hxy : (x != y)
          · go_wp2
            go_roundw
            case rel => exact ⟨k + 1, by omega, by go_num, HE.out (by simpa using hxy), _, rfl⟩
            case measure => simp [intOf]; omega
          · go_wp2
            go_ret
            exact ⟨ret_bool (by simp [HX.out (by simpa using hxy)]), q + nq, by simp⟩
        · have HE := hide (sameTo_all hsame (by rw [HN.out]; omega) (by rw [← HL.out]; omega))
          clear hsame
          go_wp2
          go_ret
          exact ⟨ret_bool (by simp [HE.out]), q, rfl⟩
  · obtain ⟨a, cap, rfl⟩ := ha.shape
    obtain ⟨a', cap', rfl⟩ := hb.shape
    have hne : ((la.length : Int) != (lb.length : Int)) = true := by rw [bne_iff_ne]; omega
    have HE : Hid (la ≠ lb) := fun h => hlen (by rw [h])
    clear ha hb
    go_enter Tryd.func50, Tryd.ntmps50
    go_wp2
    go_ret
    exact ⟨ret_bool (by simp [HE.out]), 0, rfl⟩
end Go.Proofs.YthaecjhnlpbfnaaDoor
namespace Go.Proofs.YthaecjhnlpbfnaaDoor
open Go.RowKit

/-- An element's four cells. -/
def elCells (x : Tm.El) : List Value := [.int .i64 x.p, .int .i64 x.s, .int .i64 x.t, .bool x.v]
def elsCells (l : List Tm.El) : List Value := l.flatMap elCells

theorem elsCells_length (l : List Tm.El) : (elsCells l).length = l.length * 4 := by
  induction l with
  | nil => rfl
  | cons a r ih => simp only [elsCells, List.flatMap_cons, List.length_append, List.length_cons] at *; rw [ih]; simp [elCells]; omega
theorem elsCells_get {l : List Tm.El} {k f : Nat} (h : k < l.length) (hf : f < 4) : (elsCells l)[k * 4 + f]? = (elCells l[k])[f]? := by
  induction l generalizing k with
  | nil => simp at h
  | cons a r ih =>
    cases k with
    | zero =>
      simp only [elsCells, List.flatMap_cons]
      rw [List.getElem?_append_left (by simp [elCells]; omega)]
      simp
    | succ k =>
      simp only [elsCells, List.flatMap_cons]
      rw [List.getElem?_append_right (by simp [elCells]; omega)]
      have := ih (k := k) (by simpa using h)
      simp only [elsCells] at this
      simp only [elCells, List.length_cons, List.length_nil] at *
      rw [show (k + 1) * 4 + f - (0 + 1 + 1 + 1 + 1) = k * 4 + f from by omega, this]
      rfl

theorem els_at {w : World} {a : Option Addr} {m cap : Nat} {els : List Tm.El} (h : Reads w (.slice a m cap) 4 els.length (elsCells els)) {k : Nat} (hk : k < els.length) :
    ∃ g off, a = some ⟨g, off, none⟩ ∧ g < w.heap.size ∧ w.cell? ⟨g, off + k * 4, none⟩ = some (.int .i64 els[k].p) ∧ w.cell? ⟨g, off + k * 4 + 1, none⟩ = some (.int .i64 els[k].s) ∧ w.cell? ⟨g, off + k * 4 + 2, none⟩ = some (.int .i64 els[k].t) ∧ w.cell? ⟨g, off + k * 4 + 3, none⟩ = some (.bool els[k].v) := by
  obtain ⟨g, off, cap', he, hg, hc⟩ := h.form (by rw [elsCells_length]; omega)
  cases he
  exact ⟨g, off, rfl, hg, hc (k * 4) _ (by have := elsCells_get hk (f := 0) (by omega); simpa [elCells] using this), hc (k * 4 + 1) _ (by have := elsCells_get hk (f := 1) (by omega); simpa [elCells] using this),
    hc (k * 4 + 2) _ (by have := elsCells_get hk (f := 2) (by omega); simpa [elCells] using this), hc (k * 4 + 3) _ (by have := elsCells_get hk (f := 3) (by omega); simpa [elCells] using this)⟩

theorem any_step {els : List Tm.El} {k : Nat} (h : (els.take k).any Tm.lightEl = false) (hk : k < els.length) (hx : Tm.lightEl els[k] = false) : (els.take (k + 1)).any Tm.lightEl = false := by
  rw [List.take_succ_eq_append_getElem hk, List.any_append, h]
  simp [hx]
theorem any_hit {els : List Tm.El} {k : Nat} (hk : k < els.length) (hx : Tm.lightEl els[k] = true) : els.any Tm.lightEl = true :=
  List.any_eq_true.2 ⟨els[k], List.getElem_mem hk, hx⟩

set_option maxRecDepth 100000 in
set_option maxHeartbeats 1000000 in
theorem light_any (kind : Value) (vr ve : Value) (n : Int) (els : List Tm.El) (w : World) (he : Reads w ve 4 els.length (elsCells els)) (hl : els.length ≤ 1000000) :
    Calls Tryd.prog 27 #[.agg #[kind, vr, ve, .int .i64 n]] w fun e w' => e = .returned (.bool (els.any Tm.lightEl)) ∧ Below w.heap.size w w' := by
  obtain ⟨a, cap, rfl⟩ := he.shape
  have HC : Hid (∀ k (hk : k < els.length), _) := fun k hk => els_at he hk
  clear he
  go_enter Tryd.func27, Tryd.ntmps27
  go_wp2
  go_loopw [3] (fun i wr => ∃ k : Nat, k ≤ els.length ∧ i = .int .i64 k ∧ (els.take k).any Tm.lightEl = false ∧ Below (w.heap.size + 1) (w.alloc (.cells #[kind, vr, .slice a els.length cap, .int .i64 n] 72)) wr) (fun i _ => els.length - (intOf i).toNat)
  case atStart => exact ⟨0, Nat.zero_le _, rfl, by simp, Below.refl _ _⟩
  case round =>
    obtain ⟨k, hk, rfl, hno, hb⟩ := hrel
    have b2 : wr.cell? ⟨w.heap.size, 2, none⟩ = some (.slice a els.length cap) := by rw [hb.cell (by simp)]; simp
    have hz := hb.size
    simp at hz
    have HB := hide hb
    by_cases hlt : k < els.length
    · obtain ⟨g, off, rfl, hg, c0, c1, c2, c3⟩ := HC.out k hlt
      have hc : ∀ o, wr.cell? ⟨g, o, none⟩ = w.cell? ⟨g, o, none⟩ := fun o => by rw [hb.cell (by simp; omega)]; simp [World.cell?_alloc_past, hg]
      rw [← hc] at c0 c1 c2 c3
      have HS : Hid (∀ hx : Tm.lightEl els[k] = false, (els.take (k + 1)).any Tm.lightEl = false) := fun hx => any_step hno hlt hx
      have HY : Hid (∀ hx : Tm.lightEl els[k] = true, els.any Tm.lightEl = true) := fun hx => any_hit hlt hx
      generalize els[k] = x at *
      clear hc hb hno HC
      go_upto_region 5 with fail
      go_cut [48] (fun t wx => t = .bool (Tm.lightEl x) ∧ wx = wr.alloc (.cells #[.int .i64 x.p, .int .i64 x.s, .int .i64 x.t, .bool x.v] 64))
      case first =>
        go_wp2
        all_goals go_meet
        all_goals refine ⟨?_, ?_⟩
        all_goals first | (simp [Tm.lightEl, *]; done) | simp [*]
      case rest =>
        obtain ⟨rfl, rfl⟩ := hcut
        cases hx : Tm.lightEl x
        · go_wp2
          go_roundw
          case rel => exact ⟨k + 1, by omega, by go_num, HS.out hx, HB.out.alloc (by omega) _⟩
          case measure => simp [intOf]; omega
        · go_wp2
          go_ret
          exact ⟨ret_bool (HY.out hx).symm, (((Below.refl _ _).alloc (Nat.le_refl _) _).trans (HB.out.mono (by omega))).alloc (by omega) _⟩
    · have HN : Hid (els.any Tm.lightEl = false) := by
        rw [List.take_of_length_le (by omega)] at hno
        exact hno
      clear hno hb HC
      go_wp2
      go_ret
      exact ⟨ret_bool HN.out.symm, ((Below.refl _ _).alloc (Nat.le_refl _) _).trans (HB.out.mono (by omega))⟩
end Go.Proofs.YthaecjhnlpbfnaaDoor
