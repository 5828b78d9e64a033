import Derived.Deep.AppendLies
import Derived.BigRegion
import Derived.Deep.DeepCutAuto
import Derived.Test.YthaecjhnlpbfnaaDoorMPlain
import Derived.Test.YthaecjhnlpbfnaaDoorMRefLight
import Derived.Test.YthaecjhnlpbfnaaDoorMCodeNum
/-
  How a table's lines lie in memory.
-/
namespace Go.Proofs.YthaecjhnlpbfnaaDoor
open Go.RowKit

/-- Four cells from an address on read as a line. -/
def LineAt (w : World) (g off : Nat) (kb : ByteArray) (vr ve : Value) (ln : Tm.Ln) : Prop :=
  w.cell? ⟨g, off, none⟩ = some (.string kb) ∧ w.cell? ⟨g, off + 1, none⟩ = some vr ∧ w.cell? ⟨g, off + 2, none⟩ = some ve ∧ w.cell? ⟨g, off + 3, none⟩ = some (.int .i64 ln.num) ∧
  kb.data.toList = ln.kind ∧ Reads w vr 1 ln.runes.length (ints ln.runes) ∧ Reads w ve 4 ln.els.length (elsCells ln.els)

/-- A slice value reads as the lines. -/
def TableRd (w : World) (v : Value) (lns : List Tm.Ln) : Prop :=
  (∀ g, v.ownBlock = some g → g < w.heap.size) ∧
  ∃ a cap, v = .slice a lns.length cap ∧ (lns.length ≤ cap ∧ cap ≤ maxLen) ∧ ∀ k (hk : k < lns.length), ∃ g off kb vr ve, a = some ⟨g, off, none⟩ ∧ LineAt w g (off + k * 4) kb vr ve lns[k]

theorem TableRd.shape {w : World} {v : Value} {lns : List Tm.Ln} (h : TableRd w v lns) : ∃ a cap, v = .slice a lns.length cap := by
  obtain ⟨_, a, cap, rfl, _⟩ := h
  exact ⟨a, cap, rfl⟩

theorem LineAt.below {w w' : World} {g off : Nat} {kb : ByteArray} {vr ve : Value} {ln : Tm.Ln} (h : LineAt w g off kb vr ve ln) (hb : Below w.heap.size w w') (hg : g < w.heap.size) : LineAt w' g off kb vr ve ln := by
  obtain ⟨h0, h1, h2, h3, hk, hr, he⟩ := h
  refine ⟨?_, ?_, ?_, ?_, hk, hr.below hb hr.2.1, he.below hb he.2.1⟩
  · rw [hb.cell (p := ⟨g, off, none⟩) hg]; exact h0
  · rw [hb.cell (p := ⟨g, off + 1, none⟩) hg]; exact h1
  · rw [hb.cell (p := ⟨g, off + 2, none⟩) hg]; exact h2
  · rw [hb.cell (p := ⟨g, off + 3, none⟩) hg]; exact h3

theorem TableRd.below {w w' : World} {v : Value} {lns : List Tm.Ln} (h : TableRd w v lns) (hb : Below w.heap.size w w') : TableRd w' v lns := by
  obtain ⟨hlt, a, cap, rfl, hcap, hc⟩ := h
  refine ⟨fun g hg => Nat.lt_of_lt_of_le (hlt g hg) hb.size, a, cap, rfl, hcap, fun k hk => ?_⟩
  obtain ⟨g, off, kb, vr, ve, rfl, hl⟩ := hc k hk
  exact ⟨g, off, kb, vr, ve, rfl, hl.below hb (hlt g rfl)⟩

theorem TableRd.at {w : World} {a : Option Addr} {m cap : Nat} {lns : List Tm.Ln} (h : TableRd w (.slice a m cap) lns) {k : Nat} (hk : k < lns.length) :
    ∃ g off kb vr ve, a = some ⟨g, off, none⟩ ∧ g < w.heap.size ∧ LineAt w g (off + k * 4) kb vr ve lns[k] := by
  obtain ⟨hlt, a, cap, he, _, hc⟩ := h
  cases he
  obtain ⟨g, off, kb, vr, ve, rfl, hl⟩ := hc k hk
  exact ⟨g, off, kb, vr, ve, rfl, hlt g rfl, hl⟩

theorem Reads.at {w : World} {a : Option Addr} {m cap : Nat} {l : List Int} (h : Reads w (.slice a m cap) 1 l.length (ints l)) {k : Nat} (hk : k < l.length) :
    ∃ g off, a = some ⟨g, off, none⟩ ∧ g < w.heap.size ∧ w.cell? ⟨g, off + k, none⟩ = some (.int .i64 l[k]) := by
  obtain ⟨g, off, cap', he, hg, hc⟩ := h.form (by rw [ints_length]; omega)
  cases he
  exact ⟨g, off, rfl, hg, hc k _ (ints_get hk)⟩

theorem Reads.tail {w : World} {g off n cap : Nat} {l : List Int} (h : Reads w (.slice (some ⟨g, off, none⟩) n cap) 1 l.length (ints l)) (hn : 0 < l.length) :
    Reads w (.slice (some ⟨g, off + 1, none⟩) (l.length - 1) (cap - 1)) 1 l.tail.length (ints l.tail) := by
  obtain ⟨h1, hlt, a, cap', he, hcap, hc⟩ := h
  cases he
  refine ⟨by simp [ints], fun g' hg' => hlt g' (by simpa [Value.ownBlock] using hg'), _, _, by rw [List.length_tail], ⟨by rw [List.length_tail]; omega, by omega⟩, fun j u hu => ?_⟩
  have hj : (ints l)[j + 1]? = some u := by
    rw [← hu]
    simp [ints, List.getElem?_map]
  obtain ⟨g', off', he, hcell⟩ := hc (j + 1) u hj
  cases he
  exact ⟨g, off + 1, rfl, by rw [← hcell]; congr 2; omega⟩
end Go.Proofs.YthaecjhnlpbfnaaDoor
namespace Go.Proofs.YthaecjhnlpbfnaaDoor
open Go.RowKit

theorem parts_none {lns : List Tm.Ln} {r : Int} (h : lns.find? (Tm.isParts r) = none) : Tm.parts lns r = [] := by unfold Tm.parts; rw [h]
theorem parts_some {lns : List Tm.Ln} {r : Int} {o : Tm.Ln} (h : lns.find? (Tm.isParts r) = some o) : Tm.parts lns r = o.runes.tail := by unfold Tm.parts; rw [h]
theorem find_step {α : Type} {l : List α} {p : α → Bool} {k : Nat} (h : ∀ j (_ : j < k) (hj : j < l.length), p l[j] = false) (hk : k < l.length) (hx : p l[k] = false) : ∀ j (_ : j < k + 1) (hj : j < l.length), p l[j] = false := by
  intro j hj hl
  by_cases e : j = k
  · subst e; exact hx
  · exact h j (by omega) hl
theorem find_none {α : Type} {l : List α} {p : α → Bool} {k : Nat} (h : ∀ j (_ : j < k) (hj : j < l.length), p l[j] = false) (hk : l.length ≤ k) : l.find? p = none := by
  rw [List.find?_eq_none]
  intro x hx
  obtain ⟨j, hj, rfl⟩ := List.getElem_of_mem hx
  simp [h j (by omega) hj]
theorem find_hit {α : Type} {l : List α} {p : α → Bool} {k : Nat} (h : ∀ j (_ : j < k) (hj : j < l.length), p l[j] = false) (hk : k < l.length) (hx : p l[k] = true) : l.find? p = some l[k] := by
  rw [List.find?_eq_some_iff_getElem]
  exact ⟨hx, k, hk, rfl, fun j hj => by simp [h j hj (by omega)]⟩

set_option maxRecDepth 100000 in
set_option maxHeartbeats 1000000 in
theorem Parts_any (vl : Value) (st : Int) (sh : Bool) (r : Int) (lns : List Tm.Ln) (w : World) (ht : TableRd w vl lns) (hne : ∀ o ∈ lns, o.runes ≠ []) (hl : lns.length ≤ 1000000) :
    Calls Tryd.prog 72 #[.agg #[vl, .int .i64 st, .bool sh], .int .i64 r] w fun e w' => ∃ v, e = .returned v ∧ Reads w v 1 (Tm.parts lns r).length (ints (Tm.parts lns r)) ∧ Below w.heap.size w w' := by
  obtain ⟨a, cap, rfl⟩ := ht.shape
  have HT := hide ht
  have HNE := hide hne
  clear ht hne
  go_enter Tryd.func72, Tryd.ntmps72
  go_wp2
  go_loop [5] (fun i => ∃ k : Nat, k ≤ lns.length ∧ i = .int .i64 k ∧ ∀ j (_ : j < k) (hj : j < lns.length), Tm.isParts r lns[j] = false) (fun i => lns.length - (intOf i).toNat)
  case atStart => exact ⟨0, Nat.zero_le _, rfl, fun j hj => by omega⟩
  case round =>
    obtain ⟨k, hk, rfl, hno⟩ := hrel
    by_cases hlt : k < lns.length
    · obtain ⟨g, off, kb, vr, ve, rfl, hg, c0, c1, c2, c3, hkb, hr, he⟩ := HT.out.at hlt
      have hpos : 0 < lns[k].runes.length := List.length_pos_iff.2 (HNE.out _ (List.getElem_mem hlt))
      obtain ⟨ar, capr, rfl⟩ := hr.shape
      have hfit := hr.fits
      obtain ⟨gr, offr, rfl, hgr, cr⟩ := hr.at hpos
      have HR := hide (hr.tail hpos)
      have hip : Tm.isParts r lns[k] = ((kb.toList == [100]) && (lns[k].runes[0] == r)) := by
        unfold Tm.isParts
        rw [← hkb, ByteArray.toList_eq]
        congr 1
        · rw [Bool.eq_iff_iff]; simp
        · simp [hpos]
      have HS : Hid (Tm.isParts r lns[k] = false → ∀ j (_ : j < k + 1) (hj : j < lns.length), Tm.isParts r lns[j] = false) := fun hx => find_step hno hlt hx
      have HY : Hid (Tm.isParts r lns[k] = true → Tm.parts lns r = lns[k].runes.tail) := fun hx => parts_some (find_hit hno hlt hx)
      rw [hip] at HS HY
      have g1 : ¬ g = w.heap.size := by omega
      have g2 : ¬ gr = w.heap.size := by omega
      have hc1 : 1 ≤ capr := by omega
      have hc2 : capr ≤ 9223372036854775807 := by have := hfit.2.2; unfold maxLen at this; omega
      have hc3 := hfit.2.1
      generalize lns[k].runes[0] = x0 at *
      generalize hln : lns[k].runes.length = ln at *
      have HLN := hide hln
      clear hno hr he hkb hip hln hfit
      simp only [Nat.add_zero] at cr
      cases hk1 : (kb.toList == [100])
      · have HS' := hide (HS.out (by rw [hk1]; rfl))
        go_wp2
        go_round
        case rel => exact ⟨k + 1, by omega, by go_num, HS'.out⟩
        case measure => simp [intOf]; omega
      · cases hk2 : (x0 == r)
        · have HS' := hide (HS.out (by rw [hk1, hk2]; rfl))
          go_wp2
          go_round
          case rel => exact ⟨k + 1, by omega, by go_num, HS'.out⟩
          case measure => simp [intOf]; omega
        · have HY' := hide (HY.out (by rw [hk1, hk2]; rfl))
          by_cases hcap1 : capr = 1
          · subst hcap1
            have hl1 : ln = 1 := by omega
            subst hl1
            go_wp2
            go_ret
            refine ⟨.slice (some ⟨gr, offr, none⟩) 0 0, rfl, ?_, (Below.refl _ _).alloc (Nat.le_refl _) _⟩
            have h0 : lns[k].runes.tail = [] := List.eq_nil_of_length_eq_zero (by rw [List.length_tail, HLN.out])
            rw [HY'.out, h0]
            exact ⟨rfl, fun g' hg' => by simp [Value.ownBlock] at hg'; omega, _, 0, rfl, ⟨Nat.le_refl _, Nat.zero_le _⟩, by simp [ints]⟩
          · go_wp2
            go_ret
            refine ⟨.slice (some ⟨gr, offr + 1, none⟩) (ln - 1) (capr - 1), rfl, ?_, (Below.refl _ _).alloc (Nat.le_refl _) _⟩
            rw [HY'.out]
            exact HR.out
    · have HN := hide (parts_none (find_none hno (by omega)))
      clear hno
      go_wp2
      go_ret
      exact ⟨_, rfl, by rw [HN.out]; exact ⟨rfl, fun g hg => by simp [Value.ownBlock] at hg, none, 0, rfl, ⟨Nat.le_refl _, Nat.zero_le _⟩, by simp [ints]⟩, (Below.refl _ _).alloc (Nat.le_refl _) _⟩
end Go.Proofs.YthaecjhnlpbfnaaDoor
namespace Go.Proofs.YthaecjhnlpbfnaaDoor
open Go.RowKit

theorem Tryd.infoStr : (Tryd.prog.info? 9).map (fun i => (i.zero, i.size, i.bytes)) = some (some (.string ByteArray.empty), 1, 16) := by kernel_rfl

/-- What has been gathered when k letters were looked at, the newest word beginning at m. -/
def wordsRel (s : ByteArray) (c : UInt8) (k m : Nat) (bs : List ByteArray) : Prop :=
  bs.map (·.data.toList) ++ Tm.glue ((s.data.toList.drop m).take (k - m)) (Tm.split c (s.data.toList.drop k)) = Tm.split c s.data.toList

theorem wordsRel_zero (s : ByteArray) (c : UInt8) : wordsRel s c 0 0 [] := by simp [wordsRel, Tm.glue_nil]
theorem wordsRel_hit {s : ByteArray} {c : UInt8} {k m : Nat} {bs : List ByteArray} (hk : k < s.size) (hc : s[k] = c) (h : wordsRel s c k m bs) :
    wordsRel s c (k + 1) (k + 1) (bs ++ [s.extract m k]) := by
  unfold wordsRel at *
  rw [Tm.drop_cons s k hk, hc, Tm.glue_hit] at h
  simp [Tm.glue_nil, ← h]
theorem wordsRel_miss {s : ByteArray} {c : UInt8} {k m : Nat} {bs : List ByteArray} (hk : k < s.size) (hm : m ≤ k) (hc : s[k] ≠ c) (h : wordsRel s c k m bs) :
    wordsRel s c (k + 1) m bs := by
  unfold wordsRel at *
  rw [Tm.drop_cons s k hk, Tm.glue_miss c s[k] _ _ hc] at h
  rw [← h]
  congr 2
  rw [show k + 1 - m = (k - m) + 1 from by omega, List.take_add_one]
  congr 1
  simp [List.getElem?_drop, show m + (k - m) = k from by omega]
  rw [Array.getElem?_eq_getElem (by exact hk)]
  rfl
theorem wordsRel_end {s : ByteArray} {c : UInt8} {k m : Nat} {bs : List ByteArray} (hk : ¬ k < s.size) (hk' : k ≤ s.size) (h : wordsRel s c k m bs) :
    (bs ++ [s.extract m s.size]).map (·.data.toList) = Tm.split c s.data.toList := by
  have : k = s.size := by omega
  subst this
  unfold wordsRel at h
  rw [Tm.drop_all s _ (Nat.le_refl _), Tm.glue_end] at h
  simp [← h]

/-- A word more, by append: what the round keeps. -/
theorem words_grow {w wr w1 : World} {v v' : Value} {bs : List ByteArray} {b : ByteArray}
    (hb : Below w.heap.size w wr) (hown : wr.ownsRow w.heap.size 9 1 v bs.length (bs.map Value.string))
    (hown' : w1.ownsRow w.heap.size 9 1 v' (bs.length + 1) (bs.map Value.string ++ [.string b])) (hgrow : (wr.alloc (.cells #[.string b] 9)).grownBy w1 v.ownBlock) :
    w1.ownsRow w.heap.size 9 1 v' (bs ++ [b]).length ((bs ++ [b]).map Value.string) ∧ Below w.heap.size w w1 := by
  refine ⟨by simpa using hown', ?_⟩
  have hz := hb.size
  exact (hb.alloc hz _).grown hgrow (by simp; omega) (fun k hk => (hown.lt k hk).1)

theorem u8_iff {c d : UInt8} : ((c.toNat : Int) == (d.toNat : Int)) = true ↔ c = d := by
  simp only [beq_iff_eq]
  exact ⟨fun h => UInt8.toNat_inj.1 (by omega), fun h => by rw [h]⟩

set_option maxRecDepth 100000 in
set_option maxHeartbeats 1000000 in
theorem words_any (s : ByteArray) (c : UInt8) (n : Int) (hn : n = c.toNat) (w : World) (hs : s.size ≤ 8192) :
    Calls Tryd.prog 24 #[.string s, .int .u8 n] w fun e w' => ∃ (v : Value) (bs : List ByteArray), e = .returned v ∧ w'.ownsRow w.heap.size 9 1 v bs.length (bs.map Value.string) ∧
      bs.map (·.data.toList) = Tm.split c s.data.toList ∧ Below w.heap.size w w' := by
  obtain ⟨i0, hi, hz0, hz1, hz2⟩ := info_parts Tryd.infoStr
  have HN := hide hn
  clear hn
  go_enter Tryd.func24, Tryd.ntmps24
  go_wp2
  go_loopw [5, 6, 7] (fun v f i wr => ∃ k m : Nat, k ≤ s.size ∧ m ≤ k ∧ i = .int .i64 k ∧ f = .int .i64 m ∧ ∃ bs : List ByteArray, bs.length ≤ k ∧ wr.ownsRow w.heap.size 9 1 v bs.length (bs.map Value.string) ∧ Below w.heap.size w wr ∧ wordsRel s c k m bs)
    (fun _ _ i _ => s.size - (intOf i).toNat)
  case atStart => exact ⟨0, 0, Nat.zero_le _, Nat.le_refl _, rfl, rfl, [], by simp, World.ownsRow_nil _ _ _ _, Below.refl _ _, wordsRel_zero s c⟩
  case round =>
    obtain ⟨k, m, hk, hm, rfl, rfl, bs, hbs, hown, hb, hrel⟩ := hrel
    have HR := hide hrel
    have hz := hb.size
    clear hrel
    by_cases hlt : k < s.size
    · cases hc : ((s[k].toNat : Int) == n)
      · have hne : s[k] ≠ c := fun h => by rw [HN.out, h] at hc; simp at hc
        have HR' := hide (wordsRel_miss hlt hm hne HR.out)
        clear hne HR
        go_wp2
        go_roundw
        case rel => exact ⟨k + 1, m, by omega, by omega, by go_num, rfl, bs, by omega, hown, hb, HR'.out⟩
        case measure => simp [intOf]; omega
      · have heq : s[k] = c := by rw [HN.out] at hc; exact u8_iff.1 hc
        have HR' := hide (wordsRel_hit hlt heq HR.out)
        clear heq HR
        go_wp2_with (at_builtin; refine wpList_append_own _ rfl _ _ 32 rfl w.heap.size 9 i0 (.string ByteArray.empty) 1 16 Tryd.underlying32 hi hz0 hz1 hz2 rfl (by decide) _ _ _ rfl (hown.alloc _) ⟨wr.heap.size, 0, none⟩ 1 1 [.string (s.extract m k)] rfl rfl ?c1 ?c2 ?c3 ?c4 ?c5 ?_)
        case c1 =>
          intro j u hj
          match j, hj with
          | 0, hj => simp at hj; subst hj; simp [Addr.add]
        case c2 => intro u hu; simp at hu; subst hu; rfl
        case c3 => unfold maxLen; omega
        case c4 => omega
        case c5 => simp; omega
        intro v' w1 hown' hgrow _
        have R := words_grow hb hown hown' hgrow
        have R1 := R.1
        have R2 := R.2
        clear hown' hgrow hown hb R
        go_wp2
        go_roundw
        case rel => exact ⟨k + 1, k + 1, by omega, by omega, by go_num, by go_num, _, by simp; omega, R1, R2, HR'.out⟩
        case measure => simp [intOf]; omega
    · have HR' := hide (wordsRel_end hlt hk HR.out)
      clear HR
      go_wp2_with (at_builtin; refine wpList_append_own _ rfl _ _ 32 rfl w.heap.size 9 i0 (.string ByteArray.empty) 1 16 Tryd.underlying32 hi hz0 hz1 hz2 rfl (by decide) _ _ _ rfl (hown.alloc _) ⟨wr.heap.size, 0, none⟩ 1 1 [.string (s.extract m s.size)] rfl rfl ?d1 ?d2 ?d3 ?d4 ?d5 ?_)
      case d1 =>
        intro j u hj
        match j, hj with
        | 0, hj => simp at hj; subst hj; simp [Addr.add]
      case d2 => intro u hu; simp at hu; subst hu; rfl
      case d3 => unfold maxLen; omega
      case d4 => omega
      case d5 => simp; omega
      intro v' w1 hown' hgrow _
      have R := words_grow hb hown hown' hgrow
      have R1 := R.1
      have R2 := R.2
      clear hown' hgrow hown hb R
      go_wp2
      go_ret
      exact ⟨_, _, rfl, R1, HR'.out, R2⟩
end Go.Proofs.YthaecjhnlpbfnaaDoor
namespace Go.Proofs.YthaecjhnlpbfnaaDoor
open Go.RowKit

/-- What element answers: the weights as they were read, and whether they are an element. -/
def elemAns (r : Option Tm.El) (e : Ending) : Prop :=
  ∃ (p s t : Int) (v ok : Bool), e = .returned (.tuple #[.agg #[.int .i64 p, .int .i64 s, .int .i64 t, .bool v], .bool ok]) ∧ (if ok then r = some ⟨p, s, t, v⟩ else r = none)

theorem row3 {w : World} {base : Nat} {e : TypeId} {v : Value} {b0 b1 b2 : ByteArray} (h : w.ownsRow base e 1 v 3 [.string b0, .string b1, .string b2]) :
    ∃ g cap, v = .slice (some ⟨g, 0, none⟩) 3 cap ∧ base ≤ g ∧ w.cell? ⟨g, 0, none⟩ = some (.string b0) ∧ w.cell? ⟨g, 1, none⟩ = some (.string b1) ∧ w.cell? ⟨g, 2, none⟩ = some (.string b2) := by
  obtain ⟨g, cap, rfl, hg, _⟩ := h.form (by omega)
  have hc := h.cells (g := g) rfl
  exact ⟨g, cap, rfl, hg, by simpa [Addr.add] using hc 0 _ rfl, by simpa [Addr.add] using hc 1 _ rfl, by simpa [Addr.add] using hc 2 _ rfl⟩

theorem three_of {α : Type} {l : List α} (h : l.length = 3) : ∃ a b c, l = [a, b, c] := by
  match l, h with
  | [a, b, c], _ => exact ⟨a, b, c, rfl⟩

theorem word_sizes {s : ByteArray} {c : UInt8} {bs : List ByteArray} (h : bs.map (·.data.toList) = Tm.split c s.data.toList) (hs : s.size ≤ 8192) : ∀ b ∈ bs, b.size ≤ 8192 := by
  intro b hb
  have := Tm.split_length c s.data.toList b.data.toList (by rw [← h]; exact List.mem_map.2 ⟨b, hb, rfl⟩)
  rw [len_bytes, len_bytes] at this
  omega

/-- Does a text begin with the star? -/
def star (s : ByteArray) : Bool := s.data.toList.head? == some 42
def bare (s : ByteArray) : ByteArray := if star s then s.extract 1 s.size else s

theorem star_nil {s : ByteArray} (h : s.size = 0) : star s = false := by
  have : s.data.toList = [] := List.eq_nil_of_length_eq_zero (by rw [len_bytes]; exact h)
  simp [star, this]
theorem star_no {s : ByteArray} (hp : 0 < s.size) (h : ((s[0].toNat : Int) == 42) = false) : star s = false := by
  unfold star
  rw [head_of s hp]
  have := u8_ne_of (n := 42) h (by omega)
  simpa using this
theorem star_yes {s : ByteArray} (hp : 0 < s.size) (h : ((s[0].toNat : Int) == 42) = true) : star s = true := by
  unfold star
  rw [head_of s hp, u8_eq_of (n := 42) h (by omega)]; rfl
theorem star_pos {s : ByteArray} (h : star s = true) : 0 < s.size := by
  rcases Nat.eq_zero_or_pos s.size with h0 | h0
  · rw [star_nil h0] at h; cases h
  · exact h0
theorem elem_star (s : ByteArray) : Tm.elem s.data.toList = Tm.elem3 (star s) (Tm.split 46 (bare s).data.toList) := by
  unfold bare star
  cases hl : s.data.toList with
  | nil => simp [Tm.elem, hl]
  | cons x r =>
    by_cases hx : x = 42
    · subst hx
      have : (s.extract 1 s.size).data.toList = r := by
        rw [extract_bytes, hl, ← len_bytes, hl]; simp
      have h2 : (if (((42 : UInt8) :: r).head? == some 42) = true then s.extract 1 s.size else s) = s.extract 1 s.size := rfl
      rw [h2, this]; rfl
    · have h1 : ((x :: r).head? == some 42) = false := by simp [hx]
      rw [h1]
      simp [Tm.elem, hx, hl]

def elObj (p s t : Int) (b : Bool) : Obj := .cells #[.int .i64 p, .int .i64 s, .int .i64 t, .bool b] 64

theorem bare_size (s : ByteArray) : (bare s).size ≤ s.size := by
  unfold bare; split <;> simp
theorem empty_of {s : ByteArray} : s.toList.isEmpty = decide (s.size = 0) := by
  rw [ByteArray.toList_eq, Bool.eq_iff_iff, List.isEmpty_iff, decide_eq_true_iff, ← len_bytes, List.length_eq_zero_iff]
theorem elem3_ways {v : Bool} {a b c : List UInt8} (h : ¬ ((0 ≤ Tm.num a ∧ 0 ≤ Tm.num b ∧ 0 ≤ Tm.num c) ∧ Tm.num a ≤ 65535 ∧ Tm.num b ≤ 65535 ∧ Tm.num c ≤ 65535)) : Tm.elem3 v [a, b, c] = none := by
  simp only [Tm.elem3]; rw [if_neg h]
theorem elem3_good {v : Bool} {a b c : List UInt8} (h : (0 ≤ Tm.num a ∧ 0 ≤ Tm.num b ∧ 0 ≤ Tm.num c) ∧ Tm.num a ≤ 65535 ∧ Tm.num b ≤ 65535 ∧ Tm.num c ≤ 65535) : Tm.elem3 v [a, b, c] = some ⟨Tm.num a, Tm.num b, Tm.num c, v⟩ := by
  simp only [Tm.elem3]; rw [if_pos h]

set_option maxRecDepth 100000 in
set_option maxHeartbeats 4000000 in
theorem element_any (s : ByteArray) (w : World) (hs : s.size ≤ 8192) :
    Calls Tryd.prog 49 #[.string s] w fun e w' => elemAns (Tm.elem s.data.toList) e ∧ Below w.heap.size w w' := by
  go_enter Tryd.func49, Tryd.ntmps49
  go_upto_region 2 with fail
  go_cut [14] from 8 to 13 (fun t wx => t = .bool (star s) ∧ wx = (w.alloc (elObj 0 0 0 false)).alloc (elObj 0 0 0 false))
  case first =>
    by_cases h0 : s.size = 0
    · have he : s.toList.isEmpty = true := by rw [empty_of]; simp [h0]
      have HS := hide (star_nil h0)
      clear h0
      go_wp2
      go_meet
      case rel => exact ⟨by rw [HS.out], rfl⟩
    · have he : s.toList.isEmpty = false := by rw [empty_of]; simp [h0]
      have hp : 0 < s.size := by omega
      cases h42 : ((s[0].toNat : Int) == 42)
      · have HS := hide (star_no hp h42)
        go_wp2
        go_meet
        case rel => exact ⟨by rw [HS.out], rfl⟩
      · have HS := hide (star_yes hp h42)
        go_wp2
        go_meet
        case rel => exact ⟨by rw [HS.out], rfl⟩
  case rest =>
    obtain ⟨rfl, rfl⟩ := hcut
    go_upto_if 14 with fail
    go_cut [0] from 7 to 17 (fun t wx => t = .string (bare s) ∧ wx = (w.alloc (elObj 0 0 0 false)).alloc (elObj 0 0 0 (star s)))
    case first =>
      cases hst : star s
      · have HB : Hid (bare s = s) := by unfold bare Hid; rw [hst]; rfl
        have HT := hide hst
        go_wp2
        go_meet
        case rel => exact ⟨by rw [HB.out], by rw [HT.out]⟩
      · have hp := star_pos hst
        have HB : Hid (bare s = s.extract 1 s.size) := by unfold bare Hid; rw [hst]; rfl
        unfold elObj
        have HT := hide hst
        go_wp2
        go_meet
        case rel => exact ⟨by rw [HB.out], by rw [HT.out]; rfl⟩
    case rest =>
      obtain ⟨rfl, rfl⟩ := hcut
      have hbs := bare_size s
      have HE := hide (elem_star s)
      generalize star s = vb at *
      generalize bare s = sv at *
      go_wp2_with fail
      refine (words_any sv 46 46 rfl _ (by omega)).mono ?_
      rintro e w1 ⟨v, bs, rfl, hown, hsp, hb⟩
      have hc := (bcell hb).1
      have hf := (bcell hb).2
      have x0 : w1.cell? ⟨w.heap.size + 1, 0, none⟩ = some (.int .i64 0) := by rw [hc _ _ (by simp)]; simp [elObj]
      have x1 : w1.cell? ⟨w.heap.size + 1, 1, none⟩ = some (.int .i64 0) := by rw [hc _ _ (by simp)]; simp [elObj]
      have x2 : w1.cell? ⟨w.heap.size + 1, 2, none⟩ = some (.int .i64 0) := by rw [hc _ _ (by simp)]; simp [elObj]
      have x3 : w1.cell? ⟨w.heap.size + 1, 3, none⟩ = some (.bool vb) := by rw [hc _ _ (by simp)]; simp [elObj]
      have y0 : w1.cell? ⟨w.heap.size, 0, none⟩ = some (.int .i64 0) := by rw [hc _ _ (by simp; omega)]; simp [elObj]
      have y1 : w1.cell? ⟨w.heap.size, 1, none⟩ = some (.int .i64 0) := by rw [hc _ _ (by simp; omega)]; simp [elObj]
      have y2 : w1.cell? ⟨w.heap.size, 2, none⟩ = some (.int .i64 0) := by rw [hc _ _ (by simp; omega)]; simp [elObj]
      have y3 : w1.cell? ⟨w.heap.size, 3, none⟩ = some (.bool false) := by rw [hc _ _ (by simp; omega)]; simp [elObj]
      have fx : ∀ o, w1.frozen? ⟨w.heap.size + 1, o, none⟩ = false := by intro o; rw [hf _ _ (by simp)]; simp [elObj]
      have fy : ∀ o, w1.frozen? ⟨w.heap.size, o, none⟩ = false := by intro o; rw [hf _ _ (by simp; omega)]; simp [elObj]
      have hb0 : Below w.heap.size w w1 := (((Below.refl _ _).alloc (Nat.le_refl _) _).alloc (by simp) _).trans (hb.mono (by simp; omega))
      have HB := hide hb0
      clear hc hf hb0 hb
      by_cases h3 : bs.length = 3
      · obtain ⟨b0, b1, b2, rfl⟩ := three_of h3
        obtain ⟨g, cap, rfl, hg, c0, c1, c2⟩ := row3 (by simpa using hown)
        try simp at hg
        have g1 : ¬ g = w.heap.size + 1 := by omega
        have g2 : ¬ g = w.heap.size := by omega
        have hsz := word_sizes hsp (by omega)
        have hs0 := hsz b0 (by simp)
        have hs1 := hsz b1 (by simp)
        have hs2 := hsz b2 (by simp)
        have HS := hide hsp
        clear hown hsz hsp h3
        go_wp2_with fail
        refine (number_any b0 _ (by unfold maxLen; omega)).mono ?_
        rintro e w2 ⟨rfl, rfl⟩
        generalize hp0 : Tm.num b0.data.toList = p0
        have HP0 := hide hp0
        clear hp0
        go_wp2_with fail
        refine (number_any b1 _ (by unfold maxLen; omega)).mono ?_
        rintro e w3 ⟨rfl, rfl⟩
        generalize hp1 : Tm.num b1.data.toList = p1
        have HP1 := hide hp1
        clear hp1
        go_wp2_with fail
        refine (number_any b2 _ (by unfold maxLen; omega)).mono ?_
        rintro e w4 ⟨rfl, rfl⟩
        generalize hp2 : Tm.num b2.data.toList = p2
        have HP2 := hide hp2
        clear hp2 hs0 hs1 hs2 c0 c1 c2 g1 g2 hg
        have hway : (decide (0 ≤ p0) = false ∧ p0 < 0) ∨ (0 ≤ p0 ∧ decide (0 ≤ p1) = false ∧ p1 < 0) ∨ (0 ≤ p0 ∧ 0 ≤ p1 ∧ decide (0 ≤ p2) = false ∧ p2 < 0) ∨ (0 ≤ p0 ∧ 0 ≤ p1 ∧ 0 ≤ p2 ∧ decide (p0 ≤ 65535) = false ∧ 65535 < p0) ∨
            (0 ≤ p0 ∧ 0 ≤ p1 ∧ 0 ≤ p2 ∧ p0 ≤ 65535 ∧ decide (p1 ≤ 65535) = false ∧ 65535 < p1) ∨ (0 ≤ p0 ∧ 0 ≤ p1 ∧ 0 ≤ p2 ∧ p0 ≤ 65535 ∧ p1 ≤ 65535 ∧ decide (p2 ≤ 65535) = false ∧ 65535 < p2) ∨ (0 ≤ p0 ∧ 0 ≤ p1 ∧ 0 ≤ p2 ∧ p0 ≤ 65535 ∧ p1 ≤ 65535 ∧ p2 ≤ 65535) := by
          simp only [decide_eq_false_iff_not]; omega
        rcases hway with ⟨d1, d0⟩ | ⟨q0, d1, d0⟩ | ⟨q0, q1, d1, d0⟩ | ⟨q0, q1, q2, d1, d0⟩ | ⟨q0, q1, q2, q3, d1, d0⟩ | ⟨q0, q1, q2, q3, q4, d1, d0⟩ | ⟨q0, q1, q2, q3, q4, q5⟩
        rotate_left 6
        · go_wp2
          go_region
          go_wp2
          refine bodyPost_ret (v := .tuple #[.agg #[.int .i64 p0, .int .i64 p1, .int .i64 p2, .bool vb], .bool true]) (by simp [results, Tryd.results49, go_sem, y0, y1, y2, y3]) rfl ⟨⟨p0, p1, p2, vb, true, rfl, ?_⟩, ?_⟩
          · have h := HS.out
            rw [if_pos rfl, HE.out, ← h, List.map_cons, List.map_cons, List.map_cons, List.map_nil, elem3_good (by rw [HP0.out, HP1.out, HP2.out]; exact ⟨⟨q0, q1, q2⟩, q3, q4, q5⟩), HP0.out, HP1.out, HP2.out]
          · (repeat (first | with_reducible exact HB.out | with_reducible refine Below.drew ?_ | with_reducible refine Below.setCell ?_ (by simp) _))
        all_goals
          go_wp2
          go_region
          go_wp2
          refine bodyPost_ret (v := .tuple #[.agg #[.int .i64 p0, .int .i64 p1, .int .i64 p2, .bool vb], .bool false]) (by simp [results, Tryd.results49, go_sem, y0, y1, y2, y3]) rfl ⟨⟨p0, p1, p2, vb, false, rfl, ?_⟩, ?_⟩
          · have h := HS.out
            have h0 : Tm.elem s.data.toList = none := by
              rw [HE.out, ← h, List.map_cons, List.map_cons, List.map_cons, List.map_nil, elem3_ways (by rw [HP0.out, HP1.out, HP2.out]; omega)]
            simpa using h0
          · (repeat (first | with_reducible exact HB.out | with_reducible refine Below.drew ?_ | with_reducible refine Below.setCell ?_ (by simp) _))
      · have HN := hide (Tm.elem3_short (v := vb) (l := Tm.split 46 sv.data.toList) (by rw [← hsp, List.length_map]; exact h3))
        have hl3 : ((bs.length : Int) != 3) = true := by rw [bne_iff_ne]; omega
        have hcap : ∃ a cap, v = .slice a bs.length cap := by
          rcases hown.2 with ⟨rfl, h0⟩ | ⟨g, cap, cur, rfl, _⟩
          · exact ⟨none, 0, by rw [h0]⟩
          · exact ⟨_, _, rfl⟩
        obtain ⟨a, cap, rfl⟩ := hcap
        have HE' := hide (HE.out.trans HN.out)
        clear hown hsp HE HN
        go_wp2
        refine bodyPost_ret (v := .tuple #[.agg #[.int .i64 0, .int .i64 0, .int .i64 0, .bool vb], .bool false]) (by simp [results, Tryd.results49, go_sem, y0, y1, y2, y3]) rfl ⟨⟨0, 0, 0, vb, false, rfl, by simpa using HE'.out⟩, ?_⟩
        (repeat (first | with_reducible exact HB.out | with_reducible refine Below.drew ?_ | with_reducible refine Below.setCell ?_ (by simp) _))
end Go.Proofs.YthaecjhnlpbfnaaDoor
