import Derived.Test.YtmnjjjhmnhfapaaDoorMCodeBuild
import Derived.Test.YtmnjjjhmnhfapaaDoorMNormPlain
import Derived.Test.YtmnjjjhmnhfapaaDoorMLawNormal
import Derived.Test.YtmnjjjhmnhfapaaDoorMLawWhole
import Derived.Test.YtmnjjjhmnhfapaaDoorMLawPlain
import Derived.Test.YtmnjjjhmnhfapaaDoorMRefSame
namespace Go.Proofs.YtmnjjjhmnhfapaaDoor

theorem newTable_ends {s : List UInt8} {st : Int} {lns : List Tm.Ln} (h : Tm.newTable s st = (lns, 0, 0)) (r : Int) : Tm.ends lns 4 r = true := by
  refine Tm.ends_all ?_ r
  unfold Tm.newTable at h
  split at h
  · simp at h
  · split at h
    · simp at h
    · split at h
      · rename_i n e heq
        simp at h
        exact absurd h.2.2 (readLines_err _ _ _ _ _ _ heq)
      · rename_i heq
        injection h with h1 h2
        subst h1
        exact congrArg Prod.snd h2
end Go.Proofs.YtmnjjjhmnhfapaaDoor
namespace Go.Proofs.YtmnjjjhmnhfapaaDoor
open Go.RowKit

theorem Turns.refl (bb : Nat) (vb : Value) (w : World) : Turns bb vb vb w w := Turns.of (Below.refl _ _)
theorem Turns.trans {bb : Nat} {v0 v1 v2 : Value} {w0 w1 w2 : World} (h : Turns bb v0 v1 w0 w1) (k : Turns bb v1 v2 w1 w2) : Turns bb v0 v2 w0 w2 := by
  refine ⟨Nat.le_trans h.size k.size, k.os.trans h.os, k.tape.trans h.tape, k.output.trans h.output, fun g h1 h2 h3 => ?_, fun g hg => ?_⟩
  · have hs := h.size
    refine (k.block g (by omega) h2 (fun hv => ?_)).trans (h.block g h1 h2 h3)
    rcases h.at' g hv with h4 | h4
    · exact h3 h4
    · omega
  · have hs := h.size
    rcases k.at' g hg with h4 | h4
    · exact h.at' g h4
    · exact .inr (by omega)
/-- What stays, whatever the book does. -/
def Firm (bb : Nat) (vb : Value) (w : World) (P : World → Prop) : Prop := ∀ w' vb', Turns bb vb vb' w w' → P w'
theorem Firm.here {bb : Nat} {vb : Value} {w : World} {P : World → Prop} (h : Firm bb vb w P) : P w := h w vb (Turns.refl _ _ _)
theorem Firm.next {bb : Nat} {vb vb' : Value} {w w' : World} {P : World → Prop} (h : Firm bb vb w P) (t : Turns bb vb vb' w w') : Firm bb vb' w' P := fun _ _ t' => h _ _ (t.trans t')
theorem Firm.below {bb : Nat} {vb : Value} {w w' : World} {P : World → Prop} (h : Firm bb vb w P) (t : Below w.heap.size w w') : Firm bb vb w' P := h.next (Turns.of t)
theorem Firm.block {bb k : Nat} {vb : Value} {w : World} (h1 : k < w.heap.size) (h2 : k ≠ bb) (h3 : vb.ownBlock ≠ some k) : Firm bb vb w (fun w' => w'.heap[k]? = w.heap[k]?) := fun _ _ t => t.block k h1 h2 h3
/-- What lies at blocks of a time at which the book had none of them. -/
theorem Firm.coll {bb B bc bm : Nat} {vb : Value} {w0 w : World} {st : Int} {sh : Bool} {lns : List Tm.Ln} (h : CollOwn w0 B bc bm st sh lns) (hs : w0.heap.size ≤ w.heap.size) (hk : ∀ g, B ≤ g → g < w0.heap.size → w.heap[g]? = w0.heap[g]?) (hbb : bb < B ∨ w0.heap.size ≤ bb) (hvb : ∀ g, vb.ownBlock = some g → g < B ∨ w0.heap.size ≤ g) : Firm bb vb w (fun w' => Coll w' bc bm st sh lns) := fun w' _ t =>
  h w' (Nat.le_trans hs t.size) (fun g h1 h2 => (t.block g (by omega) (by omega) (fun hv => by have := hvb g hv; omega)).trans (hk g h1 h2))
theorem Firm.table {bb B : Nat} {vb vl : Value} {w0 w : World} {lns : List Tm.Ln} (h : TableOwn w0 B vl lns) (hs : w0.heap.size ≤ w.heap.size) (hk : ∀ g, B ≤ g → g < w0.heap.size → w.heap[g]? = w0.heap[g]?) (hbb : bb < B ∨ w0.heap.size ≤ bb) (hvb : ∀ g, vb.ownBlock = some g → g < B ∨ w0.heap.size ≤ g) : Firm bb vb w (fun w' => TableRd w' vl lns) := fun w' _ t =>
  h w' (Nat.le_trans hs t.size) (fun g h1 h2 => (t.block g (by omega) (by omega) (fun hv => by have := hvb g hv; omega)).trans (hk g h1 h2))
theorem Turns.below {bb B : Nat} {vb vb' : Value} {w w' : World} (t : Turns bb vb vb' w w') (hB : B ≤ w.heap.size) (hbb : B ≤ bb) (hvb : ∀ g, vb.ownBlock = some g → B ≤ g) : Below B w w' :=
  ⟨t.os, t.tape, t.output, t.size, fun k hk => t.block k (by omega) (by omega) (fun hv => by have := hvb k hv; omega)⟩
/-- A new book. -/
theorem BookIs.new {w : World} {B : Nat} (hB : B ≤ w.heap.size) : BookIs (w.alloc (.cells #[.slice none 0 0, .slice none 0 0, .slice none 0 0, .slice none 0 0] 43)) w.heap.size B (.slice none 0 0) [] := by
  refine ⟨by simp, hB, by rw [cell_new rfl]; rfl, frozen_new rfl 0, fun o ho => ?_, World.ownsRow_nil _ _ _ _, (fun g hg => by cases hg), rfl, fun i u hu => by simp at hu⟩
  rcases ho with rfl | rfl | rfl <;> (rw [cell_new rfl]; rfl)
end Go.Proofs.YtmnjjjhmnhfapaaDoor
/-
  A slice of texts that came in.
-/
namespace Go.Proofs.YtmnjjjhmnhfapaaDoor
open Go.RowKit

/-- The texts, as the slice of strings reads. -/
def strs (l : List ByteArray) : List Value := l.map Value.string
theorem strs_length (l : List ByteArray) : (strs l).length = l.length := by simp [strs]
theorem strs_get {l : List ByteArray} {k : Nat} (h : k < l.length) : (strs l)[k]? = some (.string l[k]) := by simp [strs, h]
/-- A slice value reads as texts. -/
def TextsRd (w : World) (v : Value) (texts : List ByteArray) : Prop := ∃ a cap, v = .slice a texts.length cap ∧ (0 < texts.length → Reads w v 1 texts.length (strs texts))
end Go.Proofs.YtmnjjjhmnhfapaaDoor
namespace Go.Proofs.YtmnjjjhmnhfapaaDoor
open Go.RowKit

theorem Firm.and {bb : Nat} {vb : Value} {w : World} {P Q : World → Prop} (h : Firm bb vb w P) (k : Firm bb vb w Q) : Firm bb vb w (fun w' => P w' ∧ Q w') := fun _ _ t => ⟨h _ _ t, k _ _ t⟩
theorem below_drewN {B q : Nat} {w w' : World} (h : Below B w w') : Below B w (w'.drewN q) := ⟨h.os, h.tape, h.output, h.size, h.block⟩
/-- Three cells of a variable that holds a table. -/
def Box (w : World) (b : Nat) (vl : Value) (st : Int) (sh : Bool) : Prop := w.cell? ⟨b, 0, none⟩ = some vl ∧ w.cell? ⟨b, 1, none⟩ = some (.int .i64 st) ∧ w.cell? ⟨b, 2, none⟩ = some (.bool sh)
/-- A collator, the document's table of it, and the variable that holds that. -/
structure Pair (w : World) (bc bm bt : Nat) (vl : Value) (st : Int) (sh : Bool) (lns : List Tm.Ln) : Prop where
  coll : Coll w bc bm st sh lns
  table : TableRd w vl lns
  box : Box w bt vl st sh
theorem Firm.pair {bb bc bm bt : Nat} {vb vl : Value} {w : World} {st : Int} {sh : Bool} {lns : List Tm.Ln} (h1 : Firm bb vb w (fun w' => Coll w' bc bm st sh lns)) (h2 : Firm bb vb w (fun w' => TableRd w' vl lns)) (h3 : Firm bb vb w (fun w' => Box w' bt vl st sh)) : Firm bb vb w (fun w' => Pair w' bc bm bt vl st sh lns) := fun _ _ t => ⟨h1 _ _ t, h2 _ _ t, h3 _ _ t⟩
/-- Normal of a text, by the book, in a world of a little later. -/
theorem bookNormal_later {lns : List Tm.Ln} {bc bm bt bb B : Nat} {st : Int} {sh : Bool} {vb vl : Value} {rows : List Value} {w0 w : World} (s : ByteArray) (hp : Firm bb vb w0 (fun w' => Pair w' bc bm bt vl st sh lns)) (hends : ∀ r, Tm.ends lns 4 r = true) (hbook : BookIs w0 bb B vb rows) (hrows : rows.length ≤ 90000000) (hb : Below w0.heap.size w0 w) :
    Calls Tryd.prog 12 #[.pointer (some ⟨bb, 0, none⟩), .pointer (some ⟨bc, 0, none⟩), .agg #[vl, .int .i64 st, .bool sh], .string s] w fun e w' => e = .returned (.bool true) ∧ ∃ vb' rows', BookIs w' bb B vb' rows' ∧ rows'.length ≤ rows.length + 4 ∧ Turns bb vb vb' w0 w' := by
  have h := (hp.below hb).here
  refine (bookNormal_any lns bc bm bb B st st sh sh vb vl rows s w h.coll h.table hends (hbook.stay hb) hrows).mono ?_
  rintro e w' ⟨rfl, vb', rows', h1, h2, h3⟩
  exact ⟨rfl, vb', rows', h1, h2, (Turns.of hb).trans h3⟩

set_option maxRecDepth 100000 in
set_option maxHeartbeats 4000000 in
theorem Forms_any (s : ByteArray) (vt : Value) (texts : List ByteArray) (w : World) (hs : s.size ≤ maxLen) (ht : TextsRd w vt texts) (hl : texts.length ≤ 10000000) :
    Calls Tryd.prog 4 #[.string s, vt] w fun e w' => e = .returned (.bool true) ∧ Below w.heap.size w w' := by
  obtain ⟨at', capt, rfl, ht⟩ := ht
  have HTXQ := hide ht
  clear ht
  go_enter Tryd.func4, Tryd.ntmps4
  go_wp2_with fail
  refine (plain_any new_said _).mono ?_
  rintro e w1 ⟨ax, rfl, hKx, hb1⟩
  obtain ⟨bx, bmx, lnsx, rfl, hCx, hEx⟩ := hKx _ rfl
  have HCX := hide hCx
  have HEX := hide hEx
  have HB1 := hide hb1
  have hz1 := hb1.size
  clear hKx hCx hEx hb1
  go_wp2_with fail
  refine (example_any _).mono ?_
  rintro e w1' ⟨rfl, rfl⟩
  go_wp2_with fail
  refine (RefNew_any ⟨exText.toArray⟩ 3 false _ (by unfold maxLen; decide)).mono ?_
  rintro e w2 ⟨⟨vlx, rfl, hTx, hgx, hlx, hbx⟩, hb2⟩
  rw [HEX.out] at hTx hgx hlx ⊢
  obtain ⟨ax', capx', rfl⟩ := hTx.rd.shape
  have HTX2 := hide hTx
  have HB2 := hide hb2
  have hz2 := hb2.size
  clear hTx hgx hlx hbx hb2
  obtain ⟨W3, hW3⟩ : ∃ W3, (w2.alloc (.cells #[.slice ax' lnsx.length capx', .int .i64 3, .bool false] 28)).alloc (.cells #[.slice none 0 0, .slice none 0 0, .slice none 0 0, .slice none 0 0] 43) = W3 := ⟨_, rfl⟩
  have hz3 : W3.heap.size = w2.heap.size + 2 := by rw [← hW3]; simp
  have hb3 : Below w2.heap.size w2 W3 := by rw [← hW3]; exact ((Below.refl _ _).alloc (Nat.le_refl _) _).alloc (by simp) _
  have HB3 := hide hb3
  have HBK3 : Hid (BookIs W3 (w2.heap.size + 1) w.heap.size (.slice none 0 0) []) := by
    have := BookIs.new (w := w2.alloc (.cells #[.slice ax' lnsx.length capx', .int .i64 3, .bool false] 28)) (B := w.heap.size) (by simp; omega)
    rw [hW3] at this
    unfold Hid
    simpa using this
  have HCF3 : Hid (Firm (w2.heap.size + 1) (.slice none 0 0) W3 (fun w' => Coll w' bx bmx 3 false lnsx)) :=
    Firm.coll HCX.out (by omega) (fun g _ hl => (hb3.block g (by omega)).trans (HB2.out.block g hl)) (.inr (by omega)) (fun g hg => by cases hg)
  have HTF3 : Hid (Firm (w2.heap.size + 1) (.slice none 0 0) W3 (fun w' => TableRd w' (.slice ax' lnsx.length capx') lnsx)) :=
    Firm.table HTX2.out (by omega) (fun g _ hl => hb3.block g hl) (.inr (by omega)) (fun g hg => by cases hg)
  have k0 : W3.cell? ⟨w2.heap.size, 0, none⟩ = some (.slice ax' lnsx.length capx') := by rw [← hW3, cell_old (by simp), cell_new rfl]; rfl
  have k1 : W3.cell? ⟨w2.heap.size, 1, none⟩ = some (.int .i64 3) := by rw [← hW3, cell_old (by simp), cell_new rfl]; rfl
  have k2 : W3.cell? ⟨w2.heap.size, 2, none⟩ = some (.bool false) := by rw [← hW3, cell_old (by simp), cell_new rfl]; rfl
  have HKF3 : Hid (Firm (w2.heap.size + 1) (.slice none 0 0) W3 (fun w' => w'.cell? ⟨w2.heap.size, 0, none⟩ = some (.slice ax' lnsx.length capx') ∧ w'.cell? ⟨w2.heap.size, 1, none⟩ = some (.int .i64 3) ∧ w'.cell? ⟨w2.heap.size, 2, none⟩ = some (.bool false))) := by
    intro w' vb' t
    have hk := t.block w2.heap.size (by omega) (by omega) (by simp [Value.ownBlock])
    have hb : ∀ o, w'.cell? ⟨w2.heap.size, o, none⟩ = W3.cell? ⟨w2.heap.size, o, none⟩ := fun o => World.cell?_of_block hk
    rw [hb, hb, hb]
    exact ⟨k0, k1, k2⟩
  clear hb3
  go_wp2_with fail
  refine (bookNormal_any lnsx bx bmx (w2.heap.size + 1) w.heap.size 3 3 false false (.slice none 0 0) _ [] ⟨#[195, 161]⟩ W3 HCF3.out.here HTF3.out.here (newTable_ends HEX.out) HBK3.out (by simp)).mono ?_
  rintro e w4 ⟨rfl, vb4, rows4, hbk4, hln4, htu4⟩
  have HBK4 := hide hbk4
  have HCF4 := hide (HCF3.out.next htu4)
  have HTF4 := hide (HTF3.out.next htu4)
  have HKF4 := hide (HKF3.out.next htu4)
  have HB4 : Hid (Below w.heap.size w w4) := (HB1.out.trans ((HB2.out.mono hz1).trans (HB3.out.mono (by omega)))).trans (htu4.below (by omega) (by omega) (fun g hg => by cases hg))
  have hz4 := htu4.size
  simp only [List.length_nil, Nat.zero_add] at hln4
  clear hbk4 htu4 k0 k1 k2
  go_wp2_with fail
  refine (opens_any new_said s 3 false _ hs).mono ?_
  rintro e w5 ⟨⟨c, vl, rfl, hc, hT5, _, _, _, hK5⟩, hb5⟩
  obtain ⟨al, capl, rfl⟩ := hT5.rd.shape
  have HT5 := hide hT5
  have HK5 := hide hK5
  have HB5 := hide hb5
  have HCF5 := hide (HCF4.out.below hb5)
  have HTF5 := hide (HTF4.out.below hb5)
  have HKF5 := hide (HKF4.out.below hb5)
  have HBK5 := hide (HBK4.out.stay hb5)
  have hz5 := hb5.size
  have hbb4 := HBK4.out.lt
  obtain ⟨m, hm⟩ : ∃ m, (Tm.newTable s.data.toList 3).1.length = m := ⟨_, rfl⟩
  have HM := hide hm
  rw [hm]
  obtain ⟨W6, hW6⟩ : ∃ W6, w5.alloc (.cells #[.slice al m capl, .int .i64 3, .bool false] 28) = W6 := ⟨_, rfl⟩
  have hz6 : W6.heap.size = w5.heap.size + 1 := by rw [← hW6]; simp
  have hb6 : Below w5.heap.size w5 W6 := by rw [← hW6]; exact (Below.refl _ _).alloc (Nat.le_refl _) _
  have HB6 : Hid (Below w.heap.size w W6) := HB4.out.trans ((hb5.mono (by omega)).trans (hb6.mono (by omega)))
  have HCF6 := hide (HCF5.out.below hb6)
  have HTF6 := hide (HTF5.out.below hb6)
  have HKF6 := hide (HKF5.out.below hb6)
  have HBK6 := hide (HBK5.out.stay hb6)
  have HKG6 : Hid (Firm (w2.heap.size + 1) vb4 W6 (fun w' => w'.cell? ⟨w5.heap.size, 0, none⟩ = some (.slice al m capl) ∧ w'.cell? ⟨w5.heap.size, 1, none⟩ = some (.int .i64 3) ∧ w'.cell? ⟨w5.heap.size, 2, none⟩ = some (.bool false))) := by
    intro w' vb' t
    have hk := t.block w5.heap.size (by omega) (by omega) (fun h => by have := (HBK5.out.row.lt _ h).2; omega)
    have hb : ∀ o, w'.cell? ⟨w5.heap.size, o, none⟩ = W6.cell? ⟨w5.heap.size, o, none⟩ := fun o => World.cell?_of_block hk
    rw [hb, hb, hb, ← hW6, cell_new rfl]
    refine ⟨rfl, ?_, ?_⟩ <;> (rw [cell_new rfl]; rfl)
  have HB56 := hide hb6
  have HW6 := hide hW6
  clear hW6
  clear hT5 hK5 hb5 hb6 hm hc
  cases c with
  | none =>
    go_wp2_with fail
    rw [HW6.out]
    go_loopw [14] (fun i wr => i = .int .i64 0 ∧ wr = W6) (fun _ _ => 0)
    case atStart => exact ⟨rfl, rfl⟩
    case round =>
      obtain ⟨rfl, rfl⟩ := hrel
      go_wp2_with fail
      all_goals
        refine (whole_any _ _ _ _ _ HBK6.out (by omega)).mono ?_
        rintro e w7 ⟨rfl, q, rfl⟩
        go_wp2
        go_ret
        exact ⟨rfl, below_drewN HB6.out⟩
  | some ac =>
    obtain ⟨bc, bm, lns, rfl, hC5, hE5⟩ := HK5.out _ rfl
    have HE5 := hide hE5
    have hml : m = lns.length := by rw [← HM.out, hE5]
    subst hml
    have hT : TableOwn w5 w4.heap.size (.slice al lns.length capl) lns := by have := HT5.out; rw [hE5] at this; exact this
    have HG6 : Hid (Firm (w2.heap.size + 1) vb4 W6 (fun w' => Pair w' bc bm w5.heap.size (.slice al lns.length capl) 3 false lns)) :=
      Firm.pair (Firm.coll hC5 (by omega) (fun g _ hl => HB56.out.block g hl) (.inl (by omega)) (fun g hg => .inl (HBK4.out.row.lt g hg).2))
        (Firm.table hT (by omega) (fun g _ hl => HB56.out.block g hl) (.inl (by omega)) (fun g hg => .inl (HBK4.out.row.lt g hg).2)) HKG6.out
    have HF6 : Hid (Firm (w2.heap.size + 1) vb4 W6 (fun w' => Pair w' bx bmx w2.heap.size (.slice ax' lnsx.length capx') 3 false lnsx)) := Firm.pair HCF6.out HTF6.out HKF6.out
    have HENX := hide (newTable_ends HEX.out)
    have HENC := hide (newTable_ends HE5.out)
    clear hC5 hE5 hT
    obtain ⟨n, hn⟩ : ∃ n, texts.length = n := ⟨_, rfl⟩
    rw [hn] at hl HTXQ
    have HN := hide hn
    rw [hn]
    clear hn
    go_wp2_with fail
    rw [HW6.out]
    go_loopw [14] (fun i wr => ∃ (k : Nat) (vb : Value) (rows : List Value), k ≤ n ∧ i = .int .i64 k ∧ BookIs wr (w2.heap.size + 1) w.heap.size vb rows ∧ rows.length ≤ 4 + 8 * k ∧ Firm (w2.heap.size + 1) vb wr (fun w' => Pair w' bc bm w5.heap.size (.slice al lns.length capl) 3 false lns) ∧ Firm (w2.heap.size + 1) vb wr (fun w' => Pair w' bx bmx w2.heap.size (.slice ax' lnsx.length capx') 3 false lnsx) ∧ Below w.heap.size w wr) (fun i _ => n - (intOf i).toNat)
    case atStart => exact ⟨0, vb4, rows4, Nat.zero_le _, rfl, HBK6.out, by omega, HG6.out, HF6.out, HB6.out⟩
    case round =>
      obtain ⟨k, vb, rows, hk, rfl, hbk, hrl, hg, hf, hb⟩ := hrel
      have HBK := hide hbk
      have HG := hide hg
      have HF := hide hf
      have HB := hide hb
      have hzr := hb.size
      have hbbr := hbk.lt
      have hpg := hg.here.box
      have hpf := hf.here.box
      clear hbk hg hf hb
      by_cases hlt : k < n
      · have HTX := hide (HTXQ.out (by omega))
        obtain ⟨gt, offt, capt', het, hgt, hct⟩ := (HTX.out.below HB.out HTX.out.2.1).form (by rw [strs_length, HN.out]; omega)
        cases het
        have ct := hct k _ (strs_get (by rw [HN.out]; exact hlt))
        obtain ⟨tx, htx⟩ : ∃ tx, texts[k]'(by rw [HN.out]; exact hlt) = tx := ⟨_, rfl⟩
        rw [htx] at ct
        obtain ⟨b0, b1, b2⟩ := hpg
        have i1 : (0 : Int) ≤ (k : Int) := by omega
        have i2 : (k : Int) < (n : Int) := by omega
        have hgtw : gt < w.heap.size := HTX.out.2.1 gt rfl
        have HTXT := hide htx
        clear hct hpf htx
        go_upto_region 13 with fail
        go_cut [13] from 46 to 63 (fun t wx => t = .bool true ∧ ∃ vb' rows', BookIs wx (w2.heap.size + 1) w.heap.size vb' rows' ∧ rows'.length ≤ rows.length + 4 ∧ Turns (w2.heap.size + 1) vb vb' wr wx)
        case first =>
          go_region_with (go_at_call 12; refine (bookNormal_later tx HG.out HENC.out HBK.out (by omega) (Below.refl _ _).drew).mono ?_; rintro e w7 ⟨rfl, hans⟩)
          all_goals (go_wp2_with fail; go_meet; exact ⟨rfl, hans⟩)
        case rest =>
          obtain ⟨rfl, vb1, rows1, hbk1, hrl1, htu1⟩ := hcut
          have HBK1 := hide hbk1
          have HTU1 := hide htu1
          clear hbk1 htu1 b0 b1 b2 ct
          go_wp2_with fail
          refine (whole_any _ _ _ _ _ HBK1.out (by omega)).mono ?_
          rintro e w7 ⟨rfl, q, rfl⟩
          obtain ⟨W7, hW7⟩ : ∃ W7, wc.drewN q = W7 := ⟨_, rfl⟩
          have hb7 : Below wc.heap.size wc W7 := by rw [← hW7]; exact below_drewN (Below.refl _ _)
          have HBK7 := hide (HBK1.out.stay hb7)
          have HTU7 : Hid (Turns (w2.heap.size + 1) vb vb1 wr W7) := HTU1.out.trans (Turns.of hb7)
          have HB7 : Hid (Below w.heap.size w W7) := HB.out.trans (HTU7.out.below (by omega) (by omega) (fun g hg => (HBK.out.row.lt g hg).1))
          have HF7 := hide (HF.out.next HTU7.out)
          have HG7 := hide (HG.out.next HTU7.out)
          have ct : W7.cell? ⟨gt, offt + k, none⟩ = some (.string tx) := by
            obtain ⟨gt', offt', capt', het, _, hct⟩ := (HTX.out.below HB7.out HTX.out.2.1).form (by rw [strs_length, HN.out]; omega)
            cases het
            rw [hct k _ (strs_get (by rw [HN.out]; exact hlt)), HTXT.out]
          obtain ⟨b0, b1, b2⟩ := HF7.out.here.box
          rw [hW7]
          clear hb7 hW7
          go_upto_region 15 with fail
          go_cut [16] from 46 to 73 (fun t wx => t = .bool true ∧ ∃ vb' rows', BookIs wx (w2.heap.size + 1) w.heap.size vb' rows' ∧ rows'.length ≤ rows.length + 8 ∧ Turns (w2.heap.size + 1) vb vb' wr wx)
          case first =>
            go_region_with (go_at_call 12; refine (bookNormal_later tx HF7.out HENX.out HBK7.out (by omega) (Below.refl _ _).drew).mono ?_; rintro e w7 ⟨rfl, hans⟩)
            all_goals
              go_wp2_with fail
              go_meet
              obtain ⟨vb2, rows2, h1, h2, h3⟩ := hans
              exact ⟨rfl, vb2, rows2, h1, by omega, HTU7.out.trans h3⟩
          case rest =>
            obtain ⟨rfl, vb2, rows2, hbk2, hrl2, htu2⟩ := hcut
            have HBK2 := hide hbk2
            have HB2' : Hid (Below w.heap.size w wc) := HB.out.trans (htu2.below (by omega) (by omega) (fun g hg => (HBK.out.row.lt g hg).1))
            have HF2 := hide (HF.out.next htu2)
            have HG2 := hide (HG.out.next htu2)
            clear hbk2 htu2 b0 b1 b2 ct
            go_wp2
            go_roundw
            case rel => exact ⟨k + 1, vb2, rows2, by omega, by go_num, HBK2.out, by omega, HG2.out, HF2.out, HB2'.out⟩
            case measure => simp [intOf]; omega
      · have HFIN := HBK.out
        go_wp2_with fail
        all_goals
          refine (whole_any _ _ _ _ _ HBK.out (by omega)).mono ?_
          rintro e w7 ⟨rfl, q, rfl⟩
          go_wp2
          go_ret
          exact ⟨rfl, below_drewN HB.out⟩
end Go.Proofs.YtmnjjjhmnhfapaaDoor
