import Derived.Test.YthaecjhnlpbfnaaDoorMRefNew
import Derived.Test.YthaecjhnlpbfnaaDoorMCodeBuild
namespace Go.Proofs.YthaecjhnlpbfnaaDoor
open Go.RowKit

/-- What is said of a collator (its text, its options, from which block on it lies): it stays where its blocks do. -/
def Stays (K : ByteArray → Int → Bool → Nat → Option Addr → World → Prop) : Prop := ∀ s st sh B B' c (w w' : World), K s st sh B c w → B' ≤ B → w.heap.size ≤ w'.heap.size → (∀ g, B ≤ g → g < w.heap.size → w'.heap[g]? = w.heap[g]?) → K s st sh B' c w'
/-- What the program's New is to answer: the line and the error that the document gives; a collator just where there is no error. -/
def NewSaid (K : ByteArray → Int → Bool → Nat → Option Addr → World → Prop) : Prop := Stays K ∧ ∀ (s : ByteArray) (st : Int) (sh : Bool) (w : World), s.size ≤ maxLen →
  Calls Tryd.prog 22 #[.string s, .agg #[.int .i64 st, .bool sh]] w fun e w' =>
    ∃ c, e = .returned (.tuple #[.pointer c, .int .i64 (Tm.newTable s.data.toList st).2.1, .int .i64 (Tm.newTable s.data.toList st).2.2]) ∧ (c = none ↔ (Tm.newTable s.data.toList st).2.2 ≠ 0) ∧ K s st sh w.heap.size c w' ∧ Below w.heap.size w w'

/-- What opens answers. -/
def opensAns (K : ByteArray → Int → Bool → Nat → Option Addr → World → Prop) (s : ByteArray) (r : List Tm.Ln × Int × Int) (st : Int) (sh : Bool) (B : Nat) (e : Ending) (w' : World) : Prop :=
  ∃ c vl, e = .returned (.tuple #[.pointer c, .agg #[vl, .int .i64 st, .bool sh], .bool true]) ∧ (c = none ↔ r.2.2 ≠ 0) ∧ TableOwn w' B vl r.1 ∧ (∀ o ∈ r.1, Tm.Good o) ∧ r.1.length ≤ 8193 ∧ (∀ g, vl.ownBlock = some g → B ≤ g) ∧ K s st sh B c w'

set_option maxRecDepth 100000 in
set_option maxHeartbeats 2000000 in
theorem opens_any {K : ByteArray → Int → Bool → Nat → Option Addr → World → Prop} (hNew : NewSaid K) (s : ByteArray) (st : Int) (sh : Bool) (w : World) (hs : s.size ≤ maxLen) :
    Calls Tryd.prog 9 #[.string s, .agg #[.int .i64 st, .bool sh]] w fun e w' => opensAns K s (Tm.newTable s.data.toList st) st sh w.heap.size e w' ∧ Below w.heap.size w w' := by
  go_enter Tryd.func9, Tryd.ntmps9
  go_wp2_with fail
  refine (hNew.2 s st sh _ hs).mono ?_
  rintro e w1 ⟨c, rfl, hc, hK, hb1⟩
  have HK := hide hK
  clear hK
  simp only [World.size_alloc] at HK
  have hcell := (bcell hb1).1
  have hfroz := (bcell hb1).2
  have hz1 := hb1.size
  simp at hz1
  have o0 : w1.cell? ⟨w.heap.size, 0, none⟩ = some (.int .i64 st) := by rw [hcell _ _ (by simp; omega), cell_old (by simp), cell_new rfl]; rfl
  have o1 : w1.cell? ⟨w.heap.size, 1, none⟩ = some (.bool sh) := by rw [hcell _ _ (by simp; omega), cell_old (by simp), cell_new rfl]; rfl
  have HB1 : Hid (Below w.heap.size w w1) := (((Below.refl _ _).alloc (Nat.le_refl _) _).alloc (by simp) _).trans (hb1.mono (by simp; omega))
  have y0 : w1.cell? ⟨w.heap.size + 1, 0, none⟩ = some (.slice none 0 0) := by rw [hcell _ _ (by simp), cell_new (by simp)]; rfl
  have y1 : w1.cell? ⟨w.heap.size + 1, 1, none⟩ = some (.int .i64 0) := by rw [hcell _ _ (by simp), cell_new (by simp)]; rfl
  have y2 : w1.cell? ⟨w.heap.size + 1, 2, none⟩ = some (.bool false) := by rw [hcell _ _ (by simp), cell_new (by simp)]; rfl
  have yf : ∀ o, w1.frozen? ⟨w.heap.size + 1, o, none⟩ = false := fun o => by rw [hfroz _ _ (by simp), frozen_new (by simp)]
  clear hcell hfroz hb1
  go_wp2_with fail
  refine (RefNew_any s st sh _ hs).mono ?_
  rintro e w2 ⟨⟨vl, rfl, htab, hgood, hlen, hbl⟩, hb2⟩
  have hcell := (bcell hb2).1
  have hfroz := (bcell hb2).2
  have hz2 := hb2.size
  rw [← hcell _ _ (by omega)] at y0 y1 y2
  have yf2 : ∀ o, w2.frozen? ⟨w.heap.size + 1, o, none⟩ = false := fun o => by rw [hfroz _ _ (by omega)]; exact yf o
  have HB2 : Hid (Below w.heap.size w w2) := HB1.out.trans (hb2.mono (by omega))
  have gz : w.heap.size + 1 < w2.heap.size := by omega
  have HK2 : Hid (K s st sh (w.heap.size + 2) c w2) := hNew.1 _ _ _ _ _ _ _ _ HK.out (by omega) hb2.size (fun g _ hl => hb2.block g hl)
  obtain ⟨al, capl, rfl⟩ := htab.rd.shape
  have ANS : Hid (∀ w', Up (w.heap.size + 1) w2 w' → opensAns K s (Tm.newTable s.data.toList st) st sh w.heap.size (.returned (.tuple #[.pointer c, .agg #[.slice al (Tm.newTable s.data.toList st).1.length capl, .int .i64 st, .bool sh], .bool true])) w') := by
    intro w' hu
    refine ⟨c, _, rfl, hc, fun w'' hs hk => htab w'' (Nat.le_trans hu.size hs) (fun g hg hl => (hk g (by omega) (Nat.lt_of_lt_of_le hl hu.size)).trans (hu.block g (by omega) hl)), hgood, hlen, fun g hg => by have := hbl g hg; omega, ?_⟩
    exact hNew.1 _ _ _ _ _ _ _ _ HK2.out (by omega) hu.size (fun g hg hl => hu.block g (by omega) hl)
  have hcn : (c = none ∧ ((Tm.newTable s.data.toList st).2.2 != 0) = true) ∨ (∃ a, c = some a ∧ ((Tm.newTable s.data.toList st).2.2 != 0) = false) := by
    cases c with
    | none => exact .inl ⟨rfl, by rw [bne_iff_ne]; exact hc.1 rfl⟩
    | some a =>
      refine .inr ⟨a, rfl, ?_⟩
      cases hq : ((Tm.newTable s.data.toList st).2.2 != 0)
      · rfl
      · rw [bne_iff_ne] at hq
        cases hc.2 hq
  generalize (Tm.newTable s.data.toList st).2.1 = n1 at *
  generalize he1 : (Tm.newTable s.data.toList st).2.2 = e1 at *
  clear hcell hfroz hb2 o0 o1 yf hc htab hgood he1
  rcases hcn with ⟨rfl, hne⟩ | ⟨a, rfl, hne⟩
  all_goals
    go_wp2
    go_region
    go_wp2
    refine bodyPost_ret (v := .tuple #[.pointer _, .agg #[.slice al (Tm.newTable s.data.toList st).1.length capl, .int .i64 st, .bool sh], .bool true]) (by simp [results, Tryd.results9, go_sem, y0, y1, y2, gz]) rfl ⟨ANS.out _ ?_, ?_⟩
    · (repeat (first | with_reducible exact Up.refl _ _ | with_reducible refine Up.drew ?_ | with_reducible refine Up.alloc ?_ _ | with_reducible refine Up.setCell ?_ (by simp) _))
    · (repeat (first | with_reducible exact HB2.out | with_reducible refine Below.drew ?_ | with_reducible refine Below.setCell ?_ (by simp) _ | with_reducible refine Below.alloc ?_ (by simp [World.setCell]; omega) _))
end Go.Proofs.YthaecjhnlpbfnaaDoor
namespace Go.Proofs.YthaecjhnlpbfnaaDoor
open Go.RowKit

theorem newTable_err {s : List UInt8} {st : Int} (h1 : ¬ (st < 1 ∨ 4 < st)) (h2 : ¬ 8192 < s.length) : (Tm.newTable s st).2 = tableErr s := by
  unfold Tm.newTable tableErr
  rw [if_neg h1, if_neg h2]
  split <;> rename_i h <;> rw [h]

theorem together_zero {lns : List Tm.Ln} (h : (Tm.together lns).2 = 0) : (Tm.together lns).1 = 0 := by
  unfold Tm.together at h ⊢
  split <;> rename_i h1 <;> rw [h1] at h <;> simp only at h ⊢
  · exact absurd h (by decide)
  · split <;> rename_i h2 <;> rw [h2] at h <;> simp only at h ⊢
    · exact absurd h (by decide)
    · split <;> rename_i h3 <;> rw [h3] at h <;> simp only at h ⊢
      exact absurd h (by decide)
/-- What is said of a collator of the program's: where it is one, it lies whole from B on, and holds what the table says. -/
def CollSaid (s : ByteArray) (st : Int) (sh : Bool) (B : Nat) (c : Option Addr) (w : World) : Prop :=
  ∀ a, c = some a → ∃ bc bm lns, a = ⟨bc, 0, none⟩ ∧ CollOwn w B bc bm st sh lns ∧ Tm.newTable s.data.toList st = (lns, 0, 0)
theorem CollSaid.none {s : ByteArray} {st : Int} {sh : Bool} {B : Nat} {w : World} : CollSaid s st sh B none w := fun a h => by cases h
theorem collSaid_stays : Stays CollSaid := fun s st sh B B' c w w' h hB hs hk a ha => by
  obtain ⟨bc, bm, lns, h1, h2, h3⟩ := h a ha
  exact ⟨bc, bm, lns, h1, h2.stays hB hs hk, h3⟩
theorem newTable_read {s : List UInt8} {st : Int} {lns : List Tm.Ln} (h1 : ¬ (st < 1 ∨ 4 < st)) (h2 : ¬ 8192 < s.length) (h : Tm.readLines [] 1 (Tm.split 10 s) = (lns, none)) (h0 : (tableErr s).2 = 0) : Tm.newTable s st = (lns, 0, 0) := by
  have e : (tableErr s).1 = 0 := by
    unfold tableErr at h0 ⊢
    rw [h] at h0 ⊢
    simp only at h0 ⊢
    exact together_zero h0
  unfold Tm.newTable
  unfold tableErr at e h0
  rw [if_neg h1, if_neg h2]
  rw [h] at e h0 ⊢
  simp only at e h0 ⊢
  rw [e, h0]
theorem BuiltAns.said {B : Nat} {s : ByteArray} {st : Int} {sh : Bool} {c : Option Addr} {w' : World} (h : BuiltAns B s st sh c w') (h1 : ¬ (st < 1 ∨ 4 < st)) (h2 : ¬ 8192 < s.data.toList.length) : CollSaid s st sh B c w' := by
  intro a ha
  by_cases h0 : (tableErr s.data.toList).2 = 0
  · obtain ⟨bc, bm, lns, hc, hown, hr⟩ := h.2 h0
    rw [hc] at ha
    injection ha with ha
    exact ⟨bc, bm, lns, ha.symm, hown, newTable_read h1 h2 hr h0⟩
  · rw [h.1 h0] at ha; cases ha

set_option maxRecDepth 100000 in
set_option maxHeartbeats 1000000 in
theorem new_said : NewSaid CollSaid := by
  refine ⟨collSaid_stays, ?_⟩
  intro s st sh w hs
  have hb0 : Below w.heap.size w (w.alloc (.cells #[.int .i64 st, .bool sh] 26)) := (Below.refl _ _).alloc (Nat.le_refl _) _
  have HB0 := hide hb0
  clear hb0
  by_cases h1 : st < 1 ∨ 4 < st
  · have HT := hide (Tm.newTable_option (t := s.data.toList) h1)
    by_cases h0 : st < 1
    · have hd : decide (st < 1) = true := by simpa using h0
      clear h1
      go_enter Tryd.func22, Tryd.ntmps22
      go_wp2
      go_ret3
      refine ⟨none, ?_, ?_, CollSaid.none, HB0.out⟩
      · rw [HT.out]; rfl
      · rw [HT.out]; simp
    · have hd : decide (st < 1) = false := by simpa using h0
      have hd' : decide (4 < st) = true := by simp; omega
      clear h1
      go_enter Tryd.func22, Tryd.ntmps22
      go_wp2
      go_ret3
      refine ⟨none, ?_, ?_, CollSaid.none, HB0.out⟩
      · rw [HT.out]; rfl
      · rw [HT.out]; simp
  · have hd : decide (st < 1) = false := by simp; omega
    have hd' : decide (4 < st) = false := by simp; omega
    by_cases h2 : 8192 < s.data.toList.length
    · have HT := hide (Tm.newTable_long (t := s.data.toList) h1 h2)
      have hl : decide (8192 < (s.size : Int)) = true := by rw [len_bytes] at h2; simp; omega
      clear h1 h2
      go_enter Tryd.func22, Tryd.ntmps22
      go_wp2
      go_ret3
      refine ⟨none, ?_, ?_, CollSaid.none, HB0.out⟩
      · rw [HT.out]; rfl
      · rw [HT.out]; simp
    · have HT := hide (newTable_err h1 h2)
      have HBA : Hid (∀ {B : Nat} {c : Option Addr} {w' : World}, BuiltAns B s st sh c w' → CollSaid s st sh B c w') := fun h => h.said h1 h2
      have hl : decide (8192 < (s.size : Int)) = false := by rw [len_bytes] at h2; simp; omega
      have hsz : s.size ≤ 8192 := by rw [len_bytes] at h2; omega
      clear h1 h2
      go_enter Tryd.func22, Tryd.ntmps22
      go_wp2_with fail
      refine (build_any s st sh _ hsz).mono ?_
      rintro e w1 ⟨c, rfl, hans, hb1⟩
      have hc : c = none ↔ (tableErr s.data.toList).2 ≠ 0 := by
        constructor
        · intro h h0
          obtain ⟨bc, bm, lns, hx, _⟩ := hans.2 h0
          rw [hx] at h; cases h
        · exact hans.1
      have HC := hide hc
      have HS : Hid (CollSaid s st sh w.heap.size c w1) := collSaid_stays _ _ _ _ _ _ _ _ (HBA.out hans) (by simp) (Nat.le_refl _) (fun _ _ _ => rfl)
      have HB1 : Hid (Below w.heap.size w w1) := HB0.out.trans (hb1.mono (by simp))
      clear hc hb1 hans
      generalize tableErr s.data.toList = p at *
      obtain ⟨n, q⟩ := p
      simp only at HC
      go_wp2
      go_ret3
      refine ⟨c, ?_, ?_, HS.out, HB1.out⟩
      · rw [HT.out]; rfl
      · rw [HT.out]; exact HC.out
end Go.Proofs.YthaecjhnlpbfnaaDoor
