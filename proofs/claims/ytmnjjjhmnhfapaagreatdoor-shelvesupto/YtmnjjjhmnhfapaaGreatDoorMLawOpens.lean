import Derived.Test.YtmnjjjhmnhfapaaGreatDoorMRefNew
namespace Go.Proofs.YtmnjjjhmnhfapaaGreatDoor
open Go.RowKit
def Stays (K : ByteArray → Int → Bool → Nat → Option Addr → World → Prop) : Prop := ∀ s st sh B B' c (w w' : World), K s st sh B c w → B' ≤ B → w.heap.size ≤ w'.heap.size → (∀ g, B ≤ g → g < w.heap.size → w'.heap[g]? = w.heap[g]?) → K s st sh B' c w'
def NewSaid (K : ByteArray → Int → Bool → Nat → Option Addr → World → Prop) : Prop := Stays K ∧ ∀ (s : ByteArray) (st : Int) (sh : Bool) (w : World), s.size ≤ maxLen →
 Calls Tryz.prog 34 #[.string s, .agg #[.int .i64 st, .bool sh]] w fun e w' =>
  ∃ c, e = .returned (.tuple #[.pointer c, .int .i64 (Tm.newTable s.data.toList st).2.1, .int .i64 (Tm.newTable s.data.toList st).2.2]) ∧ (c = none ↔ (Tm.newTable s.data.toList st).2.2 ≠ 0) ∧ K s st sh w.heap.size c w' ∧ Below w.heap.size w w'
def opensAns (K : ByteArray → Int → Bool → Nat → Option Addr → World → Prop) (s : ByteArray) (r : List Tm.Ln × Int × Int) (st : Int) (sh : Bool) (B : Nat) (e : Ending) (w' : World) : Prop :=
 ∃ c vl, e = .returned (.tuple #[.pointer c, .agg #[vl, .int .i64 st, .bool sh], .bool true]) ∧ (c = none ↔ r.2.2 ≠ 0) ∧ TableOwn w' B vl r.1 ∧ (∀ o ∈ r.1, Tm.Good o) ∧ r.1.length ≤ 8193 ∧ (∀ g, vl.ownBlock = some g → B ≤ g) ∧ K s st sh B c w'
set_option maxRecDepth 100000 in
set_option maxHeartbeats 2000000 in
theorem opens_any {K : ByteArray → Int → Bool → Nat → Option Addr → World → Prop} (hNew : NewSaid K) (s : ByteArray) (st : Int) (sh : Bool) (w : World) (hs : s.size ≤ maxLen) :
  Calls Tryz.prog 15 #[.string s, .agg #[.int .i64 st, .bool sh]] w fun e w' => opensAns K s (Tm.newTable s.data.toList st) st sh w.heap.size e w' ∧ Below w.heap.size w w' := by
 go_enter Tryz.func15, Tryz.ntmps15
 go_wp2_with fail
 refine (hNew.2 s st sh _ hs).mono ?_
 rintro e w1 ⟨c, rfl, hc, hK, hb1⟩
 have HK := hide hK
 clear hK
 simp only [World.size_alloc] at HK
 have hcell := (bcell hb1).1
 have hfroz := (bcell hb1).2
 have hz1 := hb1.size
 simp at hz1
 have o0 : w1.cell? ⟨w.heap.size, 0, none⟩ = some (.int .i64 st) := by rw [hcell _ _ (by simp; omega), cell_old (by simp), cell_new rfl]; rfl
 have o1 : w1.cell? ⟨w.heap.size, 1, none⟩ = some (.bool sh) := by rw [hcell _ _ (by simp; omega), cell_old (by simp), cell_new rfl]; rfl
 have HB1 : Hid (Below w.heap.size w w1) := (((Below.refl _ _).alloc (Nat.le_refl _) _).alloc (by simp) _).trans (hb1.mono (by simp; omega))
 have y0 : w1.cell? ⟨w.heap.size + 1, 0, none⟩ = some (.slice none 0 0) := by rw [hcell _ _ (by simp), cell_new (by simp)]; rfl
 have y1 : w1.cell? ⟨w.heap.size + 1, 1, none⟩ = some (.int .i64 0) := by rw [hcell _ _ (by simp), cell_new (by simp)]; rfl
 have y2 : w1.cell? ⟨w.heap.size + 1, 2, none⟩ = some (.bool false) := by rw [hcell _ _ (by simp), cell_new (by simp)]; rfl
 have yf : ∀ o, w1.frozen? ⟨w.heap.size + 1, o, none⟩ = false := fun o => by rw [hfroz _ _ (by simp), frozen_new (by simp)]
 clear hcell hfroz hb1
 go_wp2_with fail
 refine (RefNew_any s st sh _ hs).mono ?_
 rintro e w2 ⟨⟨vl, rfl, htab, hgood, hlen, hbl⟩, hb2⟩
 have hcell := (bcell hb2).1
 have hfroz := (bcell hb2).2
 have hz2 := hb2.size
 rw [← hcell _ _ (by omega)] at y0 y1 y2
 have yf2 : ∀ o, w2.frozen? ⟨w.heap.size + 1, o, none⟩ = false := fun o => by rw [hfroz _ _ (by omega)]; exact yf o
 have HB2 : Hid (Below w.heap.size w w2) := HB1.out.trans (hb2.mono (by omega))
 have gz : w.heap.size + 1 < w2.heap.size := by omega
 have HK2 : Hid (K s st sh (w.heap.size + 2) c w2) := hNew.1 _ _ _ _ _ _ _ _ HK.out (by omega) hb2.size (fun g _ hl => hb2.block g hl)
 obtain ⟨al, capl, rfl⟩ := htab.rd.shape
 have ANS : Hid (∀ w', Up (w.heap.size + 1) w2 w' → opensAns K s (Tm.newTable s.data.toList st) st sh w.heap.size (.returned (.tuple #[.pointer c, .agg #[.slice al (Tm.newTable s.data.toList st).1.length capl, .int .i64 st, .bool sh], .bool true])) w') := by
  intro w' hu
  refine ⟨c, _, rfl, hc, fun w'' hs hk => htab w'' (Nat.le_trans hu.size hs) (fun g hg hl => (hk g (by omega) (Nat.lt_of_lt_of_le hl hu.size)).trans (hu.block g (by omega) hl)), hgood, hlen, fun g hg => by have := hbl g hg; omega, ?_⟩
  exact hNew.1 _ _ _ _ _ _ _ _ HK2.out (by omega) hu.size (fun g hg hl => hu.block g (by omega) hl)
 have hcn : (c = none ∧ ((Tm.newTable s.data.toList st).2.2 != 0) = true) ∨ (∃ a, c = some a ∧ ((Tm.newTable s.data.toList st).2.2 != 0) = false) := by
  cases c with
  | none => exact .inl ⟨rfl, by rw [bne_iff_ne]; exact hc.1 rfl⟩
  | some a =>
   refine .inr ⟨a, rfl, ?_⟩
   cases hq : ((Tm.newTable s.data.toList st).2.2 != 0)
   ·rfl
   ·rw [bne_iff_ne] at hq
    cases hc.2 hq
 generalize (Tm.newTable s.data.toList st).2.1 = n1 at *
 generalize he1 : (Tm.newTable s.data.toList st).2.2 = e1 at *
 clear hcell hfroz hb2 o0 o1 yf hc htab hgood he1
 rcases hcn with ⟨rfl, hne⟩ | ⟨a, rfl, hne⟩
 all_goals
  go_wp2
  go_region
  go_wp2
  refine bodyPost_ret (v := .tuple #[.pointer _, .agg #[.slice al (Tm.newTable s.data.toList st).1.length capl, .int .i64 st, .bool sh], .bool true]) (by simp [results, Tryz.results15, go_sem, y0, y1, y2, gz]) rfl ⟨ANS.out _ ?_, ?_⟩
  ·(repeat (first | with_reducible exact Up.refl _ _ | with_reducible refine Up.drew ?_ | with_reducible refine Up.alloc ?_ _ | with_reducible refine Up.setCell ?_ (by simp) _))
  ·(repeat (first | with_reducible exact HB2.out | with_reducible refine Below.drew ?_ | with_reducible refine Below.setCell ?_ (by simp) _ | with_reducible refine Below.alloc ?_ (by simp [World.setCell]; omega) _))
end Go.Proofs.YtmnjjjhmnhfapaaGreatDoor
