import Derived.Test.YthaecjhnlpbfnaaDoorMCodeKey
import Derived.Test.YthaecjhnlpbfnaaDoorMRefNew
namespace Go.Proofs.YthaecjhnlpbfnaaDoor
open Go.RowKit

/-- What a collator of a table that is one has. -/
structure TableOk (st : Int) (lns : List Tm.Ln) : Prop where
  ends : ∀ r, Tm.ends lns 4 r = true
  heavy : Tm.Heavy lns
  st : 1 ≤ st ∧ st ≤ 4
theorem TableOk.of {s : List UInt8} {st : Int} {lns : List Tm.Ln} (h : Tm.newTable s st = (lns, 0, 0)) (he : ∀ r, Tm.ends lns 4 r = true) : TableOk st lns := ⟨he, (Tm.newTable_heavy h).1, (Tm.newTable_heavy h).2⟩

theorem stands_short {lns : List Tm.Ln} (hf : ∀ o ∈ lns, Tm.Fit o) {st : Int} {sh : Bool} {s : ByteArray} (hs : s.size ≤ 64) : ∀ l ∈ stands lns st sh (normOf lns s), l.length ≤ 10000 := by
  have h1 := norm_short' hf hs
  have h2 := Tm.elements_length hf (normOf lns s)
  intro l hl
  rcases List.mem_append.1 hl with hl | hl
  · obtain ⟨k, _, rfl⟩ := List.mem_map.1 (List.mem_of_mem_take hl)
    have : (Tm.level sh (Tm.elements lns (normOf lns s)) k).length ≤ (Tm.elements lns (normOf lns s)).length := Tm.lev_length sh k _ _
    omega
  · rw [List.mem_singleton.1 hl]; omega
theorem stands_length {lns : List Tm.Ln} {st : Int} {sh : Bool} {n : List Int} (h : 1 ≤ st ∧ st ≤ 4) : (stands lns st sh n).length ≤ 5 := by
  unfold stands; rw [List.length_append, levels_length h]; simp; omega
theorem stands_small {lns : List Tm.Ln} (hf : ∀ o ∈ lns, Tm.Fit o) {st : Int} {sh : Bool} {s : ByteArray} : ∀ l ∈ stands lns st sh (normOf lns s), Tm.Small l := by
  intro l hl
  rcases List.mem_append.1 hl with hl | hl
  · exact (levels_weights hf (norm_range hf s) l hl).small
  · rw [List.mem_singleton.1 hl]
    intro x hx
    have := norm_range hf s x hx
    omega
theorem stands_ne {lns : List Tm.Ln} {st : Int} {sh : Bool} {n : List Int} : stands lns st sh n ≠ [] := by simp [stands]

/-- How two texts compare. -/
def cmpOf (lns : List Tm.Ln) (st : Int) (sh : Bool) (a b : ByteArray) : Int := Tm.cmpLL (stands lns st sh (normOf lns a)) (stands lns st sh (normOf lns b))
/-- The bytes of a text's key. -/
def keyBytes (lns : List Tm.Ln) (st : Int) (sh : Bool) (s : ByteArray) : List UInt8 := Tm.keyLL (stands lns st sh (normOf lns s))

set_option maxRecDepth 100000 in
set_option maxHeartbeats 2000000 in
theorem CodeCompare_any (lns : List Tm.Ln) (bc bm : Nat) (st : Int) (sh : Bool) (a b : ByteArray) (w : World) (hc : Coll w bc bm st sh lns) (hok : TableOk st lns) :
    Calls Tryd.prog 19 #[.pointer (some ⟨bc, 0, none⟩), .string a, .string b] w fun e w' => e = .returned (if a.size ≤ 64 ∧ b.size ≤ 64 then .tuple #[.int .i64 (cmpOf lns st sh a b), .int .i64 0] else .tuple #[.int .i64 0, .int .i64 7]) ∧ Below w.heap.size w w' := by
  have HC := hide hc
  have HOK := hide hok
  have HF := hide hc.fit
  clear hc hok
  by_cases ha : a.size ≤ 64
  · have hda : decide (64 < (a.size : Int)) = false := by simp <;> omega
    by_cases hb : b.size ≤ 64
    · have hdb : decide (64 < (b.size : Int)) = false := by simp <;> omega
      rw [if_pos ⟨ha, hb⟩]
      go_enter Tryd.func19, Tryd.ntmps19
      go_wp2_with fail
      refine (isLong_any a _).mono ?_
      rintro e w0 ⟨rfl, rfl⟩
      rw [hda]
      go_wp2_with fail
      refine (isLong_any b _).mono ?_
      rintro e w0 ⟨rfl, rfl⟩
      rw [hdb]
      go_wp2_with fail
      refine (standing_any lns bc bm st sh a _ HC.out HOK.out.ends HOK.out.heavy HOK.out.st ha).mono ?_
      rintro e w1 ⟨v1, rfl, hr1, hb1⟩
      have HR1 := hide hr1
      have HB1 := hide hb1
      have hz1 := hb1.size
      clear hr1 hb1
      go_wp2_with fail
      refine (standing_any lns bc bm st sh b _ (HC.out.below HB1.out) HOK.out.ends HOK.out.heavy HOK.out.st hb).mono ?_
      rintro e w2 ⟨v2, rfl, hr2, hb2⟩
      have HR2 := hide hr2
      have HR12 := hide (HR1.out.below hb2)
      have HB2 := hide (HB1.out.trans (hb2.mono hz1))
      clear hr2 hb2
      go_wp2_with fail
      refine (CompareFunc_any _ _ _ _ _ HR12.out HR2.out (by have := stands_length (lns := lns) (sh := sh) (n := normOf lns a) HOK.out.st; omega) (by have := stands_length (lns := lns) (sh := sh) (n := normOf lns b) HOK.out.st; omega) (fun l hl => by have := stands_short HF.out ha l hl; omega) (fun l hl => by have := stands_short HF.out hb l hl; omega)).mono ?_
      rintro e w3 ⟨rfl, rfl⟩
      go_wp2
      go_ret2
      exact ⟨rfl, HB2.out⟩
    · have hdb : decide (64 < (b.size : Int)) = true := by simp <;> omega
      rw [if_neg (fun h => hb h.2)]
      go_enter Tryd.func19, Tryd.ntmps19
      go_wp2_with fail
      refine (isLong_any a _).mono ?_
      rintro e w0 ⟨rfl, rfl⟩
      rw [hda]
      go_wp2_with fail
      refine (isLong_any b _).mono ?_
      rintro e w0 ⟨rfl, rfl⟩
      rw [hdb]
      go_wp2
      go_ret2
      exact ⟨rfl, Below.refl _ _⟩
  · have hda : decide (64 < (a.size : Int)) = true := by simp <;> omega
    rw [if_neg (fun h => ha h.1)]
    go_enter Tryd.func19, Tryd.ntmps19
    go_wp2_with fail
    refine (isLong_any a _).mono ?_
    rintro e w0 ⟨rfl, rfl⟩
    rw [hda]
    go_wp2
    go_ret2
    exact ⟨rfl, Below.refl _ _⟩

set_option maxRecDepth 100000 in
set_option maxHeartbeats 2000000 in
theorem CodeKey_any (lns : List Tm.Ln) (bc bm : Nat) (st : Int) (sh : Bool) (s : ByteArray) (w : World) (hc : Coll w bc bm st sh lns) (hok : TableOk st lns) :
    Calls Tryd.prog 20 #[.pointer (some ⟨bc, 0, none⟩), .string s] w fun e w' => e = .returned (if s.size ≤ 64 then .tuple #[.string ⟨(keyBytes lns st sh s).toArray⟩, .int .i64 0] else .tuple #[.string ⟨#[]⟩, .int .i64 7]) ∧ Below w.heap.size w w' := by
  have HC := hide hc
  have HOK := hide hok
  have HF := hide hc.fit
  clear hc hok
  by_cases hs : s.size ≤ 64
  · have hd : decide (64 < (s.size : Int)) = false := by simp <;> omega
    rw [if_pos hs]
    go_enter Tryd.func20, Tryd.ntmps20
    go_wp2_with fail
    refine (isLong_any s _).mono ?_
    rintro e w0 ⟨rfl, rfl⟩
    rw [hd]
    go_wp2_with fail
    refine (standing_any lns bc bm st sh s _ HC.out HOK.out.ends HOK.out.heavy HOK.out.st hs).mono ?_
    rintro e w1 ⟨v1, rfl, hr1, hb1⟩
    have HR1 := hide hr1
    have HB1 := hide hb1
    have hz1 := hb1.size
    clear hr1 hb1
    go_wp2_with fail
    refine (keyOf_any _ _ _ HR1.out (by have := stands_length (lns := lns) (sh := sh) (n := normOf lns s) HOK.out.st; omega) (stands_short HF.out hs) (stands_small HF.out) stands_ne).mono ?_
    rintro e w2 ⟨k, hk, rfl, hb2⟩
    have HK : Hid (k = ⟨(keyBytes lns st sh s).toArray⟩) := by
      unfold Hid keyBytes
      rw [← hk]
    have HB2 := hide (HB1.out.trans (hb2.mono hz1))
    clear hk hb2
    go_wp2
    go_ret2
    exact ⟨by rw [HK.out]; rfl, HB2.out⟩
  · have hd : decide (64 < (s.size : Int)) = true := by simp <;> omega
    rw [if_neg hs]
    go_enter Tryd.func20, Tryd.ntmps20
    go_wp2_with fail
    refine (isLong_any s _).mono ?_
    rintro e w0 ⟨rfl, rfl⟩
    rw [hd]
    go_wp2
    go_ret2
    exact ⟨rfl, Below.refl _ _⟩

/-- What Elements answers. -/
def partsOfAns (lns : List Tm.Ln) (s : ByteArray) (w : World) (e : Ending) (w' : World) : Prop :=
  if s.size ≤ 64 then ∃ v, e = .returned (.tuple #[v, .int .i64 0]) ∧ w'.ownsRow w.heap.size 64 4 v (Tm.elements lns (normOf lns s)).length (elsCells (Tm.elements lns (normOf lns s))) ∧ Below w.heap.size w w'
  else e = .returned (.tuple #[.slice none 0 0, .int .i64 7]) ∧ w' = w

set_option maxRecDepth 100000 in
set_option maxHeartbeats 2000000 in
theorem CodeElements_any (lns : List Tm.Ln) (bc bm : Nat) (st : Int) (sh : Bool) (s : ByteArray) (w : World) (hc : Coll w bc bm st sh lns) (hok : TableOk st lns) :
    Calls Tryd.prog 21 #[.pointer (some ⟨bc, 0, none⟩), .string s] w fun e w' => partsOfAns lns s w e w' := by
  have HC := hide hc
  have HOK := hide hok
  have HF := hide hc.fit
  have hlt := hc.lt
  have c0 := hc.c0
  have hfew := hc.few
  clear hc hok
  by_cases hs : s.size ≤ 64
  · have hd : decide (64 < (s.size : Int)) = false := by simp <;> omega
    have hnl := norm_short' HF.out hs
    go_enter Tryd.func21, Tryd.ntmps21
    go_wp2_with fail
    refine (isLong_any s _).mono ?_
    rintro e w0 ⟨rfl, rfl⟩
    rw [hd]
    go_wp2_with fail
    go_region_with (first | (go_at_call 46; refine (normalForm_any lns HF.out HOK.out.ends bm s _ hs (HC.out.below (Below.refl _ _).drew).rd).mono ?_; rintro e w1 ⟨v1, rfl, hown1, hb1⟩; have HR1 := hide (Reads.of_owns hown1); have HB1 := hide hb1; have hz1 := hb1.size; have c01 := (hb1.cell (p := ⟨bc, 0, none⟩) (by exact hlt)).trans c0; have HC1 := hide ((HC.out.below (Below.refl _ _).drew).below hb1); clear hown1 hb1) | (go_at_call 45; refine (elements_any lns bm _ (normOf lns s) _ HC1.out.rd HR1.out (norm_calm lns s) (norm_range HF.out s) (by omega) hfew HF.out).mono ?_; rintro e w2 ⟨v2, rfl, hown2, hb2⟩))
    all_goals
      have HANS : Hid (partsOfAns lns s w0 (.returned (.tuple #[v2, .int .i64 0])) w2) := by
        unfold Hid partsOfAns
        rw [if_pos hs]
        exact ⟨v2, rfl, owns_mono hown2 (by exact hz1), ((Below.refl _ _).drew.trans HB1.out).trans (hb2.mono (by exact hz1))⟩
      clear hown2 hb2
      go_wp2
      go_ret2
      exact HANS.out
  · have hd : decide (64 < (s.size : Int)) = true := by simp <;> omega
    go_enter Tryd.func21, Tryd.ntmps21
    go_wp2_with fail
    refine (isLong_any s _).mono ?_
    rintro e w0 ⟨rfl, rfl⟩
    rw [hd]
    go_wp2
    go_ret2
    unfold partsOfAns
    rw [if_neg hs]
    exact ⟨rfl, rfl⟩
end Go.Proofs.YthaecjhnlpbfnaaDoor
namespace Go.Proofs.YthaecjhnlpbfnaaDoor
open Go.RowKit

/-- What is said of a collator (its text, its options, from which block on it lies): it stays where its blocks do. -/
def Stays (K : ByteArray → Int → Bool → Nat → Option Addr → World → Prop) : Prop := ∀ s st sh B B' c (w w' : World), K s st sh B c w → B' ≤ B → w.heap.size ≤ w'.heap.size → (∀ g, B ≤ g → g < w.heap.size → w'.heap[g]? = w.heap[g]?) → K s st sh B' c w'
/-- What the program's New is to answer: the line and the error that the document gives; a collator just where there is no error. -/
def NewSaid (K : ByteArray → Int → Bool → Nat → Option Addr → World → Prop) : Prop := Stays K ∧ ∀ (s : ByteArray) (st : Int) (sh : Bool) (w : World), s.size ≤ maxLen →
  Calls Tryd.prog 22 #[.string s, .agg #[.int .i64 st, .bool sh]] w fun e w' =>
    ∃ c, e = .returned (.tuple #[.pointer c, .int .i64 (Tm.newTable s.data.toList st).2.1, .int .i64 (Tm.newTable s.data.toList st).2.2]) ∧ (c = none ↔ (Tm.newTable s.data.toList st).2.2 ≠ 0) ∧ K s st sh w.heap.size c w' ∧ Below w.heap.size w w'

/-- What opens answers. -/
def opensAns (K : ByteArray → Int → Bool → Nat → Option Addr → World → Prop) (s : ByteArray) (r : List Tm.Ln × Int × Int) (st : Int) (sh : Bool) (B : Nat) (e : Ending) (w' : World) : Prop :=
  ∃ c vl, e = .returned (.tuple #[.pointer c, .agg #[vl, .int .i64 st, .bool sh], .bool true]) ∧ (c = none ↔ r.2.2 ≠ 0) ∧ TableOwn w' B vl r.1 ∧ (∀ o ∈ r.1, Tm.Good o) ∧ r.1.length ≤ 8193 ∧ (∀ g, vl.ownBlock = some g → B ≤ g) ∧ K s st sh B c w'

set_option maxRecDepth 100000 in
set_option maxHeartbeats 2000000 in
theorem opens_any {K : ByteArray → Int → Bool → Nat → Option Addr → World → Prop} (hNew : NewSaid K) (s : ByteArray) (st : Int) (sh : Bool) (w : World) (hs : s.size ≤ maxLen) :
    Calls Tryd.prog 9 #[.string s, .agg #[.int .i64 st, .bool sh]] w fun e w' => opensAns K s (Tm.newTable s.data.toList st) st sh w.heap.size e w' ∧ Below w.heap.size w w' := by
  go_enter Tryd.func9, Tryd.ntmps9
  go_wp2_with fail
  refine (hNew.2 s st sh _ hs).mono ?_
  rintro e w1 ⟨c, rfl, hc, hK, hb1⟩
  have HK := hide hK
  clear hK
  simp only [World.size_alloc] at HK
  have hcell := (bcell hb1).1
  have hfroz := (bcell hb1).2
  have hz1 := hb1.size
  simp at hz1
  have o0 : w1.cell? ⟨w.heap.size, 0, none⟩ = some (.int .i64 st) := by rw [hcell _ _ (by simp; omega), cell_old (by simp), cell_new rfl]; rfl
  have o1 : w1.cell? ⟨w.heap.size, 1, none⟩ = some (.bool sh) := by rw [hcell _ _ (by simp; omega), cell_old (by simp), cell_new rfl]; rfl
  have HB1 : Hid (Below w.heap.size w w1) := (((Below.refl _ _).alloc (Nat.le_refl _) _).alloc (by simp) _).trans (hb1.mono (by simp; omega))
  have y0 : w1.cell? ⟨w.heap.size + 1, 0, none⟩ = some (.slice none 0 0) := by rw [hcell _ _ (by simp), cell_new (by simp)]; rfl
  have y1 : w1.cell? ⟨w.heap.size + 1, 1, none⟩ = some (.int .i64 0) := by rw [hcell _ _ (by simp), cell_new (by simp)]; rfl
  have y2 : w1.cell? ⟨w.heap.size + 1, 2, none⟩ = some (.bool false) := by rw [hcell _ _ (by simp), cell_new (by simp)]; rfl
  have yf : ∀ o, w1.frozen? ⟨w.heap.size + 1, o, none⟩ = false := fun o => by rw [hfroz _ _ (by simp), frozen_new (by simp)]
  clear hcell hfroz hb1
  go_wp2_with fail
  refine (RefNew_any s st sh _ hs).mono ?_
  rintro e w2 ⟨⟨vl, rfl, htab, hgood, hlen, hbl⟩, hb2⟩
  have hcell := (bcell hb2).1
  have hfroz := (bcell hb2).2
  have hz2 := hb2.size
  rw [← hcell _ _ (by omega)] at y0 y1 y2
  have yf2 : ∀ o, w2.frozen? ⟨w.heap.size + 1, o, none⟩ = false := fun o => by rw [hfroz _ _ (by omega)]; exact yf o
  have HB2 : Hid (Below w.heap.size w w2) := HB1.out.trans (hb2.mono (by omega))
  have gz : w.heap.size + 1 < w2.heap.size := by omega
  have HK2 : Hid (K s st sh (w.heap.size + 2) c w2) := hNew.1 _ _ _ _ _ _ _ _ HK.out (by omega) hb2.size (fun g _ hl => hb2.block g hl)
  obtain ⟨al, capl, rfl⟩ := htab.rd.shape
  have ANS : Hid (∀ w', Up (w.heap.size + 1) w2 w' → opensAns K s (Tm.newTable s.data.toList st) st sh w.heap.size (.returned (.tuple #[.pointer c, .agg #[.slice al (Tm.newTable s.data.toList st).1.length capl, .int .i64 st, .bool sh], .bool true])) w') := by
    intro w' hu
    refine ⟨c, _, rfl, hc, fun w'' hs hk => htab w'' (Nat.le_trans hu.size hs) (fun g hg hl => (hk g (by omega) (Nat.lt_of_lt_of_le hl hu.size)).trans (hu.block g (by omega) hl)), hgood, hlen, fun g hg => by have := hbl g hg; omega, ?_⟩
    exact hNew.1 _ _ _ _ _ _ _ _ HK2.out (by omega) hu.size (fun g hg hl => hu.block g (by omega) hl)
  have hcn : (c = none ∧ ((Tm.newTable s.data.toList st).2.2 != 0) = true) ∨ (∃ a, c = some a ∧ ((Tm.newTable s.data.toList st).2.2 != 0) = false) := by
    cases c with
    | none => exact .inl ⟨rfl, by rw [bne_iff_ne]; exact hc.1 rfl⟩
    | some a =>
      refine .inr ⟨a, rfl, ?_⟩
      cases hq : ((Tm.newTable s.data.toList st).2.2 != 0)
      · rfl
      · rw [bne_iff_ne] at hq
        cases hc.2 hq
  generalize (Tm.newTable s.data.toList st).2.1 = n1 at *
  generalize he1 : (Tm.newTable s.data.toList st).2.2 = e1 at *
  clear hcell hfroz hb2 o0 o1 yf hc htab hgood he1
  rcases hcn with ⟨rfl, hne⟩ | ⟨a, rfl, hne⟩
  all_goals
    go_wp2
    go_region
    go_wp2
    refine bodyPost_ret (v := .tuple #[.pointer _, .agg #[.slice al (Tm.newTable s.data.toList st).1.length capl, .int .i64 st, .bool sh], .bool true]) (by simp [results, Tryd.results9, go_sem, y0, y1, y2, gz]) rfl ⟨ANS.out _ ?_, ?_⟩
    · (repeat (first | with_reducible exact Up.refl _ _ | with_reducible refine Up.drew ?_ | with_reducible refine Up.alloc ?_ _ | with_reducible refine Up.setCell ?_ (by simp) _))
    · (repeat (first | with_reducible exact HB2.out | with_reducible refine Below.drew ?_ | with_reducible refine Below.setCell ?_ (by simp) _ | with_reducible refine Below.alloc ?_ (by simp [World.setCell]; omega) _))
end Go.Proofs.YthaecjhnlpbfnaaDoor
