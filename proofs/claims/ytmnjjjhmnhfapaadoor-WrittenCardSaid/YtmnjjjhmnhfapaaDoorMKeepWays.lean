/-
  The ways in which the statement writes a text: pieces that end where a rune ends, and come to one normal form.
-/
import Derived.Test.YtmnjjjhmnhfapaaDoorMRefNum
import Derived.Test.YtmnjjjhmnhfapaaDoorMRefOne
namespace Go.Proofs.YtmnjjjhmnhfapaaDoor

def decL (l : List UInt8) : Nat × Nat := decB l.length (l.getD 0 0).toNat (l.getD 1 0).toNat (l.getD 2 0).toNat (l.getD 3 0).toNat
def runesL : Nat → List UInt8 → List Int
  | 0, _ => []
  | f + 1, l => if l = [] then [] else ((decL l).1 : Int) :: runesL f (l.drop (decL l).2)
theorem byteAt_list (s : ByteArray) (k : Nat) : byteAt s k = (s.data.toList.getD k 0).toNat := by
  by_cases h : k < s.size
  · rw [← byteAt_get h]
    have h' : k < s.data.toList.length := by simpa using h
    rw [List.getD_eq_getElem?_getD, List.getElem?_eq_getElem h']
    simp [ByteArray.getElem_eq_getElem_data]
  · rw [byteAt_off (by omega)]
    rw [List.getD_eq_getElem?_getD, List.getElem?_eq_none (by rw [len_bytes]; omega)]
    rfl
theorem decode_list (s : ByteArray) (i : Nat) : Utf8.decode s i = decL (s.data.toList.drop i) := by
  rw [decode_decB]
  unfold decL
  simp only [byteAt_list, List.getD_eq_getElem?_getD, List.getElem?_drop, List.length_drop, Nat.add_zero]
  rw [len_bytes]
theorem decB_pos (n b0 b1 b2 b3 : Nat) : 1 ≤ (decB n b0 b1 b2 b3).2 := by
  unfold decB
  repeat' split
  all_goals (simp only; omega)
theorem runesL_more : ∀ (f g : Nat) (l : List UInt8), l.length ≤ f → l.length ≤ g → runesL f l = runesL g l
  | 0, g, l, h, _ => by
    have : l = [] := List.eq_nil_of_length_eq_zero (by omega)
    subst this
    cases g <;> simp [runesL]
  | f + 1, 0, l, _, h => by
    have : l = [] := List.eq_nil_of_length_eq_zero (by omega)
    subst this
    simp [runesL]
  | f + 1, g + 1, l, h, h' => by
    unfold runesL
    by_cases e : l = []
    · simp [e]
    · rw [if_neg e, if_neg e]
      have h1 : 1 ≤ (decL l).2 := decB_pos _ _ _ _ _
      have h2 : 0 < l.length := List.length_pos_iff.2 e
      rw [runesL_more f g _ (by rw [List.length_drop]; omega) (by rw [List.length_drop]; omega)]
def bytesRunes (l : List UInt8) : List Int := runesL l.length l
theorem runesFrom_list (s : ByteArray) : ∀ (f pos : Nat), runesFrom s f pos = runesL f (s.data.toList.drop pos)
  | 0, _ => rfl
  | f + 1, pos => by
    rw [runesFrom, runesL]
    by_cases h : pos < s.size
    · rw [if_pos h, if_neg (by rw [List.drop_eq_nil_iff]; rw [len_bytes]; omega), decode_list, runesFrom_list s f, List.drop_drop]
    · rw [if_neg h, if_pos (by rw [List.drop_eq_nil_iff]; rw [len_bytes]; omega)]
theorem runesOf_list (s : ByteArray) : runesOf s = bytesRunes s.data.toList := by
  unfold runesOf bytesRunes
  rw [runesFrom_list, List.drop_zero, len_bytes]

/-- A piece that ends where a rune ends. -/
def Closed (p : List UInt8) : Prop := ∀ y, bytesRunes (p ++ y) = bytesRunes p ++ bytesRunes y
theorem closed_nil : Closed [] := fun _ => rfl
theorem Closed.append {p q : List UInt8} (hp : Closed p) (hq : Closed q) : Closed (p ++ q) := fun y => by
  rw [List.append_assoc, hp, hq, hp q, List.append_assoc]
theorem piece {p : List UInt8} {r : Nat} (hp : p ≠ []) (h : ∀ y, decL (p ++ y) = (r, p.length)) : Closed p ∧ bytesRunes p = [(r : Int)] := by
  have key : ∀ y, bytesRunes (p ++ y) = (r : Int) :: bytesRunes y := fun y => by
    unfold bytesRunes
    obtain ⟨n, hn⟩ : ∃ n, (p ++ y).length = n + 1 := ⟨(p ++ y).length - 1, by have := List.length_pos_iff.2 hp; simp; omega⟩
    have hn' := hn
    rw [List.length_append] at hn'
    have hpp := List.length_pos_iff.2 hp
    rw [hn, runesL, if_neg (by simp [hp]), h y]
    simp only [List.drop_left]
    rw [runesL_more n y.length y (by omega) (Nat.le_refl _)]
  have h0 := key []
  rw [List.append_nil] at h0
  refine ⟨fun y => ?_, h0⟩
  rw [key y, h0]
  rfl
theorem p_97 : Closed [97] ∧ bytesRunes [97] = [97] := piece (r := 97) (by simp) (fun y => by simp [decL, decB])
theorem p_98 : Closed [98] ∧ bytesRunes [98] = [98] := piece (r := 98) (by simp) (fun y => by simp [decL, decB])
theorem p_45 : Closed [45] ∧ bytesRunes [45] = [45] := piece (r := 45) (by simp) (fun y => by simp [decL, decB])
theorem p_195_161 : Closed [195, 161] ∧ bytesRunes [195, 161] = [225] := piece (r := 225) (by simp) (fun y => by simp [decL, decB])
theorem p_195_162 : Closed [195, 162] ∧ bytesRunes [195, 162] = [226] := piece (r := 226) (by simp) (fun y => by simp [decL, decB])
theorem p_204_129 : Closed [204, 129] ∧ bytesRunes [204, 129] = [769] := piece (r := 769) (by simp) (fun y => by simp [decL, decB])
theorem p_204_163 : Closed [204, 163] ∧ bytesRunes [204, 163] = [803] := piece (r := 803) (by simp) (fun y => by simp [decL, decB])
theorem p_225_186_161 : Closed [225, 186, 161] ∧ bytesRunes [225, 186, 161] = [7841] := piece (r := 7841) (by simp) (fun y => by simp [decL, decB])
theorem p_99 : Closed [99] ∧ bytesRunes [99] = [99] := piece (r := 99) (by simp) (fun y => by simp [decL, decB])
theorem p_104 : Closed [104] ∧ bytesRunes [104] = [104] := piece (r := 104) (by simp) (fun y => by simp [decL, decB])
theorem p_100 : Closed [100] ∧ bytesRunes [100] = [100] := piece (r := 100) (by simp) (fun y => by simp [decL, decB])
theorem p_65 : Closed [65] ∧ bytesRunes [65] = [65] := piece (r := 65) (by simp) (fun y => by simp [decL, decB])
theorem p_255 : Closed [255] ∧ bytesRunes [255] = [65533] := piece (r := 65533) (by simp) (fun y => by simp [decL, decB])
theorem p_239_191_189 : Closed [239, 191, 189] ∧ bytesRunes [239, 191, 189] = [65533] := piece (r := 65533) (by simp) (fun y => by simp [decL, decB])

namespace Tm
/-- What the tables say of the runes that are written so. -/
def keepWays (lns : List Ln) : Bool := decide (parts lns 225 = [97, 769]) && decide (parts lns 7841 = [97, 803]) && decide (parts lns 226 = [225, 803]) && [97, 98, 45, 99, 104, 100, 65, 65533, 769, 803].all (fun r => decide (parts lns r = [])) && decide (classOf lns 769 = 230) && decide (classOf lns 803 = 220)
theorem keep_ways_a : ((List.range 128).all fun n => keepWays (keepLines n)) = true := by decide +kernel
theorem keep_ways_b : ((List.range 128).all fun n => keepWays (keepLines (n + 128))) = true := by decide +kernel
theorem keep_ways {n : Nat} (h : n < 256) : keepWays (keepLines n) = true := by
  by_cases h1 : n < 128
  · exact List.all_eq_true.1 keep_ways_a n (List.mem_range.2 h1)
  · have := List.all_eq_true.1 keep_ways_b (n - 128) (List.mem_range.2 (by omega))
    simpa [show n - 128 + 128 = n by omega] using this
structure Ways (lns : List Ln) : Prop where
  e1 : parts lns 225 = [97, 769]
  e2 : parts lns 7841 = [97, 803]
  e3 : parts lns 226 = [225, 803]
  no : ∀ r ∈ ([97, 98, 45, 99, 104, 100, 65, 65533, 769, 803] : List Int), parts lns r = []
  c1 : classOf lns 769 = 230
  c2 : classOf lns 803 = 220
theorem Ways.of {lns : List Ln} (h : keepWays lns = true) : Ways lns := by
  unfold keepWays at h
  simp only [Bool.and_eq_true, decide_eq_true_eq, List.all_eq_true] at h
  obtain ⟨⟨⟨⟨⟨h1, h2⟩, h3⟩, h4⟩, h5⟩, h6⟩ := h
  exact ⟨h1, h2, h3, h4, h5, h6⟩
theorem Ways.one {lns : List Ln} (h : Ways lns) {r : Int} (hr : r ∈ ([97, 98, 45, 99, 104, 100, 65, 65533, 769, 803] : List Int)) (n : Nat) : expand lns n r = [r] := expand_leaf (by rw [h.no r hr]; rfl)
theorem Ways.x1 {lns : List Ln} (h : Ways lns) (n : Nat) : expand lns (n + 1) 225 = [97, 769] := by
  rw [expand_part (by rw [h.e1]; simp), h.e1]
  simp [h.one (r := 97) (by simp), h.one (r := 769) (by simp)]
theorem Ways.x2 {lns : List Ln} (h : Ways lns) (n : Nat) : expand lns (n + 1) 7841 = [97, 803] := by
  rw [expand_part (by rw [h.e2]; simp), h.e2]
  simp [h.one (r := 97) (by simp), h.one (r := 803) (by simp)]
theorem Ways.x3 {lns : List Ln} (h : Ways lns) (n : Nat) : expand lns (n + 2) 226 = [97, 769, 803] := by
  rw [expand_part (by rw [h.e3]; simp), h.e3]
  simp [h.x1, h.one (r := 803) (by simp)]
end Tm

/-- What a piece is made of. -/
def madeOf (lns : List Tm.Ln) (p : List UInt8) : List Int := (bytesRunes p).flatMap (Tm.expand lns 4)
/-- Two runs that come to one order wherever they stand. -/
def Alike (lns : List Tm.Ln) (a b : List Int) : Prop := ∀ p q, Tm.ord (Tm.classOf lns) (p ++ a ++ q) = Tm.ord (Tm.classOf lns) (p ++ b ++ q)
theorem Alike.refl {lns : List Tm.Ln} (a : List Int) : Alike lns a a := fun _ _ => rfl
/-- A way to write the run c. -/
structure Way (lns : List Tm.Ln) (c : List Int) (p : List UInt8) : Prop where
  closed : Closed p
  alike : Alike lns (madeOf lns p) c
  short : p.length ≤ 5
theorem swapped {lns : List Tm.Ln} (h : Tm.Ways lns) (x : Int) : Alike lns [x, 803, 769] [x, 769, 803] := fun p q => by
  have := Tm.ord_swap (k := Tm.classOf lns) (a := 769) (b := 803) (by rw [h.c2]; decide) (by rw [h.c1, h.c2]; decide) (p ++ [x]) q
  simpa using this.symm
theorem way_0_0 {lns : List Tm.Ln} (h : Tm.Ways lns) : Way lns [97] [97] := by
  have hr : bytesRunes [97] = [97] := p_97.2
  have hm : madeOf lns [97] = [97] := by unfold madeOf; rw [hr]; simp [h.one (r := 97) (by simp)]
  exact ⟨p_97.1, by rw [hm]; exact Alike.refl _, by decide⟩
theorem way_1_0 {lns : List Tm.Ln} (h : Tm.Ways lns) : Way lns [98] [98] := by
  have hr : bytesRunes [98] = [98] := p_98.2
  have hm : madeOf lns [98] = [98] := by unfold madeOf; rw [hr]; simp [h.one (r := 98) (by simp)]
  exact ⟨p_98.1, by rw [hm]; exact Alike.refl _, by decide⟩
theorem way_2_0 {lns : List Tm.Ln} (h : Tm.Ways lns) : Way lns [45] [45] := by
  have hr : bytesRunes [45] = [45] := p_45.2
  have hm : madeOf lns [45] = [45] := by unfold madeOf; rw [hr]; simp [h.one (r := 45) (by simp)]
  exact ⟨p_45.1, by rw [hm]; exact Alike.refl _, by decide⟩
theorem way_3_0 {lns : List Tm.Ln} (h : Tm.Ways lns) : Way lns [97, 769] [195, 161] := by
  have hr : bytesRunes [195, 161] = [225] := p_195_161.2
  have hm : madeOf lns [195, 161] = [97, 769] := by unfold madeOf; rw [hr]; simp [h.x1]
  exact ⟨p_195_161.1, by rw [hm]; exact Alike.refl _, by decide⟩
theorem way_3_1 {lns : List Tm.Ln} (h : Tm.Ways lns) : Way lns [97, 769] [97, 204, 129] := by
  have hr : bytesRunes [97, 204, 129] = [97, 769] := by show bytesRunes (([97] : List UInt8) ++ [204, 129]) = _; rw [p_97.1, p_97.2, p_204_129.2]; rfl
  have hm : madeOf lns [97, 204, 129] = [97, 769] := by unfold madeOf; rw [hr]; simp [h.one (r := 769) (by simp), h.one (r := 97) (by simp)]
  exact ⟨(p_97.1.append p_204_129.1), by rw [hm]; exact Alike.refl _, by decide⟩
theorem way_4_0 {lns : List Tm.Ln} (h : Tm.Ways lns) : Way lns [97, 803] [225, 186, 161] := by
  have hr : bytesRunes [225, 186, 161] = [7841] := p_225_186_161.2
  have hm : madeOf lns [225, 186, 161] = [97, 803] := by unfold madeOf; rw [hr]; simp [h.x2]
  exact ⟨p_225_186_161.1, by rw [hm]; exact Alike.refl _, by decide⟩
theorem way_4_1 {lns : List Tm.Ln} (h : Tm.Ways lns) : Way lns [97, 803] [97, 204, 163] := by
  have hr : bytesRunes [97, 204, 163] = [97, 803] := by show bytesRunes (([97] : List UInt8) ++ [204, 163]) = _; rw [p_97.1, p_97.2, p_204_163.2]; rfl
  have hm : madeOf lns [97, 204, 163] = [97, 803] := by unfold madeOf; rw [hr]; simp [h.one (r := 803) (by simp), h.one (r := 97) (by simp)]
  exact ⟨(p_97.1.append p_204_163.1), by rw [hm]; exact Alike.refl _, by decide⟩
theorem way_5_0 {lns : List Tm.Ln} (h : Tm.Ways lns) : Way lns [97, 769, 803] [195, 162] := by
  have hr : bytesRunes [195, 162] = [226] := p_195_162.2
  have hm : madeOf lns [195, 162] = [97, 769, 803] := by unfold madeOf; rw [hr]; simp [h.x3]
  exact ⟨p_195_162.1, by rw [hm]; exact Alike.refl _, by decide⟩
theorem way_5_1 {lns : List Tm.Ln} (h : Tm.Ways lns) : Way lns [97, 769, 803] [97, 204, 129, 204, 163] := by
  have hr : bytesRunes [97, 204, 129, 204, 163] = [97, 769, 803] := by show bytesRunes (([97] : List UInt8) ++ [204, 129] ++ [204, 163]) = _; rw [(p_97.1.append p_204_129.1), p_97.1, p_97.2, p_204_129.2, p_204_163.2]; rfl
  have hm : madeOf lns [97, 204, 129, 204, 163] = [97, 769, 803] := by unfold madeOf; rw [hr]; simp [h.one (r := 769) (by simp), h.one (r := 803) (by simp), h.one (r := 97) (by simp)]
  exact ⟨((p_97.1.append p_204_129.1).append p_204_163.1), by rw [hm]; exact Alike.refl _, by decide⟩
theorem way_5_2 {lns : List Tm.Ln} (h : Tm.Ways lns) : Way lns [97, 769, 803] [97, 204, 163, 204, 129] := by
  have hr : bytesRunes [97, 204, 163, 204, 129] = [97, 803, 769] := by show bytesRunes (([97] : List UInt8) ++ [204, 163] ++ [204, 129]) = _; rw [(p_97.1.append p_204_163.1), p_97.1, p_97.2, p_204_163.2, p_204_129.2]; rfl
  have hm : madeOf lns [97, 204, 163, 204, 129] = [97, 803, 769] := by unfold madeOf; rw [hr]; simp [h.one (r := 769) (by simp), h.one (r := 803) (by simp), h.one (r := 97) (by simp)]
  exact ⟨((p_97.1.append p_204_163.1).append p_204_129.1), by rw [hm]; exact swapped h 97, by decide⟩
theorem way_5_3 {lns : List Tm.Ln} (h : Tm.Ways lns) : Way lns [97, 769, 803] [195, 161, 204, 163] := by
  have hr : bytesRunes [195, 161, 204, 163] = [225, 803] := by show bytesRunes (([195, 161] : List UInt8) ++ [204, 163]) = _; rw [p_195_161.1, p_195_161.2, p_204_163.2]; rfl
  have hm : madeOf lns [195, 161, 204, 163] = [97, 769, 803] := by unfold madeOf; rw [hr]; simp [h.one (r := 803) (by simp), h.x1]
  exact ⟨(p_195_161.1.append p_204_163.1), by rw [hm]; exact Alike.refl _, by decide⟩
theorem way_5_4 {lns : List Tm.Ln} (h : Tm.Ways lns) : Way lns [97, 769, 803] [225, 186, 161, 204, 129] := by
  have hr : bytesRunes [225, 186, 161, 204, 129] = [7841, 769] := by show bytesRunes (([225, 186, 161] : List UInt8) ++ [204, 129]) = _; rw [p_225_186_161.1, p_225_186_161.2, p_204_129.2]; rfl
  have hm : madeOf lns [225, 186, 161, 204, 129] = [97, 803, 769] := by unfold madeOf; rw [hr]; simp [h.one (r := 769) (by simp), h.x2]
  exact ⟨(p_225_186_161.1.append p_204_129.1), by rw [hm]; exact swapped h 97, by decide⟩
theorem way_6_0 {lns : List Tm.Ln} (h : Tm.Ways lns) : Way lns [99, 104] [99, 104] := by
  have hr : bytesRunes [99, 104] = [99, 104] := by show bytesRunes (([99] : List UInt8) ++ [104]) = _; rw [p_99.1, p_99.2, p_104.2]; rfl
  have hm : madeOf lns [99, 104] = [99, 104] := by unfold madeOf; rw [hr]; simp [h.one (r := 104) (by simp), h.one (r := 99) (by simp)]
  exact ⟨(p_99.1.append p_104.1), by rw [hm]; exact Alike.refl _, by decide⟩
theorem way_7_0 {lns : List Tm.Ln} (h : Tm.Ways lns) : Way lns [99, 769, 803] [99, 204, 129, 204, 163] := by
  have hr : bytesRunes [99, 204, 129, 204, 163] = [99, 769, 803] := by show bytesRunes (([99] : List UInt8) ++ [204, 129] ++ [204, 163]) = _; rw [(p_99.1.append p_204_129.1), p_99.1, p_99.2, p_204_129.2, p_204_163.2]; rfl
  have hm : madeOf lns [99, 204, 129, 204, 163] = [99, 769, 803] := by unfold madeOf; rw [hr]; simp [h.one (r := 769) (by simp), h.one (r := 803) (by simp), h.one (r := 99) (by simp)]
  exact ⟨((p_99.1.append p_204_129.1).append p_204_163.1), by rw [hm]; exact Alike.refl _, by decide⟩
theorem way_7_1 {lns : List Tm.Ln} (h : Tm.Ways lns) : Way lns [99, 769, 803] [99, 204, 163, 204, 129] := by
  have hr : bytesRunes [99, 204, 163, 204, 129] = [99, 803, 769] := by show bytesRunes (([99] : List UInt8) ++ [204, 163] ++ [204, 129]) = _; rw [(p_99.1.append p_204_163.1), p_99.1, p_99.2, p_204_163.2, p_204_129.2]; rfl
  have hm : madeOf lns [99, 204, 163, 204, 129] = [99, 803, 769] := by unfold madeOf; rw [hr]; simp [h.one (r := 769) (by simp), h.one (r := 803) (by simp), h.one (r := 99) (by simp)]
  exact ⟨((p_99.1.append p_204_163.1).append p_204_129.1), by rw [hm]; exact swapped h 99, by decide⟩
theorem way_8_0 {lns : List Tm.Ln} (h : Tm.Ways lns) : Way lns [100] [100] := by
  have hr : bytesRunes [100] = [100] := p_100.2
  have hm : madeOf lns [100] = [100] := by unfold madeOf; rw [hr]; simp [h.one (r := 100) (by simp)]
  exact ⟨p_100.1, by rw [hm]; exact Alike.refl _, by decide⟩
theorem way_9_0 {lns : List Tm.Ln} (h : Tm.Ways lns) : Way lns [65] [65] := by
  have hr : bytesRunes [65] = [65] := p_65.2
  have hm : madeOf lns [65] = [65] := by unfold madeOf; rw [hr]; simp [h.one (r := 65) (by simp)]
  exact ⟨p_65.1, by rw [hm]; exact Alike.refl _, by decide⟩
theorem way_10_0 {lns : List Tm.Ln} (h : Tm.Ways lns) : Way lns [65533] [255] := by
  have hr : bytesRunes [255] = [65533] := p_255.2
  have hm : madeOf lns [255] = [65533] := by unfold madeOf; rw [hr]; simp [h.one (r := 65533) (by simp)]
  exact ⟨p_255.1, by rw [hm]; exact Alike.refl _, by decide⟩
theorem way_10_1 {lns : List Tm.Ln} (h : Tm.Ways lns) : Way lns [65533] [239, 191, 189] := by
  have hr : bytesRunes [239, 191, 189] = [65533] := p_239_191_189.2
  have hm : madeOf lns [239, 191, 189] = [65533] := by unfold madeOf; rw [hr]; simp [h.one (r := 65533) (by simp)]
  exact ⟨p_239_191_189.1, by rw [hm]; exact Alike.refl _, by decide⟩
end Go.Proofs.YtmnjjjhmnhfapaaDoor
