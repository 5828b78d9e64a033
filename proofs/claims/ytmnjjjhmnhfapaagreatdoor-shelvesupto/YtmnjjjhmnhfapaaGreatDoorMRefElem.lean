import Derived.Deep.AppendLies
import Derived.BigRegion
import Derived.Deep.DeepCutAuto
import Derived.Test.YtmnjjjhmnhfapaaGreatDoorMRefWords
namespace Go.Proofs.YtmnjjjhmnhfapaaGreatDoor
open Go.RowKit
def elemAns (r : Option Tm.El) (e : Ending) : Prop :=
 ∃ (p s t : Int) (v ok : Bool), e = .returned (.tuple #[.agg #[.int .i64 p, .int .i64 s, .int .i64 t, .bool v], .bool ok]) ∧ (if ok then r = some ⟨p, s, t, v⟩ else r = none)
theorem row3 {w : World} {base : Nat} {e : TypeId} {v : Value} {b0 b1 b2 : ByteArray} (h : w.ownsRow base e 1 v 3 [.string b0, .string b1, .string b2]) :
  ∃ g cap, v = .slice (some ⟨g, 0, none⟩) 3 cap ∧ base ≤ g ∧ w.cell? ⟨g, 0, none⟩ = some (.string b0) ∧ w.cell? ⟨g, 1, none⟩ = some (.string b1) ∧ w.cell? ⟨g, 2, none⟩ = some (.string b2) := by
 obtain ⟨g, cap, rfl, hg, _⟩ := h.form (by omega)
 have hc := h.cells (g := g) rfl
 exact ⟨g, cap, rfl, hg, by simpa [Addr.add] using hc 0 _ rfl, by simpa [Addr.add] using hc 1 _ rfl, by simpa [Addr.add] using hc 2 _ rfl⟩
theorem three_of {α : Type} {l : List α} (h : l.length = 3) : ∃ a b c, l = [a, b, c] := by
 match l, h with
 | [a, b, c], _ => exact ⟨a, b, c, rfl⟩
theorem word_sizes {s : ByteArray} {c : UInt8} {bs : List ByteArray} (h : bs.map (·.data.toList) = Tm.split c s.data.toList) (hs : s.size ≤ 8192) : ∀ b ∈ bs, b.size ≤ 8192 := by
 intro b hb
 have := Tm.split_length c s.data.toList b.data.toList (by rw [← h]; exact List.mem_map.2 ⟨b, hb, rfl⟩)
 rw [len_bytes, len_bytes] at this
 omega
def star (s : ByteArray) : Bool := s.data.toList.head? == some 42
def bare (s : ByteArray) : ByteArray := if star s then s.extract 1 s.size else s
theorem star_nil {s : ByteArray} (h : s.size = 0) : star s = false := by
 have : s.data.toList = [] := List.eq_nil_of_length_eq_zero (by rw [len_bytes]; exact h)
 simp [star, this]
theorem star_no {s : ByteArray} (hp : 0 < s.size) (h : ((s[0].toNat : Int) == 42) = false) : star s = false := by
 unfold star
 rw [head_of s hp]
 have := u8_ne_of (n := 42) h (by omega)
 simpa using this
theorem star_yes {s : ByteArray} (hp : 0 < s.size) (h : ((s[0].toNat : Int) == 42) = true) : star s = true := by
 unfold star
 rw [head_of s hp, u8_eq_of (n := 42) h (by omega)]; rfl
theorem star_pos {s : ByteArray} (h : star s = true) : 0 < s.size := by
 rcases Nat.eq_zero_or_pos s.size with h0 | h0
 ·rw [star_nil h0] at h; cases h
 ·exact h0
theorem elem_star (s : ByteArray) : Tm.elem s.data.toList = Tm.elem3 (star s) (Tm.split 46 (bare s).data.toList) := by
 unfold bare star
 cases hl : s.data.toList with
 | nil => simp [Tm.elem, hl]
 | cons x r =>
  by_cases hx : x = 42
  ·subst hx
   have : (s.extract 1 s.size).data.toList = r := by
    rw [extract_bytes, hl, ← len_bytes, hl]; simp
   have h2 : (if (((42 : UInt8) :: r).head? == some 42) = true then s.extract 1 s.size else s) = s.extract 1 s.size := rfl
   rw [h2, this]; rfl
  ·have h1 : ((x :: r).head? == some 42) = false := by simp [hx]
   rw [h1]
   simp [Tm.elem, hx, hl]
def elObj (p s t : Int) (b : Bool) : Obj := .cells #[.int .i64 p, .int .i64 s, .int .i64 t, .bool b] 102
theorem bare_size (s : ByteArray) : (bare s).size ≤ s.size := by
 unfold bare; split <;> simp
theorem empty_of {s : ByteArray} : s.toList.isEmpty = decide (s.size = 0) := by
 rw [ByteArray.toList_eq, Bool.eq_iff_iff, List.isEmpty_iff, decide_eq_true_iff, ← len_bytes, List.length_eq_zero_iff]
theorem elem3_ways {v : Bool} {a b c : List UInt8} (h : ¬ ((0 ≤ Tm.num a ∧ 0 ≤ Tm.num b ∧ 0 ≤ Tm.num c) ∧ Tm.num a ≤ 65535 ∧ Tm.num b ≤ 65535 ∧ Tm.num c ≤ 65535)) : Tm.elem3 v [a, b, c] = none := by
 simp only [Tm.elem3]; rw [if_neg h]
theorem elem3_good {v : Bool} {a b c : List UInt8} (h : (0 ≤ Tm.num a ∧ 0 ≤ Tm.num b ∧ 0 ≤ Tm.num c) ∧ Tm.num a ≤ 65535 ∧ Tm.num b ≤ 65535 ∧ Tm.num c ≤ 65535) : Tm.elem3 v [a, b, c] = some ⟨Tm.num a, Tm.num b, Tm.num c, v⟩ := by
 simp only [Tm.elem3]; rw [if_pos h]
set_option maxRecDepth 100000 in
set_option maxHeartbeats 4000000 in
theorem element_any (s : ByteArray) (w : World) (hs : s.size ≤ 8192) :
  Calls Tryz.prog 79 #[.string s] w fun e w' => elemAns (Tm.elem s.data.toList) e ∧ Below w.heap.size w w' := by
 go_enter Tryz.func79, Tryz.ntmps79
 go_upto_region 2 with fail
 go_cut [14] from 8 to 13 (fun t wx => t = .bool (star s) ∧ wx = (w.alloc (elObj 0 0 0 false)).alloc (elObj 0 0 0 false))
 case first =>
  by_cases h0 : s.size = 0
  ·have he : s.toList.isEmpty = true := by rw [empty_of]; simp [h0]
   have HS := hide (star_nil h0)
   clear h0
   go_wp2
   go_meet
   case rel => exact ⟨by rw [HS.out], rfl⟩
  ·have he : s.toList.isEmpty = false := by rw [empty_of]; simp [h0]
   have hp : 0 < s.size := by omega
   cases h42 : ((s[0].toNat : Int) == 42)
   ·have HS := hide (star_no hp h42)
    go_wp2
    go_meet
    case rel => exact ⟨by rw [HS.out], rfl⟩
   ·have HS := hide (star_yes hp h42)
    go_wp2
    go_meet
    case rel => exact ⟨by rw [HS.out], rfl⟩
 case rest =>
  obtain ⟨rfl, rfl⟩ := hcut
  go_upto_if 14 with fail
  go_cut [0] from 7 to 17 (fun t wx => t = .string (bare s) ∧ wx = (w.alloc (elObj 0 0 0 false)).alloc (elObj 0 0 0 (star s)))
  case first =>
   cases hst : star s
   ·have HB : Hid (bare s = s) := by unfold bare Hid; rw [hst]; rfl
    have HT := hide hst
    go_wp2
    go_meet
    case rel => exact ⟨by rw [HB.out], by rw [HT.out]⟩
   ·have hp := star_pos hst
    have HB : Hid (bare s = s.extract 1 s.size) := by unfold bare Hid; rw [hst]; rfl
    unfold elObj
    have HT := hide hst
    go_wp2
    go_meet
    case rel => exact ⟨by rw [HB.out], by rw [HT.out]; rfl⟩
  case rest =>
   obtain ⟨rfl, rfl⟩ := hcut
   have hbs := bare_size s
   have HE := hide (elem_star s)
   generalize star s = vb at *
   generalize bare s = sv at *
   go_wp2_with fail
   refine (words_any sv 46 46 rfl _ (by omega)).mono ?_
   rintro e w1 ⟨v, bs, rfl, hown, hsp, hb⟩
   have hc := (bcell hb).1
   have hf := (bcell hb).2
   have x0 : w1.cell? ⟨w.heap.size + 1, 0, none⟩ = some (.int .i64 0) := by rw [hc _ _ (by simp)]; simp [elObj]
   have x1 : w1.cell? ⟨w.heap.size + 1, 1, none⟩ = some (.int .i64 0) := by rw [hc _ _ (by simp)]; simp [elObj]
   have x2 : w1.cell? ⟨w.heap.size + 1, 2, none⟩ = some (.int .i64 0) := by rw [hc _ _ (by simp)]; simp [elObj]
   have x3 : w1.cell? ⟨w.heap.size + 1, 3, none⟩ = some (.bool vb) := by rw [hc _ _ (by simp)]; simp [elObj]
   have y0 : w1.cell? ⟨w.heap.size, 0, none⟩ = some (.int .i64 0) := by rw [hc _ _ (by simp; omega)]; simp [elObj]
   have y1 : w1.cell? ⟨w.heap.size, 1, none⟩ = some (.int .i64 0) := by rw [hc _ _ (by simp; omega)]; simp [elObj]
   have y2 : w1.cell? ⟨w.heap.size, 2, none⟩ = some (.int .i64 0) := by rw [hc _ _ (by simp; omega)]; simp [elObj]
   have y3 : w1.cell? ⟨w.heap.size, 3, none⟩ = some (.bool false) := by rw [hc _ _ (by simp; omega)]; simp [elObj]
   have fx : ∀ o, w1.frozen? ⟨w.heap.size + 1, o, none⟩ = false := by intro o; rw [hf _ _ (by simp)]; simp [elObj]
   have fy : ∀ o, w1.frozen? ⟨w.heap.size, o, none⟩ = false := by intro o; rw [hf _ _ (by simp; omega)]; simp [elObj]
   have hb0 : Below w.heap.size w w1 := (((Below.refl _ _).alloc (Nat.le_refl _) _).alloc (by simp) _).trans (hb.mono (by simp; omega))
   have HB := hide hb0
   clear hc hf hb0 hb
   by_cases h3 : bs.length = 3
   ·obtain ⟨b0, b1, b2, rfl⟩ := three_of h3
    obtain ⟨g, cap, rfl, hg, c0, c1, c2⟩ := row3 (by simpa using hown)
    try simp at hg
    have g1 : ¬ g = w.heap.size + 1 := by omega
    have g2 : ¬ g = w.heap.size := by omega
    have hsz := word_sizes hsp (by omega)
    have hs0 := hsz b0 (by simp)
    have hs1 := hsz b1 (by simp)
    have hs2 := hsz b2 (by simp)
    have HS := hide hsp
    clear hown hsz hsp h3
    go_wp2_with fail
    refine (number_any b0 _ (by unfold maxLen; omega)).mono ?_
    rintro e w2 ⟨rfl, rfl⟩
    generalize hp0 : Tm.num b0.data.toList = p0
    have HP0 := hide hp0
    clear hp0
    go_wp2_with fail
    refine (number_any b1 _ (by unfold maxLen; omega)).mono ?_
    rintro e w3 ⟨rfl, rfl⟩
    generalize hp1 : Tm.num b1.data.toList = p1
    have HP1 := hide hp1
    clear hp1
    go_wp2_with fail
    refine (number_any b2 _ (by unfold maxLen; omega)).mono ?_
    rintro e w4 ⟨rfl, rfl⟩
    generalize hp2 : Tm.num b2.data.toList = p2
    have HP2 := hide hp2
    clear hp2 hs0 hs1 hs2 c0 c1 c2 g1 g2 hg
    have hway : (decide (0 ≤ p0) = false ∧ p0 < 0) ∨ (0 ≤ p0 ∧ decide (0 ≤ p1) = false ∧ p1 < 0) ∨ (0 ≤ p0 ∧ 0 ≤ p1 ∧ decide (0 ≤ p2) = false ∧ p2 < 0) ∨ (0 ≤ p0 ∧ 0 ≤ p1 ∧ 0 ≤ p2 ∧ decide (p0 ≤ 65535) = false ∧ 65535 < p0) ∨
      (0 ≤ p0 ∧ 0 ≤ p1 ∧ 0 ≤ p2 ∧ p0 ≤ 65535 ∧ decide (p1 ≤ 65535) = false ∧ 65535 < p1) ∨ (0 ≤ p0 ∧ 0 ≤ p1 ∧ 0 ≤ p2 ∧ p0 ≤ 65535 ∧ p1 ≤ 65535 ∧ decide (p2 ≤ 65535) = false ∧ 65535 < p2) ∨ (0 ≤ p0 ∧ 0 ≤ p1 ∧ 0 ≤ p2 ∧ p0 ≤ 65535 ∧ p1 ≤ 65535 ∧ p2 ≤ 65535) := by
     simp only [decide_eq_false_iff_not]; omega
    rcases hway with ⟨d1, d0⟩ | ⟨q0, d1, d0⟩ | ⟨q0, q1, d1, d0⟩ | ⟨q0, q1, q2, d1, d0⟩ | ⟨q0, q1, q2, q3, d1, d0⟩ | ⟨q0, q1, q2, q3, q4, d1, d0⟩ | ⟨q0, q1, q2, q3, q4, q5⟩
    rotate_left 6
    ·go_wp2
     go_region
     go_wp2
     refine bodyPost_ret (v := .tuple #[.agg #[.int .i64 p0, .int .i64 p1, .int .i64 p2, .bool vb], .bool true]) (by simp [results, Tryz.results79, go_sem, y0, y1, y2, y3]) rfl ⟨⟨p0, p1, p2, vb, true, rfl, ?_⟩, ?_⟩
     ·have h := HS.out
      rw [if_pos rfl, HE.out, ← h, List.map_cons, List.map_cons, List.map_cons, List.map_nil, elem3_good (by rw [HP0.out, HP1.out, HP2.out]; exact ⟨⟨q0, q1, q2⟩, q3, q4, q5⟩), HP0.out, HP1.out, HP2.out]
     ·(repeat (first | with_reducible exact HB.out | with_reducible refine Below.drew ?_ | with_reducible refine Below.setCell ?_ (by simp) _))
    all_goals
     go_wp2
     go_region
     go_wp2
     refine bodyPost_ret (v := .tuple #[.agg #[.int .i64 p0, .int .i64 p1, .int .i64 p2, .bool vb], .bool false]) (by simp [results, Tryz.results79, go_sem, y0, y1, y2, y3]) rfl ⟨⟨p0, p1, p2, vb, false, rfl, ?_⟩, ?_⟩
     ·have h := HS.out
      have h0 : Tm.elem s.data.toList = none := by
       rw [HE.out, ← h, List.map_cons, List.map_cons, List.map_cons, List.map_nil, elem3_ways (by rw [HP0.out, HP1.out, HP2.out]; omega)]
      simpa using h0
     ·(repeat (first | with_reducible exact HB.out | with_reducible refine Below.drew ?_ | with_reducible refine Below.setCell ?_ (by simp) _))
   ·have HN := hide (Tm.elem3_short (v := vb) (l := Tm.split 46 sv.data.toList) (by rw [← hsp, List.length_map]; exact h3))
    have hl3 : ((bs.length : Int) != 3) = true := by rw [bne_iff_ne]; omega
    have hcap : ∃ a cap, v = .slice a bs.length cap := by
     rcases hown.2 with ⟨rfl, h0⟩ | ⟨g, cap, cur, rfl, _⟩
     ·exact ⟨none, 0, by rw [h0]⟩
     ·exact ⟨_, _, rfl⟩
    obtain ⟨a, cap, rfl⟩ := hcap
    have HE' := hide (HE.out.trans HN.out)
    clear hown hsp HE HN
    go_wp2
    refine bodyPost_ret (v := .tuple #[.agg #[.int .i64 0, .int .i64 0, .int .i64 0, .bool vb], .bool false]) (by simp [results, Tryz.results79, go_sem, y0, y1, y2, y3]) rfl ⟨⟨0, 0, 0, vb, false, rfl, by simpa using HE'.out⟩, ?_⟩
    (repeat (first | with_reducible exact HB.out | with_reducible refine Below.drew ?_ | with_reducible refine Below.setCell ?_ (by simp) _))
end Go.Proofs.YtmnjjjhmnhfapaaGreatDoor
