import Derived.Test.YtmnjjjhmnhfapaaGreatDoorMCodeParts
namespace Go.Proofs.YtmnjjjhmnhfapaaGreatDoor
open Go.RowKit
theorem owns_ints {w : World} {base g n cap : Nat} {xs : List Int} (h : w.ownsRow base 3 1 (.slice (some ⟨g, 0, none⟩) n cap) n (ints xs)) : Ints w g 0 xs := by
 intro j x hj
 rcases h.2 with ⟨he, _⟩ | ⟨g', cap', cur, he, hb, hg, h1, h2, h3, h4⟩
 ·cases he
 ·cases he
  have hx : (ints xs)[j]? = some (.int .i64 x) := by simp [ints, hj]
  have hlen := h.1
  have hjl : j < n * 1 := by
   have := (List.getElem?_eq_some_iff.1 hx).1
   omega
  have hc : cur[j]? = some (.int .i64 x) := by
   rw [← h4, List.getElem?_take, if_pos (by omega)] at hx
   simpa using hx
  constructor
  ·rw [cell_of_row _ _ _ cur _ (0, 0) hg]; simpa using hc
  ·simp [World.frozen?, hg]
theorem owns_turned {w w' : World} {base g n cap off k : Nat} {xs ys : List Int} (h : w.ownsRow base 3 1 (.slice (some ⟨g, 0, none⟩) n cap) n (ints xs)) (ht : Turn g off k w w') (hi : Ints w' g 0 ys) (hl : ys.length = xs.length) : w'.ownsRow base 3 1 (.slice (some ⟨g, 0, none⟩) n cap) n (ints ys) := by
 have hlen := h.1
 refine ⟨by rw [ints_length] at hlen ⊢; omega, ?_⟩
 rcases h.2 with ⟨he, _⟩ | ⟨g', cap', cur, he, hb, hg, h1, h2, h3, h4⟩
 ·cases he
 ·cases he
  obtain ⟨cur', c1, c2, _⟩ := ht.cells cur _ _ hg
  refine .inr ⟨g, cap, cur', rfl, hb, c1, h1, h2, by rw [c2]; exact h3, ?_⟩
  apply List.ext_getElem?
  intro j
  rw [List.getElem?_take]
  split
  ·rename_i hj
   have hjy : j < ys.length := by rw [ints_length] at hlen; omega
   have hc := (hi.at hjy).1
   rw [cell_of_row _ _ _ cur' _ (0, 0) c1] at hc
   rw [ints_get hjy]
   simpa using hc
  ·rename_i hj
   rw [List.getElem?_eq_none (by rw [ints_length] at hlen ⊢; omega)]
theorem Ints.sub {w : World} {g : Nat} {p s r : List Int} (h : Ints w g 0 (p ++ s ++ r)) : Ints w g p.length s := by
 intro j x hj
 have hjl := (List.getElem?_eq_some_iff.1 hj).1
 have := h (p.length + j) x (by rw [List.append_assoc, List.getElem?_append_right (by omega), List.getElem?_append_left (by omega)]; rw [show p.length + j - p.length = j from by omega]; exact hj)
 rw [Nat.zero_add] at this
 exact this
theorem Ints.splice {w w' : World} {g : Nat} {p s s' r : List Int} {cur : Array Value} {e : TypeId} (hg : w.heap[g]? = some (.cells cur e (0, 0))) (h : Ints w g 0 (p ++ s ++ r)) (ht : Turn g p.length s.length w w') (hs : Ints w' g p.length s') (hl : s'.length = s.length) : Ints w' g 0 (p ++ s' ++ r) := by
 obtain ⟨cur', c1, c2, c3⟩ := ht.cells cur _ _ hg
 intro j x hj
 have hfz : w'.frozen? ⟨g, 0 + j, none⟩ = false := by simp [World.frozen?, c1]
 refine ⟨?_, hfz⟩
 by_cases h1 : j < p.length
 ·rw [List.append_assoc, List.getElem?_append_left h1] at hj
  have h0 := (h j x (by rw [List.append_assoc, List.getElem?_append_left h1]; exact hj)).1
  rw [cell_of_row _ _ _ cur _ (0, 0) hg] at h0
  rw [cell_of_row _ _ _ cur' _ (0, 0) c1, c3 _ (by omega)]
  exact h0
 ·by_cases h2 : j < p.length + s.length
  ·rw [List.append_assoc, List.getElem?_append_right (by omega), List.getElem?_append_left (by omega)] at hj
   have h0 := (hs (j - p.length) x hj).1
   rw [show p.length + (j - p.length) = 0 + j from by omega] at h0
   exact h0
  ·rw [List.getElem?_append_right (by simp; omega)] at hj
   have h0 := (h j x (by rw [List.getElem?_append_right (by simp; omega)]; rw [← hj]; simp [hl])).1
   rw [cell_of_row _ _ _ cur _ (0, 0) hg] at h0
   rw [cell_of_row _ _ _ cur' _ (0, 0) c1, c3 _ (by omega)]
   exact h0
theorem owns_obj {w : World} {base g n cap : Nat} {xs : List Value} (h : w.ownsRow base 3 1 (.slice (some ⟨g, 0, none⟩) n cap) n xs) : base ≤ g ∧ n ≤ cap ∧ cap ≤ maxLen ∧ ∃ cur, w.heap[g]? = some (.cells cur 3 (0, 0)) := by
 rcases h.2 with ⟨he, _⟩ | ⟨g', cap', cur, he, hb, hg, h1, h2, _⟩
 ·cases he
 ·cases he; exact ⟨hb, h1, h2, cur, hg⟩
theorem sort_seg (lns : List Tm.Ln) (bm base g n cap cap' : Nat) (p b c : List Int) (w : World) {F K : Nat} (hF : F = p.length) (hK : K = b.length) (hown : w.ownsRow base 3 1 (.slice (some ⟨g, 0, none⟩) n cap) n (ints (p ++ b ++ c))) (hm : ∀ x ∈ b, Tm.classOf lns x ≠ 0) (hR : ∀ x ∈ b, 0 ≤ x ∧ x ≤ 1114111) (hN : NB lns bm base w) (hlen : n ≤ 100000) :
  Calls Tryz.prog 165 #[.slice (some ⟨g, F, none⟩) K cap', byClassFn bm] w fun e w' => e = .returned (.tuple #[]) ∧ w'.ownsRow base 3 1 (.slice (some ⟨g, 0, none⟩) n cap) n (ints (p ++ Tm.ord (Tm.classOf lns) b ++ c)) ∧ Below base w w' := by
 subst hF hK
 obtain ⟨hbg, hnc, hcm, cur, hcur⟩ := owns_obj hown
 have hl := hown.1
 rw [ints_length] at hl
 have hbl : b.length ≤ 100000 := by simp at hl; omega
 have hC : Cmp lns bm g w := by
  obtain ⟨w0, h1, h2, h3⟩ := hN.base
  exact ⟨w0, h1, h2, by omega⟩
 refine (SortStableFunc_any lns bm b g p.length b.length cap' w rfl hbl hR (owns_ints hown).sub hC).mono ?_
 rintro e w' ⟨rfl, ⟨s, hso, hI⟩, hT⟩
 have hs := hso.ord_eq hm
 subst hs
 have hsl : (Tm.ord (Tm.classOf lns) b).length = b.length := Tm.ord_length _ _
 have hI2 := Ints.splice hcur (owns_ints hown) hT hI hsl
 exact ⟨rfl, owns_turned hown hT hI2 (by simp [hsl]), hT.below (Below.refl _ _) hbg⟩
set_option maxRecDepth 100000 in
set_option maxHeartbeats 4000000 in
theorem arrange_any (lns : List Tm.Ln) (hfit : ∀ o ∈ lns, Tm.Fit o) (bm base g cap : Nat) (xs : List Int) (w : World) (hR : ∀ x ∈ xs, 0 ≤ x ∧ x ≤ 1114111) (hN : NB lns bm base w) (hown : w.ownsRow base 3 1 (.slice (some ⟨g, 0, none⟩) xs.length cap) xs.length (ints xs)) (hbase : base ≤ w.heap.size) (hlen : xs.length ≤ 100000) :
  Calls Tryz.prog 130 #[.map (some bm), .slice (some ⟨g, 0, none⟩) xs.length cap] w fun e w' => e = .returned (.tuple #[]) ∧ w'.ownsRow base 3 1 (.slice (some ⟨g, 0, none⟩) xs.length cap) xs.length (ints (Tm.ord (Tm.classOf lns) xs)) ∧ Below base w w' := by
 have hmf : ∀ (fn : Fn) (first cap : Array Value) (w : World), (Instr.makeFunc fn first cap).run Tryz.prog w = .ok (.func fn first cap) w := fun _ _ _ _ => rfl
 obtain ⟨hbg, hnc, hcm, _⟩ := owns_obj hown
 unfold maxLen at hcm
 have hf1 := field_rank
 have HR := hide hR
 have HN := hide hN
 have HOWN := hide hown
 have HKN := hide (Tm.classOf_nonneg hfit)
 obtain ⟨n, hn⟩ : ∃ n, xs.length = n := ⟨_, rfl⟩
 rw [hn] at HOWN hnc hlen
 rw [hn]
 have HXN := hide hn
 have HBC : Hid (byClassFn bm = .func (.func 166) #[.map (some bm)] #[]) := rfl
 clear hR hN hown hn
 go_enter Tryz.func130, Tryz.ntmps130
 go_wp2
 go_loopw [4, 9] (fun vf vi wr => ∃ (a b c : List Int) (fi ii : Nat), vf = .int .i64 (fi : Int) ∧ vi = .int .i64 (ii : Int) ∧ a.length = fi ∧ fi + b.length = ii ∧ xs = a ++ b ++ c ∧ (∀ x ∈ b, Tm.classOf lns x ≠ 0) ∧ (∀ q, Tm.ord (Tm.classOf lns) (a ++ q) = Tm.ord (Tm.classOf lns) a ++ Tm.ord (Tm.classOf lns) q) ∧ wr.ownsRow base 3 1 (.slice (some ⟨g, 0, none⟩) n cap) n (ints (Tm.ord (Tm.classOf lns) a ++ b ++ c)) ∧ Below base w wr) (fun _ vi _ => n - (intOf vi).toNat)
 case atStart => exact ⟨[], [], xs, 0, 0, rfl, rfl, rfl, rfl, rfl, by simp, fun q => rfl, HOWN.out, Below.refl _ _⟩
 case round =>
  obtain ⟨a, b, c, fi, ii, rfl, rfl, hfi, hii, hx, hbm, hord, hown2, hb2⟩ := hrel
  have HX := hide hx
  have HBM := hide hbm
  have HORD := hide hord
  have HO2 := hide hown2
  have HB2 := hide hb2
  have HFI := hide hfi
  have hz2 := hb2.size
  have hnl : ii + c.length = n := by have h := HXN.out; rw [hx] at h; simp at h; omega
  have hal : (Tm.ord (Tm.classOf lns) a).length = fi := by rw [Tm.ord_length, hfi]
  have HAL := hide hal
  clear hx hbm hord hown2 hb2 hfi hal
  cases c with
  | nil =>
   have hin : ii = n := by simpa using hnl
   have hbb : Tm.ord (Tm.classOf lns) xs = Tm.ord (Tm.classOf lns) a ++ Tm.ord (Tm.classOf lns) b := by rw [HX.out, List.append_nil]; exact HORD.out b
   have HBB := hide hbb
   have hd : decide ((ii : Int) < (n : Int)) = false := by simp <;> omega
   clear hbb
   by_cases hcf : cap = fi
   ·have hb0 : b = [] := List.eq_nil_of_length_eq_zero (by omega)
    subst hb0
    have hfn : fi = n := by simp at hii; omega
    have HF : Hid (wr.ownsRow base 3 1 (.slice (some ⟨g, 0, none⟩) n cap) n (ints (Tm.ord (Tm.classOf lns) xs))) := by unfold Hid; rw [HBB.out]; have h := HO2.out; simpa [Tm.ord] using h
    go_wp2_with fail
    refine (SortStableFunc_none _ _ _ _).mono ?_
    rintro e w3 ⟨rfl, rfl⟩
    go_wp2
    go_end0
    exact ⟨rfl, HF.out, HB2.out⟩
   ·have hfc : fi ≤ cap := by omega
    have HCALL := hide (sort_seg lns bm base g n cap (cap - fi) (Tm.ord (Tm.classOf lns) a) b [] wr (F := fi) (K := n - fi) HAL.out.symm (by omega) HO2.out HBM.out (fun x hx => HR.out x (by rw [HX.out]; simp [hx])) (HN.out.below HB2.out) hlen)
    rw [HBC.out] at HCALL
    go_wp2_with fail
    refine HCALL.out.mono ?_
    rintro e w3 ⟨rfl, hown3, hb3⟩
    have HF : Hid (w3.ownsRow base 3 1 (.slice (some ⟨g, 0, none⟩) n cap) n (ints (Tm.ord (Tm.classOf lns) xs))) := by unfold Hid; rw [HBB.out]; have h := hown3; rw [List.append_nil] at h; exact h
    have HBF : Hid (Below base w w3) := HB2.out.trans hb3
    clear hown3 hb3
    go_wp2
    go_end0
    exact ⟨rfl, HF.out, HBF.out⟩
  | cons x c =>
   have hd : decide ((ii : Int) < (n : Int)) = true := by simp at hnl; simp <;> omega
   have hxr := HR.out x (by rw [HX.out]; simp)
   have hmi : (Tm.ord (Tm.classOf lns) a ++ b).length = ii := by have := HAL.out; simp; omega
   have cx := (owns_ints HO2.out) ii x (get_mid (a := Tm.ord (Tm.classOf lns) a ++ b) (c := c) hmi.symm)
   rw [Nat.zero_add] at cx
   obtain ⟨cx, _⟩ := cx
   have hil : (ii : Int) < (n : Int) := by simpa using hd
   obtain ⟨w0, hw1, hw2, hw3⟩ := (HN.out.below HB2.out).base
   obtain ⟨f, vp, vs, hmap, hfv, _, _⟩ := (hw1.below hw2).at hxr.1
   have HMAP := hide hmap
   clear hmap hw1 hw2 hmi
   go_wp2_with (at_lookup; go_must (refine wpList_look rfl _ _ rfl bm lns.length f rfl HMAP.out x rfl (wf_rune hxr) _ hfv ?_))
   refine (isMark_any _ _).mono ?_
   rintro e w2 ⟨rfl, hb3⟩
   have HB3 : Hid (Below base w w2) := HB2.out.trans (hb3.mono (by omega))
   have HO3 := hide (owns_below HO2.out hb3)
   have hz3 := hb3.size
   clear hb3
   cases hcl : (Tm.classOf lns x != 0)
   ·have h0 : Tm.classOf lns x = 0 := by simpa using hcl
    have hcf : ¬ cap = fi := by omega
    have hfi2 : fi ≤ ii := by omega
    have HCALL := hide (sort_seg lns bm base g n cap (cap - fi) (Tm.ord (Tm.classOf lns) a) b (x :: c) w2 (F := fi) (K := ii - fi) HAL.out.symm (by omega) HO3.out HBM.out (fun y hy => HR.out y (by rw [HX.out]; simp [hy])) (HN.out.below HB3.out) hlen)
    rw [HBC.out] at HCALL
    have HST := hide (fun q => Tm.ord_stop HKN.out h0 b q)
    have HA2 : Hid (Tm.ord (Tm.classOf lns) (a ++ b ++ [x]) = Tm.ord (Tm.classOf lns) a ++ Tm.ord (Tm.classOf lns) b ++ [x]) := by
     unfold Hid
     have h := HST.out []
     rw [List.append_assoc, HORD.out, h]
     simp [Tm.ord, List.append_assoc]
    have HORD2 : Hid (∀ q, Tm.ord (Tm.classOf lns) ((a ++ b ++ [x]) ++ q) = Tm.ord (Tm.classOf lns) (a ++ b ++ [x]) ++ Tm.ord (Tm.classOf lns) q) := fun q => by
     have h := HST.out q
     rw [HA2.out, show a ++ b ++ [x] ++ q = a ++ (b ++ x :: q) from by simp, HORD.out, h]
     simp [List.append_assoc]
    clear hcl h0
    go_wp2_with fail
    refine HCALL.out.mono ?_
    rintro e w3 ⟨rfl, hown3, hb3⟩
    have HO4 : Hid (w3.ownsRow base 3 1 (.slice (some ⟨g, 0, none⟩) n cap) n (ints (Tm.ord (Tm.classOf lns) (a ++ b ++ [x]) ++ [] ++ c))) := by unfold Hid; rw [HA2.out]; have h := hown3; simpa [List.append_assoc] using h
    have HB4 : Hid (Below base w w3) := HB3.out.trans hb3
    clear hown3 hb3
    go_wp2
    go_roundw
    case rel => exact ⟨a ++ b ++ [x], [], c, ii + 1, ii + 1, by go_num, by go_num, by have := HFI.out; simp; omega, rfl, by rw [HX.out]; simp, by simp, HORD2.out, HO4.out, HB4.out⟩
    case measure => simp [intOf] <;> omega
   ·have HBM2 : Hid (∀ y ∈ b ++ [x], Tm.classOf lns y ≠ 0) := fun y hy => by
     rcases List.mem_append.1 hy with h | h
     ·exact HBM.out y h
     ·simp at h; subst h; simpa using hcl
    have HO4 : Hid (w2.ownsRow base 3 1 (.slice (some ⟨g, 0, none⟩) n cap) n (ints (Tm.ord (Tm.classOf lns) a ++ (b ++ [x]) ++ c))) := by have h := HO3.out; unfold Hid; simpa [List.append_assoc] using h
    clear hcl
    go_wp2
    go_roundw
    case rel => exact ⟨a, b ++ [x], c, fi, ii + 1, rfl, by go_num, HFI.out, by simp; omega, by rw [HX.out]; simp, HBM2.out, HORD.out, HO4.out, HB3.out⟩
    case measure => simp [intOf] <;> omega
set_option maxRecDepth 100000 in
theorem arrange_none (bm : Nat) (w : World) : Calls Tryz.prog 130 #[.map (some bm), .slice none 0 0] w fun e w' => e = .returned (.tuple #[]) ∧ w' = w := by
 have hmf : ∀ (fn : Fn) (first cap : Array Value) (w : World), (Instr.makeFunc fn first cap).run Tryz.prog w = .ok (.func fn first cap) w := fun _ _ _ _ => rfl
 go_enter Tryz.func130, Tryz.ntmps130
 go_wp2
 go_loopw [4, 9] (fun vf vi wr => vf = .int .i64 0 ∧ vi = .int .i64 0 ∧ wr = w) (fun _ _ _ => 0)
 case atStart => exact ⟨rfl, rfl, rfl⟩
 case round =>
  obtain ⟨rfl, rfl, rfl⟩ := hrel
  go_wp2_with fail
  refine (SortStableFunc_none _ _ _ _).mono ?_
  rintro e w3 ⟨rfl, rfl⟩
  go_wp2
  go_end0
  exact ⟨rfl, rfl⟩
end Go.Proofs.YtmnjjjhmnhfapaaGreatDoor
