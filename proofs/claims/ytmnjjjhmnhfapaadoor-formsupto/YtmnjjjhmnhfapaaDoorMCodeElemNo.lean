import Derived.RegionDies
import Derived.Test.YtmnjjjhmnhfapaaDoorMCodeElem
namespace Go.Proofs.YtmnjjjhmnhfapaaDoor
open Go.RowKit

set_option maxRecDepth 100000 in
set_option maxHeartbeats 8000000 in
theorem readElement_none (s : ByteArray) (w : World) (hs : s.size ≤ 8192) (hnone : Tm.elem s.data.toList = none) :
    Calls Tryd.prog 130 #[.string s] w fun e w' => tells e 1 ∧ Below w.heap.size w w' := by
  have hbs := bare_size s
  have HE := hide ((elem_star s).symm.trans hnone)
  clear hnone
  go_enter Tryd.func130, Tryd.ntmps130
  go_wp2_with fail
  refine (CutPrefix_star s _).mono ?_
  rintro e w1 ⟨rfl, rfl⟩
  generalize star s = vb at *
  generalize bare s = sv at *
  go_wp2_with fail
  refine (Split_one sv 46 _ (by omega)).mono ?_
  rintro e w1 ⟨v, bs, rfl, hrd, hsp, hbl, hb⟩
  have HB : Hid (Below w.heap.size w w1) := ((Below.refl _ _).alloc (Nat.le_refl _) _).trans (hb.mono (by simp))
  clear hb
  by_cases h3 : bs.length = 3
  · obtain ⟨b0, b1, b2, rfl⟩ := three_of h3
    obtain ⟨g, off, cap, rfl, hg, c0, c1, c2⟩ := reads3 (by simpa using hrd)
    have hsz := word_sizes hsp (by omega)
    have hs0 := hsz b0 (by simp)
    have hs1 := hsz b1 (by simp)
    have hs2 := hsz b2 (by simp)
    have hE3 : Tm.elem3 vb [b0.data.toList, b1.data.toList, b2.data.toList] = none := by rw [← HE.out, ← hsp]; rfl
    have hway : (numOk 65535 b0.data.toList = false) ∨ (numOk 65535 b0.data.toList = true ∧ numOk 65535 b1.data.toList = false) ∨ (numOk 65535 b0.data.toList = true ∧ numOk 65535 b1.data.toList = true ∧ numOk 65535 b2.data.toList = false) := by
      cases h0 : numOk 65535 b0.data.toList
      · exact .inl rfl
      · cases h1 : numOk 65535 b1.data.toList
        · exact .inr (.inl ⟨rfl, rfl⟩)
        · cases h2 : numOk 65535 b2.data.toList
          · exact .inr (.inr ⟨rfl, rfl, rfl⟩)
          · exfalso
            simp only [numOk, decide_eq_true_eq] at h0 h1 h2
            rw [elem3_good ⟨⟨h0.1, h1.1, h2.1⟩, h0.2, h1.2, h2.2⟩] at hE3
            cases hE3
    have hl3 : (([b0, b1, b2].length : Int) != 3) = false := rfl
    clear hrd hsp hsz h3 hbl hE3 HE
    rcases hway with h0 | ⟨h0, h1⟩ | ⟨h0, h1, h2⟩
    · go_wp2_with fail
      refine (refuse_no 1 _).mono ?_
      rintro e w' ⟨rfl, rfl⟩
      go_wp2_with fail
      go_region_dies
      all_goals (go_at_call_of 119 (Value.string b0); refine (readNumber_no b0 _ _ (by unfold maxLen; omega) h0).mono ?_; rintro e w' ⟨rfl, rfl⟩; exact ⟨rfl, rfl, HB.out.drew⟩)
    · go_wp2_with fail
      refine (refuse_no 1 _).mono ?_
      rintro e w' ⟨rfl, rfl⟩
      go_wp2_with fail
      go_region_dies
      all_goals go_wp2_with (go_at_call_of 119 (Value.string b0); refine (readNumber_yes b0 _ _ (by unfold maxLen; omega) h0).mono ?_; rintro e w' ⟨rfl, rfl⟩)
      all_goals (try (first | (refine wpAny_ready (rs := [7]) (by decide +kernel) (by simp) ?_; refine AllReady.cons rfl (fun K hK => ?_) ?_; go_simp; rotate_left; exact AllReady.nil) | (refine wpAny_ready (rs := [7, 10]) (by decide +kernel) (by simp) ?_; refine AllReady.cons rfl (fun K hK => ?_) ?_; go_simp; rotate_left; refine AllReady.cons rfl (fun K hK => ?_) ?_; go_simp; refine hK _ _ ?_; clear hK K; rotate_left; exact AllReady.nil) | (refine wpAny_ready (rs := [6]) (by decide +kernel) (by simp) ?_; refine AllReady.cons rfl (fun K hK => ?_) ?_; go_simp; refine hK _ _ ?_; clear hK K; rotate_left; exact AllReady.nil) | (refine wpAny_ready (rs := [6, 10]) (by decide +kernel) (by simp) ?_; refine AllReady.cons rfl (fun K hK => ?_) ?_; go_simp; refine hK _ _ ?_; clear hK K; rotate_left; refine AllReady.cons rfl (fun K hK => ?_) ?_; go_simp; refine hK _ _ ?_; clear hK K; rotate_left; exact AllReady.nil)))
      all_goals (try (go_at_call_of 119 (Value.string b1); refine (readNumber_no b1 _ _ (by unfold maxLen; omega) h1).mono ?_; rintro e w' ⟨rfl, rfl⟩; exact ⟨rfl, rfl, HB.out.drew⟩))
      all_goals (try (first | (refine wpAny_ready (rs := [7]) (by decide +kernel) (by simp) ?_; refine AllReady.cons rfl (fun K hK => ?_) ?_; go_simp; rotate_left; exact AllReady.nil) | (refine wpAny_ready (rs := [7, 10]) (by decide +kernel) (by simp) ?_; refine AllReady.cons rfl (fun K hK => ?_) ?_; go_simp; rotate_left; refine AllReady.cons rfl (fun K hK => ?_) ?_; go_simp; refine hK _ _ ?_; clear hK K; rotate_left; exact AllReady.nil) | (refine wpAny_ready (rs := [6]) (by decide +kernel) (by simp) ?_; refine AllReady.cons rfl (fun K hK => ?_) ?_; go_simp; refine hK _ _ ?_; clear hK K; rotate_left; exact AllReady.nil) | (refine wpAny_ready (rs := [6, 10]) (by decide +kernel) (by simp) ?_; refine AllReady.cons rfl (fun K hK => ?_) ?_; go_simp; refine hK _ _ ?_; clear hK K; rotate_left; refine AllReady.cons rfl (fun K hK => ?_) ?_; go_simp; refine hK _ _ ?_; clear hK K; rotate_left; exact AllReady.nil)))
      all_goals (try (go_at_call_of 119 (Value.string b1); refine (readNumber_no b1 _ _ (by unfold maxLen; omega) h1).mono ?_; rintro e w' ⟨rfl, rfl⟩; exact ⟨rfl, rfl, HB.out.drew⟩))
      all_goals (try (first | (refine wpAny_ready (rs := [7]) (by decide +kernel) (by simp) ?_; refine AllReady.cons rfl (fun K hK => ?_) ?_; go_simp; rotate_left; exact AllReady.nil) | (refine wpAny_ready (rs := [7, 10]) (by decide +kernel) (by simp) ?_; refine AllReady.cons rfl (fun K hK => ?_) ?_; go_simp; rotate_left; refine AllReady.cons rfl (fun K hK => ?_) ?_; go_simp; refine hK _ _ ?_; clear hK K; rotate_left; exact AllReady.nil) | (refine wpAny_ready (rs := [6]) (by decide +kernel) (by simp) ?_; refine AllReady.cons rfl (fun K hK => ?_) ?_; go_simp; refine hK _ _ ?_; clear hK K; rotate_left; exact AllReady.nil) | (refine wpAny_ready (rs := [6, 10]) (by decide +kernel) (by simp) ?_; refine AllReady.cons rfl (fun K hK => ?_) ?_; go_simp; refine hK _ _ ?_; clear hK K; rotate_left; refine AllReady.cons rfl (fun K hK => ?_) ?_; go_simp; refine hK _ _ ?_; clear hK K; rotate_left; exact AllReady.nil)))
      all_goals (try (go_at_call_of 119 (Value.string b1); refine (readNumber_no b1 _ _ (by unfold maxLen; omega) h1).mono ?_; rintro e w' ⟨rfl, rfl⟩; exact ⟨rfl, rfl, HB.out.drew⟩))
    · go_wp2_with fail
      refine (refuse_no 1 _).mono ?_
      rintro e w' ⟨rfl, rfl⟩
      go_wp2_with fail
      go_region_dies
      all_goals go_wp2_with (go_at_call_of 119 (Value.string b0); refine (readNumber_yes b0 _ _ (by unfold maxLen; omega) h0).mono ?_; rintro e w' ⟨rfl, rfl⟩)
      all_goals (try (first | (refine wpAny_ready (rs := [11]) (by decide +kernel) (by simp) ?_; refine AllReady.cons rfl (fun K hK => ?_) ?_; go_simp; rotate_left; exact AllReady.nil) | (refine wpAny_ready (rs := [10]) (by decide +kernel) (by simp) ?_; refine AllReady.cons rfl (fun K hK => ?_) ?_; go_simp; refine hK _ _ ?_; clear hK K; rotate_left; exact AllReady.nil) | (refine wpAny_ready (rs := [7]) (by decide +kernel) (by simp) ?_; refine AllReady.cons rfl (fun K hK => ?_) ?_; go_simp; rotate_left; exact AllReady.nil) | (refine wpAny_ready (rs := [7, 10]) (by decide +kernel) (by simp) ?_; refine AllReady.cons rfl (fun K hK => ?_) ?_; go_simp; rotate_left; refine AllReady.cons rfl (fun K hK => ?_) ?_; go_simp; refine hK _ _ ?_; clear hK K; rotate_left; exact AllReady.nil) | (refine wpAny_ready (rs := [6]) (by decide +kernel) (by simp) ?_; refine AllReady.cons rfl (fun K hK => ?_) ?_; go_simp; refine hK _ _ ?_; clear hK K; rotate_left; exact AllReady.nil) | (refine wpAny_ready (rs := [6, 10]) (by decide +kernel) (by simp) ?_; refine AllReady.cons rfl (fun K hK => ?_) ?_; go_simp; refine hK _ _ ?_; clear hK K; rotate_left; refine AllReady.cons rfl (fun K hK => ?_) ?_; go_simp; refine hK _ _ ?_; clear hK K; rotate_left; exact AllReady.nil)))
      all_goals (try (go_at_call_of 119 (Value.string b2); refine (readNumber_no b2 _ _ (by unfold maxLen; omega) h2).mono ?_; rintro e w' ⟨rfl, rfl⟩; exact ⟨rfl, rfl, HB.out.drew⟩))
      all_goals (try (go_wp2_with (go_at_call_of 119 (Value.string b1); refine (readNumber_yes b1 _ _ (by unfold maxLen; omega) h1).mono ?_; rintro e w' ⟨rfl, rfl⟩)))
      all_goals (try (first | (refine wpAny_ready (rs := [11]) (by decide +kernel) (by simp) ?_; refine AllReady.cons rfl (fun K hK => ?_) ?_; go_simp; rotate_left; exact AllReady.nil) | (refine wpAny_ready (rs := [10]) (by decide +kernel) (by simp) ?_; refine AllReady.cons rfl (fun K hK => ?_) ?_; go_simp; refine hK _ _ ?_; clear hK K; rotate_left; exact AllReady.nil) | (refine wpAny_ready (rs := [7]) (by decide +kernel) (by simp) ?_; refine AllReady.cons rfl (fun K hK => ?_) ?_; go_simp; rotate_left; exact AllReady.nil) | (refine wpAny_ready (rs := [7, 10]) (by decide +kernel) (by simp) ?_; refine AllReady.cons rfl (fun K hK => ?_) ?_; go_simp; rotate_left; refine AllReady.cons rfl (fun K hK => ?_) ?_; go_simp; refine hK _ _ ?_; clear hK K; rotate_left; exact AllReady.nil) | (refine wpAny_ready (rs := [6]) (by decide +kernel) (by simp) ?_; refine AllReady.cons rfl (fun K hK => ?_) ?_; go_simp; refine hK _ _ ?_; clear hK K; rotate_left; exact AllReady.nil) | (refine wpAny_ready (rs := [6, 10]) (by decide +kernel) (by simp) ?_; refine AllReady.cons rfl (fun K hK => ?_) ?_; go_simp; refine hK _ _ ?_; clear hK K; rotate_left; refine AllReady.cons rfl (fun K hK => ?_) ?_; go_simp; refine hK _ _ ?_; clear hK K; rotate_left; exact AllReady.nil)))
      all_goals (try (go_at_call_of 119 (Value.string b2); refine (readNumber_no b2 _ _ (by unfold maxLen; omega) h2).mono ?_; rintro e w' ⟨rfl, rfl⟩; exact ⟨rfl, rfl, HB.out.drew⟩))
      all_goals (try (go_wp2_with (go_at_call_of 119 (Value.string b1); refine (readNumber_yes b1 _ _ (by unfold maxLen; omega) h1).mono ?_; rintro e w' ⟨rfl, rfl⟩)))
      all_goals (try (first | (refine wpAny_ready (rs := [11]) (by decide +kernel) (by simp) ?_; refine AllReady.cons rfl (fun K hK => ?_) ?_; go_simp; rotate_left; exact AllReady.nil) | (refine wpAny_ready (rs := [10]) (by decide +kernel) (by simp) ?_; refine AllReady.cons rfl (fun K hK => ?_) ?_; go_simp; refine hK _ _ ?_; clear hK K; rotate_left; exact AllReady.nil) | (refine wpAny_ready (rs := [7]) (by decide +kernel) (by simp) ?_; refine AllReady.cons rfl (fun K hK => ?_) ?_; go_simp; rotate_left; exact AllReady.nil) | (refine wpAny_ready (rs := [7, 10]) (by decide +kernel) (by simp) ?_; refine AllReady.cons rfl (fun K hK => ?_) ?_; go_simp; rotate_left; refine AllReady.cons rfl (fun K hK => ?_) ?_; go_simp; refine hK _ _ ?_; clear hK K; rotate_left; exact AllReady.nil) | (refine wpAny_ready (rs := [6]) (by decide +kernel) (by simp) ?_; refine AllReady.cons rfl (fun K hK => ?_) ?_; go_simp; refine hK _ _ ?_; clear hK K; rotate_left; exact AllReady.nil) | (refine wpAny_ready (rs := [6, 10]) (by decide +kernel) (by simp) ?_; refine AllReady.cons rfl (fun K hK => ?_) ?_; go_simp; refine hK _ _ ?_; clear hK K; rotate_left; refine AllReady.cons rfl (fun K hK => ?_) ?_; go_simp; refine hK _ _ ?_; clear hK K; rotate_left; exact AllReady.nil)))
      all_goals (try (go_at_call_of 119 (Value.string b2); refine (readNumber_no b2 _ _ (by unfold maxLen; omega) h2).mono ?_; rintro e w' ⟨rfl, rfl⟩; exact ⟨rfl, rfl, HB.out.drew⟩))
      all_goals (try (go_wp2_with (go_at_call_of 119 (Value.string b1); refine (readNumber_yes b1 _ _ (by unfold maxLen; omega) h1).mono ?_; rintro e w' ⟨rfl, rfl⟩)))
      all_goals (try (first | (refine wpAny_ready (rs := [11]) (by decide +kernel) (by simp) ?_; refine AllReady.cons rfl (fun K hK => ?_) ?_; go_simp; rotate_left; exact AllReady.nil) | (refine wpAny_ready (rs := [10]) (by decide +kernel) (by simp) ?_; refine AllReady.cons rfl (fun K hK => ?_) ?_; go_simp; refine hK _ _ ?_; clear hK K; rotate_left; exact AllReady.nil) | (refine wpAny_ready (rs := [7]) (by decide +kernel) (by simp) ?_; refine AllReady.cons rfl (fun K hK => ?_) ?_; go_simp; rotate_left; exact AllReady.nil) | (refine wpAny_ready (rs := [7, 10]) (by decide +kernel) (by simp) ?_; refine AllReady.cons rfl (fun K hK => ?_) ?_; go_simp; rotate_left; refine AllReady.cons rfl (fun K hK => ?_) ?_; go_simp; refine hK _ _ ?_; clear hK K; rotate_left; exact AllReady.nil) | (refine wpAny_ready (rs := [6]) (by decide +kernel) (by simp) ?_; refine AllReady.cons rfl (fun K hK => ?_) ?_; go_simp; refine hK _ _ ?_; clear hK K; rotate_left; exact AllReady.nil) | (refine wpAny_ready (rs := [6, 10]) (by decide +kernel) (by simp) ?_; refine AllReady.cons rfl (fun K hK => ?_) ?_; go_simp; refine hK _ _ ?_; clear hK K; rotate_left; refine AllReady.cons rfl (fun K hK => ?_) ?_; go_simp; refine hK _ _ ?_; clear hK K; rotate_left; exact AllReady.nil)))
      all_goals (try (go_at_call_of 119 (Value.string b2); refine (readNumber_no b2 _ _ (by unfold maxLen; omega) h2).mono ?_; rintro e w' ⟨rfl, rfl⟩; exact ⟨rfl, rfl, HB.out.drew⟩))
      all_goals (try (go_wp2_with (go_at_call_of 119 (Value.string b1); refine (readNumber_yes b1 _ _ (by unfold maxLen; omega) h1).mono ?_; rintro e w' ⟨rfl, rfl⟩)))
  · have hl3 : ((bs.length : Int) != 3) = true := by rw [bne_iff_ne]; omega
    obtain ⟨a, cap, rfl⟩ := hrd.shape
    clear hrd hsp hbl HE
    go_wp2_with fail
    refine (refuse_yes 1 _).mono ?_
    rintro e w' ⟨rfl, rfl⟩
    go_wp2
    exact ⟨rfl, rfl, HB.out⟩
end Go.Proofs.YtmnjjjhmnhfapaaDoor
