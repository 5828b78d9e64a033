import Derived.Test.YthaecjhnlpbfnaaDoorTableRd
namespace Go.Proofs.YthaecjhnlpbfnaaDoor
open Go.RowKit

theorem parts_none {lns : List Tm.Ln} {r : Int} (h : lns.find? (Tm.isParts r) = none) : Tm.parts lns r = [] := by unfold Tm.parts; rw [h]
theorem parts_some {lns : List Tm.Ln} {r : Int} {o : Tm.Ln} (h : lns.find? (Tm.isParts r) = some o) : Tm.parts lns r = o.runes.tail := by unfold Tm.parts; rw [h]
theorem find_step {α : Type} {l : List α} {p : α → Bool} {k : Nat} (h : ∀ j (_ : j < k) (hj : j < l.length), p l[j] = false) (hk : k < l.length) (hx : p l[k] = false) : ∀ j (_ : j < k + 1) (hj : j < l.length), p l[j] = false := by
  intro j hj hl
  by_cases e : j = k
  · subst e; exact hx
  · exact h j (by omega) hl
theorem find_none {α : Type} {l : List α} {p : α → Bool} {k : Nat} (h : ∀ j (_ : j < k) (hj : j < l.length), p l[j] = false) (hk : l.length ≤ k) : l.find? p = none := by
  rw [List.find?_eq_none]
  intro x hx
  obtain ⟨j, hj, rfl⟩ := List.getElem_of_mem hx
  simp [h j (by omega) hj]
theorem find_hit {α : Type} {l : List α} {p : α → Bool} {k : Nat} (h : ∀ j (_ : j < k) (hj : j < l.length), p l[j] = false) (hk : k < l.length) (hx : p l[k] = true) : l.find? p = some l[k] := by
  rw [List.find?_eq_some_iff_getElem]
  exact ⟨hx, k, hk, rfl, fun j hj => by simp [h j hj (by omega)]⟩

set_option maxRecDepth 100000 in
set_option maxHeartbeats 1000000 in
theorem Parts_any (vl : Value) (st : Int) (sh : Bool) (r : Int) (lns : List Tm.Ln) (w : World) (ht : TableRd w vl lns) (hne : ∀ o ∈ lns, o.runes ≠ []) (hl : lns.length ≤ 1000000) :
    Calls Tryd.prog 72 #[.agg #[vl, .int .i64 st, .bool sh], .int .i64 r] w fun e w' => ∃ v, e = .returned v ∧ Reads w v 1 (Tm.parts lns r).length (ints (Tm.parts lns r)) ∧ Below w.heap.size w w' := by
  obtain ⟨a, cap, rfl⟩ := ht.shape
  have HT := hide ht
  have HNE := hide hne
  clear ht hne
  go_enter Tryd.func72, Tryd.ntmps72
  go_wp2
  go_loop [5] (fun i => ∃ k : Nat, k ≤ lns.length ∧ i = .int .i64 k ∧ ∀ j (_ : j < k) (hj : j < lns.length), Tm.isParts r lns[j] = false) (fun i => lns.length - (intOf i).toNat)
  case atStart => exact ⟨0, Nat.zero_le _, rfl, fun j hj => by omega⟩
  case round =>
    obtain ⟨k, hk, rfl, hno⟩ := hrel
    by_cases hlt : k < lns.length
    · obtain ⟨g, off, kb, vr, ve, rfl, hg, c0, c1, c2, c3, hkb, hr, he⟩ := HT.out.at hlt
      have hpos : 0 < lns[k].runes.length := List.length_pos_iff.2 (HNE.out _ (List.getElem_mem hlt))
      obtain ⟨ar, capr, rfl⟩ := hr.shape
      have hfit := hr.fits
      obtain ⟨gr, offr, rfl, hgr, cr⟩ := hr.at hpos
      have HR := hide (hr.tail hpos)
      have hip : Tm.isParts r lns[k] = ((kb.toList == [100]) && (lns[k].runes[0] == r)) := by
        unfold Tm.isParts
        rw [← hkb, ByteArray.toList_eq]
        congr 1
        · rw [Bool.eq_iff_iff]; simp
        · simp [hpos]
      have HS : Hid (Tm.isParts r lns[k] = false → ∀ j (_ : j < k + 1) (hj : j < lns.length), Tm.isParts r lns[j] = false) := fun hx => find_step hno hlt hx
      have HY : Hid (Tm.isParts r lns[k] = true → Tm.parts lns r = lns[k].runes.tail) := fun hx => parts_some (find_hit hno hlt hx)
      rw [hip] at HS HY
      have g1 : ¬ g = w.heap.size := by omega
      have g2 : ¬ gr = w.heap.size := by omega
      have hc1 : 1 ≤ capr := by omega
      have hc2 : capr ≤ 9223372036854775807 := by have := hfit.2.2; unfold maxLen at this; omega
      have hc3 := hfit.2.1
      generalize lns[k].runes[0] = x0 at *
      generalize hln : lns[k].runes.length = ln at *
      have HLN := hide hln
      clear hno hr he hkb hip hln hfit
      simp only [Nat.add_zero] at cr
      cases hk1 : (kb.toList == [100])
      · have HS' := hide (HS.out (by rw [hk1]; rfl))
        go_wp2
        go_round
        case rel => exact ⟨k + 1, by omega, by go_num, HS'.out⟩
        case measure => simp [intOf]; omega
      · cases hk2 : (x0 == r)
        · have HS' := hide (HS.out (by rw [hk1, hk2]; rfl))
          go_wp2
          go_round
          case rel => exact ⟨k + 1, by omega, by go_num, HS'.out⟩
          case measure => simp [intOf]; omega
        · have HY' := hide (HY.out (by rw [hk1, hk2]; rfl))
          by_cases hcap1 : capr = 1
          · subst hcap1
            have hl1 : ln = 1 := by omega
            subst hl1
            go_wp2
            go_ret
            refine ⟨.slice (some ⟨gr, offr, none⟩) 0 0, rfl, ?_, (Below.refl _ _).alloc (Nat.le_refl _) _⟩
            have h0 : lns[k].runes.tail = [] := List.eq_nil_of_length_eq_zero (by rw [List.length_tail, HLN.out])
            rw [HY'.out, h0]
            exact ⟨rfl, fun g' hg' => by simp [Value.ownBlock] at hg'; omega, _, 0, rfl, ⟨Nat.le_refl _, Nat.zero_le _⟩, by simp [ints]⟩
          · go_wp2
            go_ret
            refine ⟨.slice (some ⟨gr, offr + 1, none⟩) (ln - 1) (capr - 1), rfl, ?_, (Below.refl _ _).alloc (Nat.le_refl _) _⟩
            rw [HY'.out]
            exact HR.out
    · have HN := hide (parts_none (find_none hno (by omega)))
      clear hno
      go_wp2
      go_ret
      exact ⟨_, rfl, by rw [HN.out]; exact ⟨rfl, fun g hg => by simp [Value.ownBlock] at hg, none, 0, rfl, ⟨Nat.le_refl _, Nat.zero_le _⟩, by simp [ints]⟩, (Below.refl _ _).alloc (Nat.le_refl _) _⟩
end Go.Proofs.YthaecjhnlpbfnaaDoor
