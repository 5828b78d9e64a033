import Derived.Test.YtmnjjjhmnhfapaaGreatDoorMCodeLevs
namespace Go.Proofs.YtmnjjjhmnhfapaaGreatDoor
open Go.RowKit

theorem lev_add {L : Nat → List Int} {x : Tm.El} (h : Tm.empty x = false) : ∀ j, j < 4 → L j ++ Tm.shiftW false x j = put4 (addW x 3 L) 3 (addW x 3 L 3 ++ [65535]) j :=
  four_cases (by simp [put4, addW, Tm.shiftW, Tm.plainW]) (by simp [put4, addW, Tm.shiftW, Tm.plainW]) (by simp [put4, addW, Tm.shiftW, Tm.plainW]) (by simp [put4, addW, Tm.shiftW, h])
theorem lev_var {L : Nat → List Int} {x : Tm.El} (h : x.p ≠ 0) : ∀ j, j < 4 → L j ++ Tm.shiftW true x j = put4 L 3 (L 3 ++ [x.p]) j :=
  four_cases (by simp [put4, Tm.shiftW]) (by simp [put4, Tm.shiftW]) (by simp [put4, Tm.shiftW]) (by simp [put4, Tm.shiftW, Tm.nz, h])
theorem lev_none {L : Nat → List Int} {s t : Int} : ∀ j, j < 4 → L j ++ Tm.shiftW true ⟨0, s, t, false⟩ j = L j :=
  four_cases (by simp [Tm.shiftW]) (by simp [Tm.shiftW]) (by simp [Tm.shiftW]) (by simp [Tm.shiftW, Tm.nz])
theorem lev_zero {L : Nat → List Int} : ∀ j, j < 4 → L j ++ Tm.shiftW false ⟨0, 0, 0, false⟩ j = L j :=
  four_cases (by simp [Tm.shiftW, Tm.nz]) (by simp [Tm.shiftW, Tm.nz]) (by simp [Tm.shiftW, Tm.nz]) (by simp [Tm.shiftW, Tm.empty])

set_option maxRecDepth 100000 in
set_option maxHeartbeats 4000000 in
theorem shiftedLevelsOf_any (v : Value) (els : List Tm.El) (w : World) (hr : Reads w v 4 els.length (elsCells els)) (hl : els.length ≤ 800000) (hvar : ∀ x ∈ els, x.v = true → x.p ≠ 0) :
    Calls Tryz.prog 133 #[v] w fun e w' => ∃ vs : Nat → Value, e = .returned (.agg #[vs 0, vs 1, vs 2, vs 3]) ∧ Lev4 w' w.heap.size vs (fun k => Tm.level true els k) ∧ Below w.heap.size w w' := by
  obtain ⟨a, cap, rfl⟩ := hr.shape
  have HR := hide hr
  obtain ⟨W, hW⟩ : ∃ W, (w.alloc (.cells #[.slice none 0 0, .slice none 0 0, .slice none 0 0, .slice none 0 0] 213)).alloc (.cells #[.slice none 0 0, .slice none 0 0, .slice none 0 0, .slice none 0 0] 213) = W := ⟨_, rfl⟩
  have hb0 : Below w.heap.size w W := by rw [← hW]; exact ((Below.refl _ _).alloc (Nat.le_refl _) _).alloc (by simp) _
  have hz0 : W.heap.size = w.heap.size + 2 := by rw [← hW]; simp
  have r0 : W.cell? ⟨w.heap.size, 0, none⟩ = some (.slice none 0 0) := by rw [← hW, cell_old (by simp), cell_new rfl]; rfl
  have r1 : W.cell? ⟨w.heap.size, 1, none⟩ = some (.slice none 0 0) := by rw [← hW, cell_old (by simp), cell_new rfl]; rfl
  have r2 : W.cell? ⟨w.heap.size, 2, none⟩ = some (.slice none 0 0) := by rw [← hW, cell_old (by simp), cell_new rfl]; rfl
  have r3 : W.cell? ⟨w.heap.size, 3, none⟩ = some (.slice none 0 0) := by rw [← hW, cell_old (by simp), cell_new rfl]; rfl
  have rf : ∀ o, W.frozen? ⟨w.heap.size, o, none⟩ = false := fun o => by rw [← hW, frozen_old (by simp), frozen_new rfl]
  have HL0 : Hid (LevIs W w.heap.size (w.heap.size + 1) (fun _ => .slice none 0 0) (fun k => Tm.level true (els.take 0) k)) := by
    refine LevIs.new (by omega) (by omega) (four_cases ?_ ?_ ?_ ?_) (fun k => ?_)
    · rw [← hW, cell_new (by simp)]; rfl
    · rw [← hW, cell_new (by simp)]; rfl
    · rw [← hW, cell_new (by simp)]; rfl
    · rw [← hW, cell_new (by simp)]; rfl
    · rw [← hW, frozen_new (by simp)]
  have HB0 := hide hb0
  have HRR := hide (And.intro r0 (And.intro r1 (And.intro r2 (And.intro r3 rf))))
  obtain ⟨n, hn⟩ : ∃ n, els.length = n := ⟨_, rfl⟩
  have HN := hide hn
  rw [hn] at hl HR
  rw [hn]
  have HVAR := hide hvar
  clear hr hb0 r0 r1 r2 r3 rf hn hvar
  go_enter Tryz.func133, Tryz.ntmps133
  go_wp2_with fail
  go_loopw [4, 9] (fun b i wr => ∃ (k : Nat) (vs : Nat → Value), k ≤ n ∧ b = .bool (Tm.lastB false (els.take k)) ∧ i = .int .i64 k ∧ LevIs wr w.heap.size (w.heap.size + 1) vs (fun j => Tm.level true (els.take k) j) ∧ LevTurn (w.heap.size + 1) (fun _ => .slice none 0 0) vs W wr) (fun _ i _ => n - (intOf i).toNat)
  case atStart => exact ⟨0, _, Nat.zero_le _, rfl, rfl, HL0.out, LevTurn.of (Below.refl _ _)⟩
  case round =>
    obtain ⟨k, vs, hk, rfl, rfl, hlev, htu⟩ := hrel
    have HL := hide hlev
    have HT := hide htu
    have hzr := htu.size
    have hltr := hlev.lt
    have HBr : Hid (Below w.heap.size w wr) := HB0.out.trans (htu.below (L := fun k => Tm.level true (els.take 0) k) HL0.out)
    clear hlev htu
    by_cases hlt : k < n
    · have hlt' : k < els.length := by rw [HN.out]; exact hlt
      obtain ⟨g, off, rfl, hg, c0, c1, c2, c3⟩ := els_at (by rw [HN.out]; exact HR.out.below HBr.out HR.out.2.1) hlt'
      have HLV := hide (fun j => Tm.level_snoc true j els[k] (els.take k))
      have HLB := hide (Tm.lastB_snoc els[k] (els.take k) false)
      rw [← List.take_succ_eq_append_getElem hlt'] at HLV HLB
      have hvar := HVAR.out els[k] (List.getElem_mem hlt')
      have HLEN : Hid (∀ j, j < 4 → (Tm.level true (els.take k) j).length ≤ 900000) := fun j _ => by
        have h1 := Tm.lev_length true j (els.take k) false
        have h2 : (els.take k).length ≤ n := by rw [List.length_take, HN.out]; omega
        have : (Tm.level true (els.take k) j).length ≤ (els.take k).length := h1
        omega
      have i1 : (0 : Int) ≤ (k : Int) := by omega
      have i2 : (k : Int) < (n : Int) := by omega
      generalize els[k] = x at *
      obtain ⟨p, s, t, v⟩ := x
      simp only at c0 c1 c2 c3 hvar
      generalize Tm.lastB false (els.take k) = bv at *
      have hbx : Below wr.heap.size wr (wr.alloc (.cells #[.int .i64 p, .int .i64 s, .int .i64 t, .bool v] 102)) := (Below.refl _ _).alloc (Nat.le_refl _) _
      have HBX := hide hbx
      clear hbx
      cases hp : (p != 0)
      · have hp0 : p = 0 := by simpa using hp
        subst hp0
        cases v
        · cases bv
          · by_cases hs : s = 0
            · subst hs
              by_cases ht : t = 0
              · subst ht
                have HL3 : Hid (LevIs (wr.alloc (.cells #[.int .i64 0, .int .i64 0, .int .i64 0, .bool false] 102)) w.heap.size (w.heap.size + 1) vs (fun j => Tm.level true (els.take (k + 1)) j)) := (HL.out.below HBX.out).congr (fun j hj => by rw [HLV.out j]; exact (lev_zero (L := fun j => Tm.level true (els.take k) j) j hj).symm)
                have HT3 := hide (HT.out.trans (LevTurn.of HBX.out))
                go_wp2
                go_roundw
                case rel => exact ⟨k + 1, vs, by omega, by rw [HLB.out]; rfl, by go_num, HL3.out, HT3.out⟩
                case measure => simp [intOf]; omega
              · have HADD := hide (lev_add (L := fun j => Tm.level true (els.take k) j) (x := ⟨0, 0, t, false⟩) (by simp [Tm.empty, ht]))
                go_wp2_with fail
                refine (addWeights_any (w.heap.size + 1) w.heap.size ⟨0, 0, t, false⟩ vs _ _ (HL.out.below HBX.out) HLEN.out).mono ?_
                rintro e w2 ⟨rfl, vs2, hl2, ht2⟩
                have HL2 := hide hl2
                have HT2 := hide ((HT.out.trans (LevTurn.of HBX.out)).trans ht2)
                have HLN : Hid ((addW ⟨0, 0, t, false⟩ 3 (fun j => Tm.level true (els.take k) j) 3).length ≤ 1000000) := by have h1 := addW_len ⟨0, 0, t, false⟩ 3 (fun j => Tm.level true (els.take k) j) 3; have h2 := HLEN.out 3 (by omega); unfold Hid; omega
                clear hl2 ht2
                go_wp2_with fail
                refine (add_any (w.heap.size + 1) w.heap.size 3 4 65535 vs2 _ _ HL2.out (by omega) rfl HLN.out).mono ?_
                rintro e w3 ⟨rfl, vs3, hl3, ht3⟩
                have HL3 : Hid (LevIs w3 w.heap.size (w.heap.size + 1) vs3 (fun j => Tm.level true (els.take (k + 1)) j)) := hl3.congr (fun j hj => by rw [HLV.out j]; exact (HADD.out j hj).symm)
                have HT3 := hide (HT2.out.trans ht3)
                clear hl3 ht3
                go_wp2
                go_roundw
                case rel => exact ⟨k + 1, vs3, by omega, by rw [HLB.out]; rfl, by go_num, HL3.out, HT3.out⟩
                case measure => simp [intOf]; omega
            · have HADD := hide (lev_add (L := fun j => Tm.level true (els.take k) j) (x := ⟨0, s, t, false⟩) (by simp [Tm.empty, hs]))
              go_wp2_with fail
              refine (addWeights_any (w.heap.size + 1) w.heap.size ⟨0, s, t, false⟩ vs _ _ (HL.out.below HBX.out) HLEN.out).mono ?_
              rintro e w2 ⟨rfl, vs2, hl2, ht2⟩
              have HL2 := hide hl2
              have HT2 := hide ((HT.out.trans (LevTurn.of HBX.out)).trans ht2)
              have HLN : Hid ((addW ⟨0, s, t, false⟩ 3 (fun j => Tm.level true (els.take k) j) 3).length ≤ 1000000) := by have h1 := addW_len ⟨0, s, t, false⟩ 3 (fun j => Tm.level true (els.take k) j) 3; have h2 := HLEN.out 3 (by omega); unfold Hid; omega
              clear hl2 ht2
              go_wp2_with fail
              refine (add_any (w.heap.size + 1) w.heap.size 3 4 65535 vs2 _ _ HL2.out (by omega) rfl HLN.out).mono ?_
              rintro e w3 ⟨rfl, vs3, hl3, ht3⟩
              have HL3 : Hid (LevIs w3 w.heap.size (w.heap.size + 1) vs3 (fun j => Tm.level true (els.take (k + 1)) j)) := hl3.congr (fun j hj => by rw [HLV.out j]; exact (HADD.out j hj).symm)
              have HT3 := hide (HT2.out.trans ht3)
              clear hl3 ht3
              go_wp2
              go_roundw
              case rel => exact ⟨k + 1, vs3, by omega, by rw [HLB.out]; rfl, by go_num, HL3.out, HT3.out⟩
              case measure => simp [intOf]; omega
          · have HL3 : Hid (LevIs (wr.alloc (.cells #[.int .i64 0, .int .i64 s, .int .i64 t, .bool false] 102)) w.heap.size (w.heap.size + 1) vs (fun j => Tm.level true (els.take (k + 1)) j)) := (HL.out.below HBX.out).congr (fun j hj => by rw [HLV.out j]; exact (lev_none (L := fun j => Tm.level true (els.take k) j) j hj).symm)
            have HT3 := hide (HT.out.trans (LevTurn.of HBX.out))
            go_wp2
            go_roundw
            case rel => exact ⟨k + 1, vs, by omega, by rw [HLB.out]; rfl, by go_num, HL3.out, HT3.out⟩
            case measure => simp [intOf]; omega
        · exact absurd rfl (hvar rfl)
      · have hp1 : p ≠ 0 := by simpa using hp
        have hbe : ∀ v, Tm.behind bv ⟨p, s, t, v⟩ = v := fun v => by simp [Tm.behind, hp1]
        rw [hbe] at HLV HLB
        cases v
        · have HADD := hide (lev_add (L := fun j => Tm.level true (els.take k) j) (x := ⟨p, s, t, false⟩) (by simp [Tm.empty, hp1]))
          clear hbe hvar
          go_wp2_with fail
          refine (addWeights_any (w.heap.size + 1) w.heap.size ⟨p, s, t, false⟩ vs _ _ (HL.out.below HBX.out) HLEN.out).mono ?_
          rintro e w2 ⟨rfl, vs2, hl2, ht2⟩
          have HL2 := hide hl2
          have HT2 := hide ((HT.out.trans (LevTurn.of HBX.out)).trans ht2)
          have HLN : Hid ((addW ⟨p, s, t, false⟩ 3 (fun j => Tm.level true (els.take k) j) 3).length ≤ 1000000) := by have h1 := addW_len ⟨p, s, t, false⟩ 3 (fun j => Tm.level true (els.take k) j) 3; have h2 := HLEN.out 3 (by omega); unfold Hid; omega
          clear hl2 ht2
          go_wp2_with fail
          refine (add_any (w.heap.size + 1) w.heap.size 3 4 65535 vs2 _ _ HL2.out (by omega) rfl HLN.out).mono ?_
          rintro e w3 ⟨rfl, vs3, hl3, ht3⟩
          have HL3 : Hid (LevIs w3 w.heap.size (w.heap.size + 1) vs3 (fun j => Tm.level true (els.take (k + 1)) j)) := hl3.congr (fun j hj => by rw [HLV.out j]; exact (HADD.out j hj).symm)
          have HT3 := hide (HT2.out.trans ht3)
          clear hl3 ht3
          go_wp2
          go_roundw
          case rel => exact ⟨k + 1, vs3, by omega, by rw [HLB.out], by go_num, HL3.out, HT3.out⟩
          case measure => simp [intOf]; omega
        · have HADD := hide (lev_var (L := fun j => Tm.level true (els.take k) j) (x := ⟨p, s, t, true⟩) hp1)
          have HLN : Hid ((Tm.level true (els.take k) 3).length ≤ 1000000) := by have h2 := HLEN.out 3 (by omega); unfold Hid; omega
          clear hbe hvar
          go_wp2_with fail
          refine (add_any (w.heap.size + 1) w.heap.size 3 4 p vs _ _ (HL.out.below HBX.out) (by omega) rfl HLN.out).mono ?_
          rintro e w3 ⟨rfl, vs3, hl3, ht3⟩
          have HL3 : Hid (LevIs w3 w.heap.size (w.heap.size + 1) vs3 (fun j => Tm.level true (els.take (k + 1)) j)) := hl3.congr (fun j hj => by rw [HLV.out j]; exact (HADD.out j hj).symm)
          have HT3 := hide ((HT.out.trans (LevTurn.of HBX.out)).trans ht3)
          clear hl3 ht3
          go_wp2
          go_roundw
          case rel => exact ⟨k + 1, vs3, by omega, by rw [HLB.out], by go_num, HL3.out, HT3.out⟩
          case measure => simp [intOf]; omega
    · have hfull : els.take k = els := List.take_of_length_le (by rw [HN.out]; omega)
      have HLF : Hid (LevIs wr w.heap.size (w.heap.size + 1) vs (fun j => Tm.level true els j)) := by have h := HL.out; rw [hfull] at h; exact h
      have q0 := HLF.out.cell 0 (by omega)
      have q1 := HLF.out.cell 1 (by omega)
      have q2 := HLF.out.cell 2 (by omega)
      have q3 := HLF.out.cell 3 (by omega)
      have hkeep := HT.out.block w.heap.size (by omega) (by omega) (fun _ _ h => by cases h)
      have p0 : wr.cell? ⟨w.heap.size, 0, none⟩ = some (.slice none 0 0) := (World.cell?_of_block hkeep).trans HRR.out.1
      have p1 : wr.cell? ⟨w.heap.size, 1, none⟩ = some (.slice none 0 0) := (World.cell?_of_block hkeep).trans HRR.out.2.1
      have p2 : wr.cell? ⟨w.heap.size, 2, none⟩ = some (.slice none 0 0) := (World.cell?_of_block hkeep).trans HRR.out.2.2.1
      have p3 : wr.cell? ⟨w.heap.size, 3, none⟩ = some (.slice none 0 0) := (World.cell?_of_block hkeep).trans HRR.out.2.2.2.1
      have pf : ∀ o, wr.frozen? ⟨w.heap.size, o, none⟩ = false := fun o => (World.frozen?_of_block (a := ⟨w.heap.size, o, none⟩) hkeep).trans (HRR.out.2.2.2.2 o)
      have pf0 := pf 0
      have pf1 := pf 1
      have pf2 := pf 2
      have pf3 := pf 3
      have hsz : w.heap.size < wr.heap.size := by omega
      have hshape : ∀ j, j < 4 → ∃ aj cj, vs j = .slice aj (Tm.level true els j).length cj := fun j hj => (Reads.of_owns (HLF.out.own j hj)).shape
      obtain ⟨a0, k0, h0⟩ := hshape 0 (by omega)
      obtain ⟨a1, k1, h1⟩ := hshape 1 (by omega)
      obtain ⟨a2, k2, h2⟩ := hshape 2 (by omega)
      obtain ⟨a3, k3, h3⟩ := hshape 3 (by omega)
      rw [h0] at q0
      rw [h1] at q1
      rw [h2] at q2
      rw [h3] at q3
      have HV := hide (And.intro h0 (And.intro h1 (And.intro h2 h3)))
      have HOWN : Hid (Lev4 wr w.heap.size vs (fun k => Tm.level true els k)) := fun j hj => HLF.out.own j hj
      have HNBK : Hid (∀ j, j < 4 → (vs j).ownBlock ≠ some w.heap.size) := fun j hj h => by
        rcases HT.out.at' j hj _ h with ⟨_, _, h4⟩ | h4
        · cases h4
        · omega
      clear hfull hkeep pf h0 h1 h2 h3 hshape
      go_wp2
      have z := put4c_cell (v0 := .slice a0 (Tm.level true els 0).length k0) (v1 := .slice a1 (Tm.level true els 1).length k1) (v2 := .slice a2 (Tm.level true els 2).length k2) (v3 := .slice a3 (Tm.level true els 3).length k3) p0 p1 p2 p3
      have HBF := hide (put4c_below (v0 := .slice a0 (Tm.level true els 0).length k0) (v1 := .slice a1 (Tm.level true els 1).length k1) (v2 := .slice a2 (Tm.level true els 2).length k2) (v3 := .slice a3 (Tm.level true els 3).length k3) HBr.out (Nat.le_refl _))
      have HLF4 : Hid (Lev4 (put4c wr w.heap.size (.slice a0 (Tm.level true els 0).length k0) (.slice a1 (Tm.level true els 1).length k1) (.slice a2 (Tm.level true els 2).length k2) (.slice a3 (Tm.level true els 3).length k3)) w.heap.size vs (fun k => Tm.level true els k)) := fun j hj => ownsRow_same (HOWN.out j hj) (fun g hg => put4c_other (fun e => HNBK.out j hj (by rw [← e]; exact hg)))
      unfold put4c at z HBF HLF4
      generalize (((wr.setCell ⟨w.heap.size, 0, none⟩ (.slice a0 (Tm.level true els 0).length k0)).setCell ⟨w.heap.size, 1, none⟩ (.slice a1 (Tm.level true els 1).length k1)).setCell ⟨w.heap.size, 2, none⟩ (.slice a2 (Tm.level true els 2).length k2)).setCell ⟨w.heap.size, 3, none⟩ (.slice a3 (Tm.level true els 3).length k3) = W4 at *
      obtain ⟨z0, z1, z2, z3⟩ := z
      refine bodyPost_ret (v := .agg #[.slice a0 (Tm.level true els 0).length k0, .slice a1 (Tm.level true els 1).length k1, .slice a2 (Tm.level true els 2).length k2, .slice a3 (Tm.level true els 3).length k3]) (by simp [results, Tryz.results133, go_sem, z0, z1, z2, z3]) rfl ⟨vs, ?_, HLF4.out, HBF.out⟩
      rw [HV.out.1, HV.out.2.1, HV.out.2.2.1, HV.out.2.2.2]
end Go.Proofs.YtmnjjjhmnhfapaaGreatDoor
