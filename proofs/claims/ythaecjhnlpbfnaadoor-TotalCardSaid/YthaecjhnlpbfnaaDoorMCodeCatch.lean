import Derived.Defers
import Derived.Recover
import Derived.Test.YthaecjhnlpbfnaaDoorMCodeLevs
import Derived.Test.YthaecjhnlpbfnaaDoorMCodeArr
import Derived.Test.YthaecjhnlpbfnaaDoorMStand
import Derived.Test.YthaecjhnlpbfnaaDoorMCodeNum
import Derived.Test.YthaecjhnlpbfnaaDoorMRefNew
namespace Go.Proofs.YthaecjhnlpbfnaaDoor
open Go.RowKit

theorem lev_add {L : Nat → List Int} {x : Tm.El} (h : Tm.empty x = false) : ∀ j, j < 4 → L j ++ Tm.shiftW false x j = put4 (addW x 3 L) 3 (addW x 3 L 3 ++ [65535]) j :=
  four_cases (by simp [put4, addW, Tm.shiftW, Tm.plainW]) (by simp [put4, addW, Tm.shiftW, Tm.plainW]) (by simp [put4, addW, Tm.shiftW, Tm.plainW]) (by simp [put4, addW, Tm.shiftW, h])
theorem lev_var {L : Nat → List Int} {x : Tm.El} (h : x.p ≠ 0) : ∀ j, j < 4 → L j ++ Tm.shiftW true x j = put4 L 3 (L 3 ++ [x.p]) j :=
  four_cases (by simp [put4, Tm.shiftW]) (by simp [put4, Tm.shiftW]) (by simp [put4, Tm.shiftW]) (by simp [put4, Tm.shiftW, Tm.nz, h])
theorem lev_none {L : Nat → List Int} {s t : Int} : ∀ j, j < 4 → L j ++ Tm.shiftW true ⟨0, s, t, false⟩ j = L j :=
  four_cases (by simp [Tm.shiftW]) (by simp [Tm.shiftW]) (by simp [Tm.shiftW]) (by simp [Tm.shiftW, Tm.nz])
theorem lev_zero {L : Nat → List Int} : ∀ j, j < 4 → L j ++ Tm.shiftW false ⟨0, 0, 0, false⟩ j = L j :=
  four_cases (by simp [Tm.shiftW, Tm.nz]) (by simp [Tm.shiftW, Tm.nz]) (by simp [Tm.shiftW, Tm.nz]) (by simp [Tm.shiftW, Tm.empty])

set_option maxRecDepth 100000 in
set_option maxHeartbeats 4000000 in
theorem shiftedLevelsOf_any (v : Value) (els : List Tm.El) (w : World) (hr : Reads w v 4 els.length (elsCells els)) (hl : els.length ≤ 800000) (hvar : ∀ x ∈ els, x.v = true → x.p ≠ 0) :
    Calls Tryd.prog 57 #[v] w fun e w' => ∃ vs : Nat → Value, e = .returned (.agg #[vs 0, vs 1, vs 2, vs 3]) ∧ Lev4 w' w.heap.size vs (fun k => Tm.level true els k) ∧ Below w.heap.size w w' := by
  obtain ⟨a, cap, rfl⟩ := hr.shape
  have HR := hide hr
  obtain ⟨W, hW⟩ : ∃ W, (w.alloc (.cells #[.slice none 0 0, .slice none 0 0, .slice none 0 0, .slice none 0 0] 111)).alloc (.cells #[.slice none 0 0, .slice none 0 0, .slice none 0 0, .slice none 0 0] 111) = W := ⟨_, rfl⟩
  have hb0 : Below w.heap.size w W := by rw [← hW]; exact ((Below.refl _ _).alloc (Nat.le_refl _) _).alloc (by simp) _
  have hz0 : W.heap.size = w.heap.size + 2 := by rw [← hW]; simp
  have r0 : W.cell? ⟨w.heap.size, 0, none⟩ = some (.slice none 0 0) := by rw [← hW, cell_old (by simp), cell_new rfl]; rfl
  have r1 : W.cell? ⟨w.heap.size, 1, none⟩ = some (.slice none 0 0) := by rw [← hW, cell_old (by simp), cell_new rfl]; rfl
  have r2 : W.cell? ⟨w.heap.size, 2, none⟩ = some (.slice none 0 0) := by rw [← hW, cell_old (by simp), cell_new rfl]; rfl
  have r3 : W.cell? ⟨w.heap.size, 3, none⟩ = some (.slice none 0 0) := by rw [← hW, cell_old (by simp), cell_new rfl]; rfl
  have rf : ∀ o, W.frozen? ⟨w.heap.size, o, none⟩ = false := fun o => by rw [← hW, frozen_old (by simp), frozen_new rfl]
  have HL0 : Hid (LevIs W w.heap.size (w.heap.size + 1) (fun _ => .slice none 0 0) (fun k => Tm.level true (els.take 0) k)) := by
    refine LevIs.new (by omega) (by omega) (four_cases ?_ ?_ ?_ ?_) (fun k => ?_)
    · rw [← hW, cell_new (by simp)]; rfl
    · rw [← hW, cell_new (by simp)]; rfl
    · rw [← hW, cell_new (by simp)]; rfl
    · rw [← hW, cell_new (by simp)]; rfl
    · rw [← hW, frozen_new (by simp)]
  have HB0 := hide hb0
  have HRR := hide (And.intro r0 (And.intro r1 (And.intro r2 (And.intro r3 rf))))
  obtain ⟨n, hn⟩ : ∃ n, els.length = n := ⟨_, rfl⟩
  have HN := hide hn
  rw [hn] at hl HR
  rw [hn]
  have HVAR := hide hvar
  clear hr hb0 r0 r1 r2 r3 rf hn hvar
  go_enter Tryd.func57, Tryd.ntmps57
  go_wp2_with fail
  go_loopw [4, 9] (fun b i wr => ∃ (k : Nat) (vs : Nat → Value), k ≤ n ∧ b = .bool (Tm.lastB false (els.take k)) ∧ i = .int .i64 k ∧ LevIs wr w.heap.size (w.heap.size + 1) vs (fun j => Tm.level true (els.take k) j) ∧ LevTurn (w.heap.size + 1) (fun _ => .slice none 0 0) vs W wr) (fun _ i _ => n - (intOf i).toNat)
  case atStart => exact ⟨0, _, Nat.zero_le _, rfl, rfl, HL0.out, LevTurn.of (Below.refl _ _)⟩
  case round =>
    obtain ⟨k, vs, hk, rfl, rfl, hlev, htu⟩ := hrel
    have HL := hide hlev
    have HT := hide htu
    have hzr := htu.size
    have hltr := hlev.lt
    have HBr : Hid (Below w.heap.size w wr) := HB0.out.trans (htu.below (L := fun k => Tm.level true (els.take 0) k) HL0.out)
    clear hlev htu
    by_cases hlt : k < n
    · have hlt' : k < els.length := by rw [HN.out]; exact hlt
      obtain ⟨g, off, rfl, hg, c0, c1, c2, c3⟩ := els_at (by rw [HN.out]; exact HR.out.below HBr.out HR.out.2.1) hlt'
      have HLV := hide (fun j => Tm.level_snoc true j els[k] (els.take k))
      have HLB := hide (Tm.lastB_snoc els[k] (els.take k) false)
      rw [← List.take_succ_eq_append_getElem hlt'] at HLV HLB
      have hvar := HVAR.out els[k] (List.getElem_mem hlt')
      have HLEN : Hid (∀ j, j < 4 → (Tm.level true (els.take k) j).length ≤ 900000) := fun j _ => by
        have h1 := Tm.lev_length true j (els.take k) false
        have h2 : (els.take k).length ≤ n := by rw [List.length_take, HN.out]; omega
        have : (Tm.level true (els.take k) j).length ≤ (els.take k).length := h1
        omega
      have i1 : (0 : Int) ≤ (k : Int) := by omega
      have i2 : (k : Int) < (n : Int) := by omega
      generalize els[k] = x at *
      obtain ⟨p, s, t, v⟩ := x
      simp only at c0 c1 c2 c3 hvar
      generalize Tm.lastB false (els.take k) = bv at *
      have hbx : Below wr.heap.size wr (wr.alloc (.cells #[.int .i64 p, .int .i64 s, .int .i64 t, .bool v] 64)) := (Below.refl _ _).alloc (Nat.le_refl _) _
      have HBX := hide hbx
      clear hbx
      cases hp : (p != 0)
      · have hp0 : p = 0 := by simpa using hp
        subst hp0
        cases v
        · cases bv
          · by_cases hs : s = 0
            · subst hs
              by_cases ht : t = 0
              · subst ht
                have HL3 : Hid (LevIs (wr.alloc (.cells #[.int .i64 0, .int .i64 0, .int .i64 0, .bool false] 64)) w.heap.size (w.heap.size + 1) vs (fun j => Tm.level true (els.take (k + 1)) j)) := (HL.out.below HBX.out).congr (fun j hj => by rw [HLV.out j]; exact (lev_zero (L := fun j => Tm.level true (els.take k) j) j hj).symm)
                have HT3 := hide (HT.out.trans (LevTurn.of HBX.out))
                go_wp2
                go_roundw
                case rel => exact ⟨k + 1, vs, by omega, by rw [HLB.out]; rfl, by go_num, HL3.out, HT3.out⟩
                case measure => simp [intOf]; omega
              · have HADD := hide (lev_add (L := fun j => Tm.level true (els.take k) j) (x := ⟨0, 0, t, false⟩) (by simp [Tm.empty, ht]))
                go_wp2_with fail
                refine (addWeights_any (w.heap.size + 1) w.heap.size ⟨0, 0, t, false⟩ vs _ _ (HL.out.below HBX.out) HLEN.out).mono ?_
                rintro e w2 ⟨rfl, vs2, hl2, ht2⟩
                have HL2 := hide hl2
                have HT2 := hide ((HT.out.trans (LevTurn.of HBX.out)).trans ht2)
                have HLN : Hid ((addW ⟨0, 0, t, false⟩ 3 (fun j => Tm.level true (els.take k) j) 3).length ≤ 1000000) := by have h1 := addW_len ⟨0, 0, t, false⟩ 3 (fun j => Tm.level true (els.take k) j) 3; have h2 := HLEN.out 3 (by omega); unfold Hid; omega
                clear hl2 ht2
                go_wp2_with fail
                refine (add_any (w.heap.size + 1) w.heap.size 3 4 65535 vs2 _ _ HL2.out (by omega) rfl HLN.out).mono ?_
                rintro e w3 ⟨rfl, vs3, hl3, ht3⟩
                have HL3 : Hid (LevIs w3 w.heap.size (w.heap.size + 1) vs3 (fun j => Tm.level true (els.take (k + 1)) j)) := hl3.congr (fun j hj => by rw [HLV.out j]; exact (HADD.out j hj).symm)
                have HT3 := hide (HT2.out.trans ht3)
                clear hl3 ht3
                go_wp2
                go_roundw
                case rel => exact ⟨k + 1, vs3, by omega, by rw [HLB.out]; rfl, by go_num, HL3.out, HT3.out⟩
                case measure => simp [intOf]; omega
            · have HADD := hide (lev_add (L := fun j => Tm.level true (els.take k) j) (x := ⟨0, s, t, false⟩) (by simp [Tm.empty, hs]))
              go_wp2_with fail
              refine (addWeights_any (w.heap.size + 1) w.heap.size ⟨0, s, t, false⟩ vs _ _ (HL.out.below HBX.out) HLEN.out).mono ?_
              rintro e w2 ⟨rfl, vs2, hl2, ht2⟩
              have HL2 := hide hl2
              have HT2 := hide ((HT.out.trans (LevTurn.of HBX.out)).trans ht2)
              have HLN : Hid ((addW ⟨0, s, t, false⟩ 3 (fun j => Tm.level true (els.take k) j) 3).length ≤ 1000000) := by have h1 := addW_len ⟨0, s, t, false⟩ 3 (fun j => Tm.level true (els.take k) j) 3; have h2 := HLEN.out 3 (by omega); unfold Hid; omega
              clear hl2 ht2
              go_wp2_with fail
              refine (add_any (w.heap.size + 1) w.heap.size 3 4 65535 vs2 _ _ HL2.out (by omega) rfl HLN.out).mono ?_
              rintro e w3 ⟨rfl, vs3, hl3, ht3⟩
              have HL3 : Hid (LevIs w3 w.heap.size (w.heap.size + 1) vs3 (fun j => Tm.level true (els.take (k + 1)) j)) := hl3.congr (fun j hj => by rw [HLV.out j]; exact (HADD.out j hj).symm)
              have HT3 := hide (HT2.out.trans ht3)
              clear hl3 ht3
              go_wp2
              go_roundw
              case rel => exact ⟨k + 1, vs3, by omega, by rw [HLB.out]; rfl, by go_num, HL3.out, HT3.out⟩
              case measure => simp [intOf]; omega
          · have HL3 : Hid (LevIs (wr.alloc (.cells #[.int .i64 0, .int .i64 s, .int .i64 t, .bool false] 64)) w.heap.size (w.heap.size + 1) vs (fun j => Tm.level true (els.take (k + 1)) j)) := (HL.out.below HBX.out).congr (fun j hj => by rw [HLV.out j]; exact (lev_none (L := fun j => Tm.level true (els.take k) j) j hj).symm)
            have HT3 := hide (HT.out.trans (LevTurn.of HBX.out))
            go_wp2
            go_roundw
            case rel => exact ⟨k + 1, vs, by omega, by rw [HLB.out]; rfl, by go_num, HL3.out, HT3.out⟩
            case measure => simp [intOf]; omega
        · exact absurd rfl (hvar rfl)
      · have hp1 : p ≠ 0 := by simpa using hp
        have hbe : ∀ v, Tm.behind bv ⟨p, s, t, v⟩ = v := fun v => by simp [Tm.behind, hp1]
        rw [hbe] at HLV HLB
        cases v
        · have HADD := hide (lev_add (L := fun j => Tm.level true (els.take k) j) (x := ⟨p, s, t, false⟩) (by simp [Tm.empty, hp1]))
          clear hbe hvar
          go_wp2_with fail
          refine (addWeights_any (w.heap.size + 1) w.heap.size ⟨p, s, t, false⟩ vs _ _ (HL.out.below HBX.out) HLEN.out).mono ?_
          rintro e w2 ⟨rfl, vs2, hl2, ht2⟩
          have HL2 := hide hl2
          have HT2 := hide ((HT.out.trans (LevTurn.of HBX.out)).trans ht2)
          have HLN : Hid ((addW ⟨p, s, t, false⟩ 3 (fun j => Tm.level true (els.take k) j) 3).length ≤ 1000000) := by have h1 := addW_len ⟨p, s, t, false⟩ 3 (fun j => Tm.level true (els.take k) j) 3; have h2 := HLEN.out 3 (by omega); unfold Hid; omega
          clear hl2 ht2
          go_wp2_with fail
          refine (add_any (w.heap.size + 1) w.heap.size 3 4 65535 vs2 _ _ HL2.out (by omega) rfl HLN.out).mono ?_
          rintro e w3 ⟨rfl, vs3, hl3, ht3⟩
          have HL3 : Hid (LevIs w3 w.heap.size (w.heap.size + 1) vs3 (fun j => Tm.level true (els.take (k + 1)) j)) := hl3.congr (fun j hj => by rw [HLV.out j]; exact (HADD.out j hj).symm)
          have HT3 := hide (HT2.out.trans ht3)
          clear hl3 ht3
          go_wp2
          go_roundw
          case rel => exact ⟨k + 1, vs3, by omega, by rw [HLB.out], by go_num, HL3.out, HT3.out⟩
          case measure => simp [intOf]; omega
        · have HADD := hide (lev_var (L := fun j => Tm.level true (els.take k) j) (x := ⟨p, s, t, true⟩) hp1)
          have HLN : Hid ((Tm.level true (els.take k) 3).length ≤ 1000000) := by have h2 := HLEN.out 3 (by omega); unfold Hid; omega
          clear hbe hvar
          go_wp2_with fail
          refine (add_any (w.heap.size + 1) w.heap.size 3 4 p vs _ _ (HL.out.below HBX.out) (by omega) rfl HLN.out).mono ?_
          rintro e w3 ⟨rfl, vs3, hl3, ht3⟩
          have HL3 : Hid (LevIs w3 w.heap.size (w.heap.size + 1) vs3 (fun j => Tm.level true (els.take (k + 1)) j)) := hl3.congr (fun j hj => by rw [HLV.out j]; exact (HADD.out j hj).symm)
          have HT3 := hide ((HT.out.trans (LevTurn.of HBX.out)).trans ht3)
          clear hl3 ht3
          go_wp2
          go_roundw
          case rel => exact ⟨k + 1, vs3, by omega, by rw [HLB.out], by go_num, HL3.out, HT3.out⟩
          case measure => simp [intOf]; omega
    · have hfull : els.take k = els := List.take_of_length_le (by rw [HN.out]; omega)
      have HLF : Hid (LevIs wr w.heap.size (w.heap.size + 1) vs (fun j => Tm.level true els j)) := by have h := HL.out; rw [hfull] at h; exact h
      have q0 := HLF.out.cell 0 (by omega)
      have q1 := HLF.out.cell 1 (by omega)
      have q2 := HLF.out.cell 2 (by omega)
      have q3 := HLF.out.cell 3 (by omega)
      have hkeep := HT.out.block w.heap.size (by omega) (by omega) (fun _ _ h => by cases h)
      have p0 : wr.cell? ⟨w.heap.size, 0, none⟩ = some (.slice none 0 0) := (World.cell?_of_block hkeep).trans HRR.out.1
      have p1 : wr.cell? ⟨w.heap.size, 1, none⟩ = some (.slice none 0 0) := (World.cell?_of_block hkeep).trans HRR.out.2.1
      have p2 : wr.cell? ⟨w.heap.size, 2, none⟩ = some (.slice none 0 0) := (World.cell?_of_block hkeep).trans HRR.out.2.2.1
      have p3 : wr.cell? ⟨w.heap.size, 3, none⟩ = some (.slice none 0 0) := (World.cell?_of_block hkeep).trans HRR.out.2.2.2.1
      have pf : ∀ o, wr.frozen? ⟨w.heap.size, o, none⟩ = false := fun o => (World.frozen?_of_block (a := ⟨w.heap.size, o, none⟩) hkeep).trans (HRR.out.2.2.2.2 o)
      have pf0 := pf 0
      have pf1 := pf 1
      have pf2 := pf 2
      have pf3 := pf 3
      have hsz : w.heap.size < wr.heap.size := by omega
      have hshape : ∀ j, j < 4 → ∃ aj cj, vs j = .slice aj (Tm.level true els j).length cj := fun j hj => (Reads.of_owns (HLF.out.own j hj)).shape
      obtain ⟨a0, k0, h0⟩ := hshape 0 (by omega)
      obtain ⟨a1, k1, h1⟩ := hshape 1 (by omega)
      obtain ⟨a2, k2, h2⟩ := hshape 2 (by omega)
      obtain ⟨a3, k3, h3⟩ := hshape 3 (by omega)
      rw [h0] at q0
      rw [h1] at q1
      rw [h2] at q2
      rw [h3] at q3
      have HV := hide (And.intro h0 (And.intro h1 (And.intro h2 h3)))
      have HOWN : Hid (Lev4 wr w.heap.size vs (fun k => Tm.level true els k)) := fun j hj => HLF.out.own j hj
      have HNBK : Hid (∀ j, j < 4 → (vs j).ownBlock ≠ some w.heap.size) := fun j hj h => by
        rcases HT.out.at' j hj _ h with ⟨_, _, h4⟩ | h4
        · cases h4
        · omega
      clear hfull hkeep pf h0 h1 h2 h3 hshape
      go_wp2
      have z := put4c_cell (v0 := .slice a0 (Tm.level true els 0).length k0) (v1 := .slice a1 (Tm.level true els 1).length k1) (v2 := .slice a2 (Tm.level true els 2).length k2) (v3 := .slice a3 (Tm.level true els 3).length k3) p0 p1 p2 p3
      have HBF := hide (put4c_below (v0 := .slice a0 (Tm.level true els 0).length k0) (v1 := .slice a1 (Tm.level true els 1).length k1) (v2 := .slice a2 (Tm.level true els 2).length k2) (v3 := .slice a3 (Tm.level true els 3).length k3) HBr.out (Nat.le_refl _))
      have HLF4 : Hid (Lev4 (put4c wr w.heap.size (.slice a0 (Tm.level true els 0).length k0) (.slice a1 (Tm.level true els 1).length k1) (.slice a2 (Tm.level true els 2).length k2) (.slice a3 (Tm.level true els 3).length k3)) w.heap.size vs (fun k => Tm.level true els k)) := fun j hj => ownsRow_same (HOWN.out j hj) (fun g hg => put4c_other (fun e => HNBK.out j hj (by rw [← e]; exact hg)))
      unfold put4c at z HBF HLF4
      generalize (((wr.setCell ⟨w.heap.size, 0, none⟩ (.slice a0 (Tm.level true els 0).length k0)).setCell ⟨w.heap.size, 1, none⟩ (.slice a1 (Tm.level true els 1).length k1)).setCell ⟨w.heap.size, 2, none⟩ (.slice a2 (Tm.level true els 2).length k2)).setCell ⟨w.heap.size, 3, none⟩ (.slice a3 (Tm.level true els 3).length k3) = W4 at *
      obtain ⟨z0, z1, z2, z3⟩ := z
      refine bodyPost_ret (v := .agg #[.slice a0 (Tm.level true els 0).length k0, .slice a1 (Tm.level true els 1).length k1, .slice a2 (Tm.level true els 2).length k2, .slice a3 (Tm.level true els 3).length k3]) (by simp [results, Tryd.results57, go_sem, z0, z1, z2, z3]) rfl ⟨vs, ?_, HLF4.out, HBF.out⟩
      rw [HV.out.1, HV.out.2.1, HV.out.2.2.1, HV.out.2.2.2]
end Go.Proofs.YthaecjhnlpbfnaaDoor
namespace Go.Proofs.YthaecjhnlpbfnaaDoor
open Go.RowKit

theorem next_some {w : World} {r : Nat} {s : ByteArray} {pos : Nat} (hr : w.heap[r]? = some (.stringIter s pos)) (h : pos < s.size) :
    ∃ wn : World, (∀ ty, (Instr.next (.pointer (some ⟨r, 0, none⟩)) true ty).run Tryd.prog w = .ok (.tuple #[.bool true, .int .i64 pos, .int .i32 (Utf8.decode s pos).1]) wn) ∧ wn.heap.size = w.heap.size ∧ wn.heap[r]? = some (.stringIter s (pos + (Utf8.decode s pos).2)) ∧ (∀ k, k ≠ r → wn.heap[k]? = w.heap[k]?) ∧ wn.os = w.os ∧ wn.tape = w.tape ∧ wn.output = w.output := by
  have hlt := (Array.getElem?_eq_some_iff.1 hr).1
  refine ⟨{ w with heap := w.heap.setIfInBounds r (.stringIter s (pos + (Utf8.decode s pos).2)) }, fun ty => ?_, by simp, by simp [hlt], fun k hk => by simp only [Array.getElem?_setIfInBounds]; rw [if_neg (by omega)], rfl, rfl, rfl⟩
  simp only [Instr.next, getObj, setObj, Sem.run_bind, Sem.run, hr, Result.andThen, h, if_true]
  simp [goInt]
theorem next_none {w : World} {r : Nat} {s : ByteArray} {pos : Nat} (hr : w.heap[r]? = some (.stringIter s pos)) (h : ¬ pos < s.size) (ty : TypeId) :
    (Instr.next (.pointer (some ⟨r, 0, none⟩)) true ty).run Tryd.prog w = .ok (.tuple #[.bool false]) w := by
  simp [Instr.next, getObj, Sem.run, hr, h]

theorem flat_all {l m : List Int} {f : Int → List Int} : (l ++ m).flatMap f = l.flatMap f ++ m.flatMap f := List.flatMap_append
theorem expand_range {lns : List Tm.Ln} (hfit : ∀ o ∈ lns, Tm.Fit o) : ∀ (n : Nat) (r : Int), 0 ≤ r ∧ r ≤ 1114111 → ∀ x ∈ Tm.expand lns n r, 0 ≤ x ∧ x ≤ 1114111
  | 0, r, hr, x, hx => by simp [Tm.expand] at hx; subst hx; exact hr
  | n + 1, r, hr, x, hx => by
    rw [Tm.expand] at hx
    split at hx
    · simp at hx; subst hx; exact hr
    · obtain ⟨y, hy, hx⟩ := List.mem_flatMap.1 hx
      exact expand_range hfit n y (parts_range hfit r y hy) x hx
set_option maxRecDepth 100000 in
set_option maxHeartbeats 4000000 in
theorem normalForm_any (lns : List Tm.Ln) (hfit : ∀ o ∈ lns, Tm.Fit o) (hends : ∀ r, Tm.ends lns 4 r = true) (bm : Nat) (s : ByteArray) (w : World) (hs : s.size ≤ 64) (hrd : NodesRd w bm lns) :
    Calls Tryd.prog 46 #[.map (some bm), .string s] w fun e w' => ∃ v, e = .returned v ∧ w'.ownsRow (w.heap.size + 1) 3 1 v (normOf lns s).length (ints (normOf lns s)) ∧ Below w.heap.size w w' := by
  have HRD := hide hrd
  have HFIT := hide hfit
  have HENDS := hide hends
  clear hrd hends
  go_enter Tryd.func46, Tryd.ntmps46
  go_wp2_with fail
  have h0a : (w.iter s 0).heap[w.heap.size]? = some (.stringIter s 0) := World.iter_heap w s 0
  have h0b : Below w.heap.size w (w.iter s 0) := (Below.refl _ _).alloc (Nat.le_refl _) _
  have h0c : w.heap.size + 1 ≤ (w.iter s 0).heap.size := by simp [World.iter]
  have H0 := hide (And.intro h0a (And.intro h0b h0c))
  clear h0a h0b h0c
  have HSH := hide (Tm.flat_short (lns := lns) (fun q => parts_few hfit q) 4)
  go_loopw [5] (fun v wr => ∃ (pos : Nat) (ds : List Int), wr.heap[w.heap.size]? = some (.stringIter s pos) ∧ ds ++ runesFrom s s.size pos = runesOf s ∧ ds.length ≤ pos ∧ wr.ownsRow (w.heap.size + 1) 3 1 v (ds.flatMap (Tm.expand lns 4)).length (ints (ds.flatMap (Tm.expand lns 4))) ∧ Below w.heap.size w wr ∧ w.heap.size + 1 ≤ wr.heap.size) (fun _ wr => s.size - wr.iterPos w.heap.size)
  case atStart => exact ⟨0, [], H0.out.1, rfl, Nat.le_refl _, World.ownsRow_nil _ _ _ _, H0.out.2.1, H0.out.2.2⟩
  case round =>
    obtain ⟨pos, ds, hit, hds, hdl, hown, hb, hz⟩ := hrel
    have HIT := hide hit
    have HDS := hide hds
    have HO := hide hown
    have HB := hide hb
    have HIP : Hid (wr.iterPos w.heap.size = pos) := by unfold Hid World.iterPos; rw [hit]
    by_cases hp : pos < s.size
    · obtain ⟨wn, hnx, hnz, hnr, hno, n1, n2, n3⟩ := next_some hit hp
      have hw := decide_eq_true (p := True) trivial
      have hwd := decode_width s pos hp
      have hmost := decode_most s pos
      have HSTEP := hide (runesFrom_step hp)
      have HBn : Hid (Below w.heap.size w wn) := HB.out.trans ⟨n1, n2, n3, by omega, fun k hk => hno k (by omega)⟩
      have HOn := hide (ownsRow_same (w' := wn) HO.out (fun k hk => hno k (by have := (HO.out.lt k hk).1; omega)))
      have HNR := hide hnr
      have HNB : Hid (NB lns bm (w.heap.size + 1) wn) := ⟨w, HRD.out, HBn.out, by omega⟩
      have hlen : (ds.flatMap (Tm.expand lns 4)).length + 2 ^ 4 ≤ 100000 := by
        have h1 := HSH.out ds
        have h2 : ds.length ≤ 64 := by omega
        have h3 := Nat.mul_le_mul_right (2 ^ 4) h2
        omega
      obtain ⟨x, hx⟩ : ∃ x : Int, ((Utf8.decode s pos).1 : Int) = x := ⟨_, rfl⟩
      have hx0 : 0 ≤ x ∧ x ≤ 1114111 := by omega
      rw [hx] at hnx HSTEP
      generalize (Utf8.decode s pos).2 = wd at *
      clear hit hds hown hb hno n1 n2 n3 hnr hx hmost hw
      go_wp2_with fail
      refine (appendParts_any lns hfit bm (w.heap.size + 1) 4 x _ (ds.flatMap (Tm.expand lns 4)) wn (HENDS.out x) hx0 HNB.out HOn.out (by omega) hlen).mono ?_
      rintro e w3 ⟨v3, rfl, hown3, hb3⟩
      have hz3 := hb3.size
      have e1 : (ds ++ [x]).flatMap (Tm.expand lns 4) = ds.flatMap (Tm.expand lns 4) ++ Tm.expand lns 4 x := by rw [flat_all]; simp
      have HO3 : Hid (w3.ownsRow (w.heap.size + 1) 3 1 v3 ((ds ++ [x]).flatMap (Tm.expand lns 4)).length (ints ((ds ++ [x]).flatMap (Tm.expand lns 4)))) := by unfold Hid; rw [e1]; exact hown3
      have HIT3 : Hid (w3.heap[w.heap.size]? = some (.stringIter s (pos + wd))) := by unfold Hid; rw [hb3.block _ (by omega)]; exact HNR.out
      have HB3 : Hid (Below w.heap.size w w3) := HBn.out.trans (hb3.mono (by omega))
      have HDS3 : Hid (ds ++ [x] ++ runesFrom s s.size (pos + wd) = runesOf s) := by unfold Hid; rw [← HDS.out, HSTEP.out]; simp
      have HIP3 : Hid (w3.iterPos w.heap.size = pos + wd) := by unfold Hid World.iterPos; rw [HIT3.out]
      clear hown3 hb3 e1
      go_wp2
      go_roundw
      case rel => exact ⟨pos + wd, ds ++ [x], HIT3.out, HDS3.out, by simp; omega, HO3.out, HB3.out, by omega⟩
      case measure => rw [HIP3.out, HIP.out]; omega
    · have HE : Hid (ds = runesOf s) := by have h := hds; rw [runesFrom_end (by omega), List.append_nil] at h; exact h
      have hnx := fun ty => next_none hit hp ty
      have HNB : Hid (NB lns bm (w.heap.size + 1) wr) := ⟨w, HRD.out, HB.out, by omega⟩
      obtain ⟨xs, hxs⟩ : ∃ xs, ds.flatMap (Tm.expand lns 4) = xs := ⟨_, rfl⟩
      rw [hxs] at HO
      have HNO : Hid (normOf lns s = Tm.ord (Tm.classOf lns) xs) := by unfold Hid normOf; rw [← HE.out, hxs]
      have HXR : Hid (∀ x ∈ xs, 0 ≤ x ∧ x ≤ 1114111) := fun x hx => by
        rw [← hxs, HE.out] at hx
        obtain ⟨y, hy, hx⟩ := List.mem_flatMap.1 hx
        exact expand_range hfit 4 y (runesFrom_range y hy) x hx
      have hxl : xs.length ≤ 100000 := by
        have h1 := HSH.out ds
        have h2 : ds.length ≤ 64 := by have h := congrArg List.length hds; have h3 := runesFrom_short (s := s) (f := s.size) (pos := 0); simp [runesOf] at h; omega
        have h3 := Nat.mul_le_mul_right (2 ^ 4) h2
        rw [← hxs]; omega
      have hol := HO.out.2
      clear hit hds hown hb hxs
      rcases hol with ⟨hnil, hx0⟩ | ⟨g, cap, cur, hsl, _⟩
      · subst hnil
        have hxe : xs = [] := List.eq_nil_of_length_eq_zero hx0
        subst hxe
        have HN0 : Hid (normOf lns s = []) := HNO.out
        go_wp2_with fail
        refine (arrange_none bm _).mono ?_
        rintro e w3 ⟨rfl, rfl⟩
        go_wp2
        go_ret
        refine ⟨_, rfl, ?_, HB.out⟩
        rw [HN0.out]
        exact World.ownsRow_nil _ _ _ _
      · subst hsl
        go_wp2_with fail
        refine (arrange_any lns hfit bm (w.heap.size + 1) g cap xs _ HXR.out HNB.out HO.out hz hxl).mono ?_
        rintro e w3 ⟨rfl, hown3, hb3⟩
        have HF : Hid (w3.ownsRow (w.heap.size + 1) 3 1 (.slice (some ⟨g, 0, none⟩) xs.length cap) (normOf lns s).length (ints (normOf lns s))) := by unfold Hid; rw [HNO.out, Tm.ord_length]; exact hown3
        have HB3 : Hid (Below w.heap.size w w3) := HB.out.trans (hb3.mono (by omega))
        clear hown3 hb3
        go_wp2
        go_ret
        exact ⟨_, rfl, HF.out, HB3.out⟩

/-- What Normal answers. -/
def normAns (lns : List Tm.Ln) (s : ByteArray) (w : World) (e : Ending) (w' : World) : Prop :=
  if s.size ≤ 64 then ∃ v, e = .returned (.tuple #[v, .int .i64 0]) ∧ w'.ownsRow (w.heap.size + 1) 3 1 v (normOf lns s).length (ints (normOf lns s)) ∧ Below w.heap.size w w' else e = .returned (.tuple #[.slice none 0 0, .int .i64 7]) ∧ w' = w
set_option maxRecDepth 100000 in
theorem isLong_any (s : ByteArray) (w : World) : Calls Tryd.prog 40 #[.string s] w fun e w' => e = .returned (.bool (decide (64 < (s.size : Int)))) ∧ w' = w := by
  go_enter Tryd.func40, Tryd.ntmps40
  go_wp2
  go_ret
  exact ⟨rfl, rfl⟩
end Go.Proofs.YthaecjhnlpbfnaaDoor
namespace Go.Proofs.YthaecjhnlpbfnaaDoor
open Go.RowKit

theorem norm_short' {lns : List Tm.Ln} (hf : ∀ o ∈ lns, Tm.Fit o) {s : ByteArray} (hs : s.size ≤ 64) : (normOf lns s).length ≤ 1024 := by
  have h1 := Tm.flat_short (lns := lns) (fun q => parts_few hf q) 4 (runesOf s)
  have h2 := runesFrom_short (s := s) (f := s.size) (pos := 0)
  have h3 : (runesOf s).length ≤ 64 := by unfold runesOf; omega
  have h4 := Nat.mul_le_mul_right (2 ^ 4) h3
  rw [normOf, Tm.ord_length]
  omega
theorem norm_range {lns : List Tm.Ln} (hf : ∀ o ∈ lns, Tm.Fit o) (s : ByteArray) : ∀ r ∈ normOf lns s, 0 ≤ r ∧ r ≤ 1114111 := by
  intro r hr
  have := Tm.ord_mem hr
  obtain ⟨y, hy, hx⟩ := List.mem_flatMap.1 this
  exact expand_range hf 4 y (runesFrom_range y hy) r hx
theorem norm_calm (lns : List Tm.Ln) (s : ByteArray) : Tm.Calm (Tm.classOf lns) (normOf lns s) := Tm.ord_is_calm _

/-- A slice of slices of numbers reads as lists. -/
def ListsRd (w : World) (v : Value) (ls : List (List Int)) : Prop :=
  ∃ vs : List Value, vs.length = ls.length ∧ Reads w v 1 ls.length vs ∧ ∀ (k : Nat) (x : Value) (l : List Int), vs[k]? = some x → ls[k]? = some l → Reads w x 1 l.length (ints l)
theorem ListsRd.below {w w' : World} {v : Value} {ls : List (List Int)} (h : ListsRd w v ls) (hb : Below w.heap.size w w') : ListsRd w' v ls := by
  obtain ⟨vs, h1, h2, h3⟩ := h
  exact ⟨vs, h1, h2.below hb h2.2.1, fun k x l hx hl => (h3 k x l hx hl).below hb (h3 k x l hx hl).2.1⟩

set_option maxRecDepth 100000 in
set_option maxHeartbeats 1000000 in
theorem Clone_rows (v : Value) (xs : List Value) (w : World) (hr : Reads w v 1 xs.length xs) (h1 : ∀ u ∈ xs, u.oneCell' = true) (hl : xs.length ≤ 1000000) :
    Calls Tryd.prog 58 #[v] w fun e w' => ∃ v', e = .returned v' ∧ w'.ownsRow w.heap.size 53 1 v' xs.length xs ∧ Below w.heap.size w w' := by
  obtain ⟨i1, ki, kz0, kz1, kz2⟩ := info_parts (show (Tryd.prog.info? 53).map (fun i => (i.zero, i.size, i.bytes)) = some (some (.slice none 0 0), 1, 24) by kernel_rfl)
  have hnil := fun (w : World) (a : Option Addr) (n c : Nat) => Lib.run_eql_slice_nil (P := Tryd.prog) w 38 53 a n c 0 0 Tryd.underlying38
  have hr' := hr
  obtain ⟨hlen, hlt, a, cap, rfl, hcap, hc⟩ := hr'
  cases a with
  | none =>
    have h0 : xs = [] := by
      cases xs with
      | nil => rfl
      | cons x r =>
        obtain ⟨g, off, he, _⟩ := hc 0 x (by simp)
        cases he
    subst h0
    clear hr hc hlt h1 hlen
    go_enter Tryd.func58, Tryd.ntmps58
    go_wp2
    go_ret
    exact ⟨_, rfl, World.ownsRow_nil _ _ _ _, Below.refl _ _⟩
  | some ad =>
    obtain ⟨g, off, sp⟩ := ad
    have HC : Hid (∀ j u, xs[j]? = some u → (w.alloc (.cells #[] 53)).cell? ((⟨g, off, sp⟩ : Addr).add j) = some u) := fun j u hu => by
      obtain ⟨g', off', he, hcell⟩ := hc j u hu
      cases he
      rw [addr_add]
      rw [cell_old (hlt _ rfl)]
      exact hcell
    have HO : Hid ((w.alloc (.cells #[] 53)).ownsRow w.heap.size 53 1 (.slice (some ⟨w.heap.size, 0, none⟩) 0 0) 0 []) := World.ownsRow_made w #[] 0 (Nat.le_refl _) (Nat.zero_le _) rfl
    have H1 := hide h1
    clear hr hc hlt h1 hlen
    go_enter Tryd.func58, Tryd.ntmps58
    go_wp2_with (at_builtin; go_must (refine wpList_append_keep rfl _ _ 38 rfl w.heap.size 53 i1 (.slice none 0 0) 24 Tryd.underlying38 ki kz0 kz1 kz2 rfl _ _ _ rfl HO.out ⟨g, off, sp⟩ xs.length cap xs rfl (Nat.mul_one _).symm HC.out H1.out (by unfold maxLen; omega) (by omega) (by simp) ?_))
    intro v' w' hown hgr _ _
    have HO' := hide hown
    have HB : Hid (Below w.heap.size w w') := ((Below.refl _ _).alloc (Nat.le_refl _) _).grown hgr (by simp) (fun k hk => by simp [Value.ownBlock] at hk; omega)
    obtain ⟨a', cap', rfl⟩ := (Reads.of_owns hown).shape
    clear hown hgr
    go_wp2
    go_ret
    refine ⟨_, rfl, ?_, HB.out⟩
    have := HO'.out
    simpa using this
end Go.Proofs.YthaecjhnlpbfnaaDoor
namespace Go.Proofs.YthaecjhnlpbfnaaDoor
open Go.RowKit

set_option maxRecDepth 100000 in
set_option maxHeartbeats 1000000 in
theorem catch_panicking (bd c l e : Nat) (vc vl ve : Value) (q n : Int) (w : World) (hcl : ¬ c = l) (hce : ¬ c = e) (hle : ¬ l = e) (hd : ¬ bd = c)
    (hc : w.cell? ⟨c, 0, none⟩ = some vc) (hl : w.cell? ⟨l, 0, none⟩ = some vl) (he : w.cell? ⟨e, 0, none⟩ = some ve) (hcf : w.frozen? ⟨c, 0, none⟩ = false) (hlf : w.frozen? ⟨l, 0, none⟩ = false) (hef : w.frozen? ⟨e, 0, none⟩ = false) (hb : w.cell? ⟨bd, 1, none⟩ = some (.int .i64 n)) :
    CallsD Tryd.prog 67 #[.pointer (some ⟨bd, 0, none⟩), .pointer (some ⟨c, 0, none⟩), .pointer (some ⟨l, 0, none⟩), .pointer (some ⟨e, 0, none⟩)] (.panicking [{ v := .iface 33 (.int .i64 q), recovered := false }]) w fun x u' w' =>
      x = .returned (.tuple #[]) ∧ u' = .panicking [{ v := .iface 33 (.int .i64 q), recovered := true }] ∧ w' = (((w.setCell ⟨c, 0, none⟩ (.pointer none)).setCell ⟨l, 0, none⟩ (.int .i64 n)).setCell ⟨e, 0, none⟩ (.int .i64 1)).setCell ⟨e, 0, none⟩ (.int .i64 q) := by
  have hta : ∀ w : World, (Instr.typeAssert (.iface 33 (.int .i64 q)) 20 33 true).run Tryd.prog w = .ok (.tuple #[.int .i64 q, .bool true]) w := fun w => by kernel_rfl
  have h1 : ¬ l = c := fun h => hcl h.symm
  have h2 : ¬ e = c := fun h => hce h.symm
  have h3 : ¬ e = l := fun h => hle h.symm
  have h4 : ¬ c = bd := fun h => hd h.symm
  refine callsD_of_wpS Tryd.func67 rfl fun c₀ cs hu => ?_
  apply wpS_seq
  apply wpS_region
  simp [wpOpsS, go_sem, recoverD, hu, Tryd.ntmps67, Exit.thenS]
  refine wpS_of_wp ?_
  change Code.wp _ _ _ { tmps := #[.pointer (some ⟨bd, 0, none⟩), .pointer (some ⟨c, 0, none⟩), .pointer (some ⟨l, 0, none⟩), .pointer (some ⟨e, 0, none⟩), .iface 33 (.int .i64 q), undef, undef, .iface 33 (.int .i64 q), undef, undef, undef, undef, undef, undef, undef, undef, undef, undef, undef], defers := [] } w
  go_wp2
  cases c₀
  simp_all [bodyPostS, results, Tryd.results67]

set_option maxRecDepth 100000 in
theorem catch_idle (bd c l e : Addr) (w : World) :
    CallsD Tryd.prog 67 #[.pointer (some bd), .pointer (some c), .pointer (some l), .pointer (some e)] .returning w fun x u' w' => x = .returned (.tuple #[]) ∧ u' = .returning ∧ w' = w := by
  refine callsD_of_wpS Tryd.func67 rfl fun c₀ cs hu => ?_
  apply wpS_seq
  apply wpS_region
  simp [wpOpsS, go_sem, recoverD, hu, Tryd.ntmps67, Exit.thenS]
  refine wpS_of_wp ?_
  change Code.wp _ _ _ { tmps := #[.pointer (some bd), .pointer (some c), .pointer (some l), .pointer (some e), .nilIface, undef, undef, .nilIface, undef, undef, undef, undef, undef, undef, undef, undef, undef, undef, undef], defers := [] } w
  go_wp2
  cases c₀
  simp_all [bodyPostS, results, Tryd.results67]
end Go.Proofs.YthaecjhnlpbfnaaDoor
