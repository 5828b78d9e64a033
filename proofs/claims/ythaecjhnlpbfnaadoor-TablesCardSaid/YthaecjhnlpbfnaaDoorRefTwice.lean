import Derived.Test.YthaecjhnlpbfnaaDoorRefBelow
import Derived.Deep.QuietTactic
import Derived.BigQuiet
namespace Go.Proofs.YthaecjhnlpbfnaaDoor
open Go.RowKit

set_option maxRecDepth 100000 in
set_option maxHeartbeats 2000000 in
theorem twice_any (vl : Value) (st : Int) (sh : Bool) (kl : ByteArray) (vr ve : Value) (n : Int) (ln : Tm.Ln) (lns : List Tm.Ln) (w : World) (ht : TableRd w vl lns) (hr : Reads w vr 1 ln.runes.length (ints ln.runes)) (hkl : kl.data.toList = ln.kind) (hl : lns.length ≤ 1000000) (hl2 : ln.runes.length ≤ 1000000) (hl3 : ∀ o ∈ lns, o.runes.length ≤ 1000000) (hn1 : ln.runes ≠ []) (hn2 : ∀ o ∈ lns, o.runes ≠ []) (hve : ∃ a m c, ve = .slice a m c) :
    Calls Tryd.prog 26 #[.agg #[vl, .int .i64 st, .bool sh], .agg #[.string kl, vr, ve, .int .i64 n]] w fun e w' => e = .returned (.bool (Tm.twice lns ln)) ∧ Below w.heap.size w w' := by
  obtain ⟨a, cap, rfl⟩ := ht.shape
  obtain ⟨ar, capr, rfl⟩ := hr.shape
  obtain ⟨ave, mve, cve, rfl⟩ := hve
  have HT := hide ht
  have HR := hide hr
  have HL3 := hide hl3
  have HN2 := hide hn2
  have HK := hide hkl
  have hpl : 0 < ln.runes.length := List.length_pos_iff.2 hn1
  obtain ⟨gl, offl, rfl, hgl, cl⟩ := hr.at hpl
  simp only [Nat.add_zero] at cl
  have HCL := hide cl
  clear ht hr hl3 hn2 hkl cl
  go_enter Tryd.func26, Tryd.ntmps26
  go_wp2
  go_loopw [5] (fun i wr => ∃ k : Nat, k ≤ lns.length ∧ i = .int .i64 k ∧ Below (w.heap.size + 2) ((w.alloc (.cells #[.slice a lns.length cap, .int .i64 st, .bool sh] 28)).alloc (.cells #[.string kl, .slice (some ⟨gl, offl, none⟩) ln.runes.length capr, .slice ave mve cve, .int .i64 n] 72)) wr ∧ ∀ j (_ : j < k) (hj : j < lns.length), Tm.clash ln lns[j] = false) (fun i _ => lns.length - (intOf i).toNat)
  case atStart => exact ⟨0, Nat.zero_le _, rfl, Below.refl _ _, fun j hj => by omega⟩
  case round =>
    obtain ⟨k, hk, rfl, hb, hno⟩ := hrel
    have hb0 : Below w.heap.size w wr := (((Below.refl _ _).alloc (Nat.le_refl _) _).alloc (by simp) _).trans (hb.mono (by omega))
    have HB := hide hb0
    have HBB := hide hb
    have b0 : wr.cell? ⟨w.heap.size, 0, none⟩ = some (.slice a lns.length cap) := by rw [hb.cell (by simp)]; simp
    by_cases hlt : k < lns.length
    · have l0 : wr.cell? ⟨w.heap.size + 1, 0, none⟩ = some (.string kl) := by rw [hb.cell (by simp)]; simp
      have l1 : wr.cell? ⟨w.heap.size + 1, 1, none⟩ = some (.slice (some ⟨gl, offl, none⟩) ln.runes.length capr) := by rw [hb.cell (by simp)]; simp
      have hzr : w.heap.size + 2 ≤ wr.heap.size := by have := hb.size; simpa using this
      obtain ⟨g, off, kb, vr', ve', rfl, hg, c0, c1, c2, c3, hkb, hr', he'⟩ := (HT.out.below hb0).at hlt
      have hpk : 0 < lns[k].runes.length := List.length_pos_iff.2 (HN2.out _ (List.getElem_mem hlt))
      obtain ⟨ar', capr', rfl⟩ := hr'.shape
      obtain ⟨ae', cape', rfl⟩ := he'.shape
      obtain ⟨gr, offr, rfl, hgr, cr⟩ := hr'.at hpk
      simp only [Nat.add_zero] at cr
      have clr : wr.cell? ⟨gl, offl, none⟩ = some (.int .i64 ln.runes[0]) := by rw [hb0.cell (by simpa using hgl)]; exact HCL.out
      have hle := HL3.out _ (List.getElem_mem hlt)
      have hrw := HR.out.below hb0 HR.out.2.1
      have hcl : Tm.clash ln lns[k] = ((kb.toList == kl.toList) && (((kl.toList == [119]) && decide (lns[k].runes = ln.runes)) || (!(kl.toList == [119]) && (lns[k].runes[0] == ln.runes[0])))) := by
        unfold Tm.clash
        rw [← hkb, ← HK.out, ByteArray.toList_eq, ByteArray.toList_eq]
        congr 1
        · rw [Bool.eq_iff_iff]; simp
        · have e1 : decide (kl.data.toList = [119]) = (kl.data.toList == [119]) := by rw [Bool.eq_iff_iff]; simp
          rw [e1]
          simp [hpk, hpl]
      have HX : Hid (Tm.clash ln lns[k] = false → ∀ j (_ : j < k + 1) (hj : j < lns.length), Tm.clash ln lns[j] = false) := fun hx => find_step hno hlt hx
      have HY : Hid (Tm.clash ln lns[k] = true → Tm.twice lns ln = true) := fun hx => any_true hlt hx
      rw [hcl] at HX HY
      clear hno hcl hb hb0 hkb he'
      have g1 : ¬ gl = wr.heap.size := by have := HB.out.size; omega
      have g2 : ¬ gr = wr.heap.size := by omega
      have g3 : ¬ w.heap.size + 1 = wr.heap.size := by omega
      have g4 : ¬ w.heap.size = wr.heap.size := by omega
      have g5 : w.heap.size + 1 < wr.heap.size := by omega
      have g6 : gl < wr.heap.size := by omega
      go_wp2_with fail
      refine (sameInts_any _ _ lns[k].runes ln.runes _ (hr'.below ((Below.refl _ _).alloc (Nat.le_refl _) _) hr'.2.1) (hrw.below ((Below.refl _ _).alloc (Nat.le_refl _) _) hrw.2.1) hle hl2).mono ?_
      rintro e w2 ⟨rfl, nq, rfl⟩
      generalize decide (lns[k].runes = ln.runes) = same at *
      generalize lns[k].runes[0] = x0 at *
      generalize ln.runes[0] = y0 at *
      have i1 : (0 : Int) < (lns[k].runes.length : Int) := by omega
      have i2 : (0 : Int) < (ln.runes.length : Int) := by omega
      clear hr' hrw hle
      cases hk1 : (kb.toList == kl.toList)
      · have HX' := hide (HX.out (by rw [hk1]; rfl))
        go_wp2_with fail
        go_quiet (fail)
        go_wp2
        go_roundw
        case rel => exact ⟨k + 1, by omega, by go_num, by (repeat (first | with_reducible refine below_drewN ?_ _ | with_reducible refine Below.drew ?_ | with_reducible refine Below.alloc ?_ (by omega) _ | with_reducible exact HBB.out)), HX'.out⟩
        case measure => simp [intOf]; omega
      · cases hk2 : (kl.toList == [119])
        · have hk2' : (kl.toList != [119]) = true := by simp only [bne, hk2]; rfl
          have hk2'' : (!(kl.toList == [119])) = true := by rw [hk2]; rfl
          cases hk3 : (x0 == y0)
          · have HX' := hide (HX.out (by rw [hk1, hk2, hk3]; rfl))
            go_wp2_with fail
            go_quiet (fail)
            go_wp2
            go_roundw
            case rel => exact ⟨k + 1, by omega, by go_num, by (repeat (first | with_reducible refine below_drewN ?_ _ | with_reducible refine Below.drew ?_ | with_reducible refine Below.alloc ?_ (by omega) _ | with_reducible exact HBB.out)), HX'.out⟩
            case measure => simp [intOf]; omega
          · have HY' := hide (HY.out (by rw [hk1, hk2, hk3]; rfl))
            go_wp2_with fail
            go_quiet (fail)
            go_wp2
            go_ret
            exact ⟨ret_bool HY'.out.symm, by (repeat (first | with_reducible refine below_drewN ?_ _ | with_reducible refine Below.drew ?_ | with_reducible refine Below.alloc ?_ (by omega) _ | with_reducible exact HB.out))⟩
        · cases same
          · have HX' := hide (HX.out (by rw [hk1, hk2]; rfl))
            go_wp2_with fail
            go_quiet (fail)
            go_wp2
            go_roundw
            case rel => exact ⟨k + 1, by omega, by go_num, by (repeat (first | with_reducible refine below_drewN ?_ _ | with_reducible refine Below.drew ?_ | with_reducible refine Below.alloc ?_ (by omega) _ | with_reducible exact HBB.out)), HX'.out⟩
            case measure => simp [intOf]; omega
          · have HY' := hide (HY.out (by rw [hk1, hk2]; rfl))
            go_wp2_with fail
            go_quiet (fail)
            go_wp2
            go_ret
            exact ⟨ret_bool HY'.out.symm, by (repeat (first | with_reducible refine below_drewN ?_ _ | with_reducible refine Below.drew ?_ | with_reducible refine Below.alloc ?_ (by omega) _ | with_reducible exact HB.out))⟩
    · have HN := hide (any_false (p := Tm.clash ln) hno (by omega))
      clear hno hb hb0
      go_wp2
      go_ret
      exact ⟨ret_bool HN.out.symm, HB.out⟩
end Go.Proofs.YthaecjhnlpbfnaaDoor
