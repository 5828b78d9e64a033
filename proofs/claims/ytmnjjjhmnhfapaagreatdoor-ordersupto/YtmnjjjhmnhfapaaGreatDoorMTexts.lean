import Derived.BigQuiet
import Derived.Deep.RegionHeld3
import Derived.Test.YtmnjjjhmnhfapaaGreatDoorMLevels
import Derived.Test.YtmnjjjhmnhfapaaGreatDoorMRefNum
namespace Go.Proofs.YtmnjjjhmnhfapaaGreatDoor
open Go.RowKit

theorem EBookIs.at {w : World} {bb B R capb : Nat} {ab : Option Addr} {rows : List Value} (h : EBookIs w bb B (.slice ab R capb) rows) {k : Nat} (hk : k < rows.length) :
    ∃ gb off n a c, ab = some ⟨gb, off, none⟩ ∧ gb < w.heap.size ∧ w.cell? ⟨gb, off + k, none⟩ = some (.slice a n c) ∧ n ≤ 100003 ∧ ∀ j, j < n → ∃ g o, a = some ⟨g, o, none⟩ ∧ g < w.heap.size ∧ w.cell? ⟨g, o + j * 4, none⟩ = some (.int .i64 (-1000 - (k : Int) / 4)) ∧ w.cell? ⟨g, o + j * 4 + 1, none⟩ = some (.int .i64 0) ∧ w.cell? ⟨g, o + j * 4 + 2, none⟩ = some (.int .i64 0) ∧ w.cell? ⟨g, o + j * 4 + 3, none⟩ = some (.bool true) := by
  have hrd := Reads.of_owns h.row
  obtain ⟨gb, off, cap, he, hgb, hc⟩ := hrd.form (by omega)
  cases he
  obtain ⟨n, hn, hr, _⟩ := h.marks k rows[k] (by simp [hk])
  obtain ⟨a, c, hs⟩ := hr.shape
  have hcu := hc k rows[k] (by simp [hk])
  rw [hs] at hcu hr
  refine ⟨gb, off, n, a, c, rfl, hgb, hcu, hn, fun j hj => ?_⟩
  have hl : (List.replicate n (⟨-1000 - (k : Int) / 4, 0, 0, true⟩ : Tm.El)).length = n := List.length_replicate
  obtain ⟨g, o, he', hg, c0, c1, c2, c3⟩ := els_at (els := List.replicate n (⟨-1000 - (k : Int) / 4, 0, 0, true⟩ : Tm.El)) (k := j) (by rw [hl]; exact hr) (by rw [hl]; exact hj)
  rw [List.getElem_replicate] at c0 c1 c2 c3
  exact ⟨g, o, he', hg, c0, c1, c2, c3⟩

set_option maxRecDepth 100000 in
set_option maxHeartbeats 4000000 in
theorem wholeE_any (bb B : Nat) (vb : Value) (rows : List Value) (w : World) (h : EBookIs w bb B vb rows) (hr : rows.length ≤ 100000000) :
    Calls Tryz.prog 16 #[.pointer (some ⟨bb, 0, none⟩)] w fun e w' => e = .returned (.bool true) ∧ Below w.heap.size w w' := by
  obtain ⟨ab, capb, rfl⟩ := (Reads.of_owns h.row).shape
  have HB := hide h
  have hbb := h.lt
  obtain ⟨R, hR⟩ : ∃ R, rows.length = R := ⟨_, rfl⟩
  rw [hR] at hr HB
  have HR := hide hR
  have HCE : Hid (∀ w', Below w.heap.size w w' → w'.cell? ⟨bb, 0, none⟩ = some (.slice none 0 0) ∧ w'.cell? ⟨bb, 1, none⟩ = some (.slice ab R capb) ∧ w'.cell? ⟨bb, 2, none⟩ = some (.slice none 0 0) ∧ w'.cell? ⟨bb, 3, none⟩ = some (.slice none 0 0)) := fun w' hb => by
    have h' := HB.out.stay hb
    exact ⟨h'.nil 0 (by omega), h'.cell, h'.nil 2 (by omega), h'.nil 3 (by omega)⟩
  obtain ⟨c0, c1, c2, c3⟩ := HCE.out w (Below.refl _ _)
  clear h hR
  go_enter Tryz.func16, Tryz.ntmps16
  go_wp2_with fail
  go_loop [3] (fun i => i = .int .i64 0) (fun _ => 0)
  case atStart => rfl
  case round =>
    subst hrel
    go_wp2_with fail
    go_loopw [5] (fun i wr => ∃ k : Nat, k ≤ R ∧ i = .int .i64 k ∧ Below w.heap.size w wr) (fun i _ => R - (intOf i).toNat)
    case atStart => exact ⟨0, Nat.zero_le _, rfl, Below.refl _ _⟩
    case round =>
      clear c0 c1 c2 c3
      obtain ⟨k, hk, rfl, hb⟩ := hrel
      obtain ⟨c0, c1, c2, c3⟩ := HCE.out wr hb
      have hbbr : bb < wr.heap.size := by have := hb.size; omega
      have HBR := hide hb
      by_cases hlt : k < R
      · obtain ⟨gb, off, n, a, c, rfl, hgb, cu, hn, hc⟩ := HB.out.at (k := k) (by rw [HR.out]; exact hlt)
        have HC := hide hc
        have HCU : Hid (∀ w', Below w.heap.size w w' → w'.cell? ⟨gb, off + k, none⟩ = some (.slice a n c)) := fun w' hb' => by rw [hb'.cell (p := ⟨gb, off + k, none⟩) hgb]; exact cu
        have cur := HCU.out wr hb
        have q1 : (0 : Int) ≤ (k : Int) / 4 := by omega
        have q2 : (k : Int) / 4 ≤ 1000000000 := by omega
        have i1 : (0 : Int) ≤ (k : Int) := by omega
        have i2 : (k : Int) < (R : Int) := by omega
        have I5 : Hid (IntKind.i64.wrap ((k : Int) / 4) = (k : Int) / 4) := by unfold Hid; rw [IntKind.wrap_i64]; omega
        have HM := hide (fun w => markElement_any ((k : Int) / 4) w ⟨q1, q2⟩)
        obtain ⟨mk, hmk⟩ : ∃ mk : Int, -1000 - (k : Int) / 4 = mk := ⟨_, rfl⟩
        rw [hmk] at HC HM
        rw [← I5.out] at HM
        clear hc hb cu hmk
        go_wp2_with fail
        obtain ⟨wo, rfl⟩ : ∃ wo : World, wo = wr := ⟨_, rfl⟩
        go_loopw [6] (fun i wi => ∃ j : Nat, j ≤ n ∧ i = .int .i64 j ∧ Below w.heap.size w wi) (fun i _ => n - (intOf i).toNat)
        case atStart => exact ⟨0, Nat.zero_le _, rfl, HBR.out⟩
        case round =>
          obtain ⟨j, hj, rfl, hbi⟩ := hrel
          clear c0 c1 c2 c3 cur hbbr
          obtain ⟨c0, c1, c2, c3⟩ := HCE.out wr hbi
          have cur := HCU.out wr hbi
          have hbbr : bb < wr.heap.size := by have := hbi.size; omega
          have HBI := hide hbi
          clear hbi
          by_cases hjl : j < n
          · obtain ⟨g, o, rfl, hg, d0, d1, d2, d3⟩ := HC.out j hjl
            have HD : Hid (∀ w', Below w.heap.size w w' → w'.cell? ⟨g, o + j * 4, none⟩ = some (.int .i64 mk) ∧ w'.cell? ⟨g, o + j * 4 + 1, none⟩ = some (.int .i64 0) ∧ w'.cell? ⟨g, o + j * 4 + 2, none⟩ = some (.int .i64 0) ∧ w'.cell? ⟨g, o + j * 4 + 3, none⟩ = some (.bool true)) := fun w' h => by
              rw [h.cell (p := ⟨g, o + j * 4, none⟩) hg, h.cell (p := ⟨g, o + j * 4 + 1, none⟩) hg, h.cell (p := ⟨g, o + j * 4 + 2, none⟩) hg, h.cell (p := ⟨g, o + j * 4 + 3, none⟩) hg]
              exact ⟨d0, d1, d2, d3⟩
            clear d0 d1 d2 d3
            obtain ⟨d0, d1, d2, d3⟩ := HD.out wr HBI.out
            have i3 : (0 : Int) ≤ (j : Int) := by omega
            have i4 : (j : Int) < (n : Int) := by omega
            go_upto_region 15 with fail
            go_cut [81] from 56 to 81 (fun t wx => t = .bool false ∧ Below w.heap.size w wx)
            case first =>
              go_region_held3 (fun wx => wx.cell? ⟨bb, 1, none⟩ = some (.slice (some ⟨gb, off, none⟩) R capb) ∧ wx.cell? ⟨gb, off + k, none⟩ = some (.slice (some ⟨g, o, none⟩) n c) ∧ wx.cell? ⟨g, o + j * 4, none⟩ = some (.int .i64 mk) ∧ wx.cell? ⟨g, o + j * 4 + 1, none⟩ = some (.int .i64 0) ∧ wx.cell? ⟨g, o + j * 4 + 2, none⟩ = some (.int .i64 0) ∧ wx.cell? ⟨g, o + j * 4 + 3, none⟩ = some (.bool true)) (go_keep)
                (first | (go_at_call 50; refine (HM.out _).mono ?_; rintro e wx1 ⟨rfl, hbx⟩; have HBX : Hid (Below w.heap.size w wx1) := HBI.out.drew.trans (hbx.mono (by exact HBI.out.drew.size)); clear hbx; obtain ⟨e0, e1, e2, e3⟩ := HD.out wx1 HBX.out; have cux := HCU.out wx1 HBX.out; obtain ⟨x0, x1, x2, x3⟩ := HCE.out wx1 HBX.out))
              all_goals (go_wp2_with fail; go_meet; exact ⟨rfl, HBX.out⟩)
            case rest =>
              obtain ⟨rfl, hbc⟩ := hcut
              have HBC := hide hbc
              clear hbc c0 c1 c2 c3 cur d0 d1 d2 d3
              go_wp2
              go_roundw
              case rel => exact ⟨j + 1, by omega, by go_num, HBC.out⟩
              case measure => simp [intOf]; omega
          · go_wp2
            go_roundw
            case rel => exact ⟨k + 1, by omega, by go_num, HBI.out⟩
            case measure => simp [intOf]; omega
      · clear hb
        go_wp2_with fail
        go_loop [7] (fun i => i = .int .i64 0) (fun _ => 0)
        case atStart => rfl
        case round =>
          subst hrel
          go_wp2_with fail
          go_loop [10] (fun i => i = .int .i64 0) (fun _ => 0)
          case atStart => rfl
          case round =>
            subst hrel
            go_wp2
            go_ret
            exact ⟨rfl, HBR.out⟩
end Go.Proofs.YtmnjjjhmnhfapaaGreatDoor
/-
  A slice of texts that came in.
-/
namespace Go.Proofs.YtmnjjjhmnhfapaaGreatDoor
open Go.RowKit

/-- The texts, as the slice of strings reads. -/
def strs (l : List ByteArray) : List Value := l.map Value.string
theorem strs_length (l : List ByteArray) : (strs l).length = l.length := by simp [strs]
theorem strs_get {l : List ByteArray} {k : Nat} (h : k < l.length) : (strs l)[k]? = some (.string l[k]) := by simp [strs, h]
/-- A slice value reads as texts. -/
def TextsRd (w : World) (v : Value) (texts : List ByteArray) : Prop := ∃ a cap, v = .slice a texts.length cap ∧ (0 < texts.length → Reads w v 1 texts.length (strs texts))
end Go.Proofs.YtmnjjjhmnhfapaaGreatDoor
