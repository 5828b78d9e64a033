import Derived.Test.YtmnjjjhmnhfapaaGreatDoorMCodeNorm
namespace Go.Proofs.YtmnjjjhmnhfapaaGreatDoor
open Go.RowKit

set_option maxRecDepth 100000 in
theorem Normal_any (lns : List Tm.Ln) (hfit : ∀ o ∈ lns, Tm.Fit o) (hends : ∀ r, Tm.ends lns 4 r = true) (bc bm : Nat) (s : ByteArray) (w : World) (hc : w.cell? ⟨bc, 0, none⟩ = some (.map (some bm))) (hrd : NodesRd w bm lns) :
    Calls Tryz.prog 105 #[.pointer (some ⟨bc, 0, none⟩), .string s] w fun e w' => normAns lns s w e w' := by
  have HRD := hide hrd
  have HENDS := hide hends
  clear hrd hends
  by_cases hs : s.size ≤ 64
  · have hd : decide (64 < (s.size : Int)) = false := by simp <;> omega
    go_enter Tryz.func105, Tryz.ntmps105
    go_wp2_with fail
    refine (isLong_any s _).mono ?_
    rintro e w0 ⟨rfl, rfl⟩
    rw [hd]
    go_wp2_with fail
    refine (normalForm_any lns hfit HENDS.out bm s _ hs HRD.out).mono ?_
    rintro e w1 ⟨v, rfl, hown, hb⟩
    have HO := hide hown
    have HB := hide hb
    clear hown hb
    go_wp2
    go_ret2
    unfold normAns
    rw [if_pos hs]
    exact ⟨v, rfl, HO.out, HB.out⟩
  · have hd : decide (64 < (s.size : Int)) = true := by simp <;> omega
    go_enter Tryz.func105, Tryz.ntmps105
    go_wp2_with fail
    refine (isLong_any s _).mono ?_
    rintro e w0 ⟨rfl, rfl⟩
    rw [hd]
    go_wp2
    go_ret2
    unfold normAns
    rw [if_neg hs]
    exact ⟨rfl, rfl⟩
end Go.Proofs.YtmnjjjhmnhfapaaGreatDoor
