import Derived.Test.YtmnjjjhmnhfapaaGreatDoorMLawOpens
namespace Go.Proofs.YtmnjjjhmnhfapaaGreatDoor
open Go.RowKit
def exText : List UInt8 := [119, 32, 54, 49, 32, 61, 32, 49, 48, 46, 50, 48, 46, 50, 10, 119, 32, 54, 50, 32, 61, 32, 49, 49, 46, 50, 48, 46, 50, 10, 119, 32, 54, 51, 32, 54, 56, 32, 61, 32, 49, 51, 46, 50, 48, 46, 50, 10, 119, 32, 54, 51, 32, 61, 32, 49, 50, 46, 50, 48, 46, 50, 10, 119, 32, 51, 48, 49, 32, 61, 32, 48, 46, 50, 52, 46, 50, 10, 99, 32, 51, 48, 49, 32, 101, 54, 10, 100, 32, 101, 49, 32, 54, 49, 32, 51, 48, 49, 10, 119, 32, 50, 100, 32, 61, 32, 42, 51, 46, 50, 48, 46, 50]
theorem exText_ok : (Tm.newTable exText 3).2 = (0, 0) := by decide +kernel
set_option maxRecDepth 100000 in
theorem example_any (w : World) : Calls Tryz.prog 12 #[] w fun e w' => e = .returned (.string ⟨exText.toArray⟩) ∧ w' = w := by
 go_enter Tryz.func12, Tryz.ntmps12
 go_wp2
 go_ret
 exact ⟨rfl, rfl⟩
set_option maxRecDepth 100000 in
set_option maxHeartbeats 1000000 in
theorem plain_any {K : ByteArray → Int → Bool → Nat → Option Addr → World → Prop} (hNew : NewSaid K) (w : World) : Calls Tryz.prog 10 #[] w fun e w' => ∃ a, e = .returned (.pointer (some a)) ∧ K ⟨exText.toArray⟩ 3 false w.heap.size (some a) w' ∧ Below w.heap.size w w' := by
 go_enter Tryz.func10, Tryz.ntmps10
 go_wp2_with fail
 refine (example_any _).mono ?_
 rintro e w1 ⟨rfl, rfl⟩
 go_wp2_with fail
 refine (hNew.2 ⟨exText.toArray⟩ 3 false _ (by unfold maxLen; decide)).mono ?_
 rintro e w2 ⟨c, rfl, hc, hK, hb⟩
 have HK := hide hK
 clear hK
 have hx := exText_ok
 rw [hx] at hc
 obtain ⟨a, rfl⟩ : ∃ a, c = some a := by
  cases c with
  | none => exact absurd rfl (hc.1 rfl)
  | some a => exact ⟨a, rfl⟩
 have e1 : (Tm.newTable (ByteArray.mk exText.toArray).data.toList 3).2.1 = 0 := by simp [hx]
 have e2 : (Tm.newTable (ByteArray.mk exText.toArray).data.toList 3).2.2 = 0 := by simp [hx]
 rw [e1, e2]
 clear hx hc e1 e2
 go_wp2
 go_ret
 exact ⟨a, rfl, HK.out, hb⟩
end Go.Proofs.YtmnjjjhmnhfapaaGreatDoor
