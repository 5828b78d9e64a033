/-
  strings.Cut at a separator of one byte.
-/
import Derived.Test.YthaecjhnlpbfnaaDoorLibMore
import Derived.WalkSmall
namespace Go.Proofs.YthaecjhnlpbfnaaDoor
open Go.RowKit

/-- What Cut answers. -/
def cutAns (s : ByteArray) (c : UInt8) (e : Ending) : Prop :=
  (∃ m : Nat, m < s.size ∧ e = .returned (.tuple #[.string (s.extract 0 m), .string (s.extract (m + 1) s.size), .bool true]) ∧ Tm.split c s.data.toList = (s.extract 0 m).data.toList :: Tm.split c (s.extract (m + 1) s.size).data.toList) ∨
  (e = .returned (.tuple #[.string s, .string ⟨#[]⟩, .bool false]) ∧ Tm.split c s.data.toList = [s.data.toList])

set_option maxRecDepth 100000 in
set_option maxHeartbeats 1000000 in
theorem sliteCut_one (s : ByteArray) (c : UInt8) (w : World) (hs : s.size ≤ 8192) : Calls Tryd.prog 95 #[.string s, .string ⟨#[c]⟩] w fun e w' => cutAns s c e ∧ ∃ n, w' = w.drewN n := by
  rcases split_at c s.data.toList with ⟨h1, h2, _⟩ | ⟨m, h1, h2, h3, _⟩
  · have HI := hide h1
    have HS := hide h2
    clear h1 h2
    go_enter Tryd.func95, Tryd.ntmps95
    go_wp2_with fail
    refine (sliteIndex_one s c _).mono ?_
    rintro e w1 ⟨rfl, rfl⟩
    rw [HI.out]
    go_wp2
    go_ret3
    exact ⟨.inr ⟨rfl, HS.out⟩, 0, rfl⟩
  · rw [len_bytes] at h2
    have HI := hide h1
    have e1 : (s.extract (m + 1) s.size).data.toList = s.data.toList.drop (m + 1) := by
      rw [extract_bytes, List.take_of_length_le (by rw [List.length_drop, len_bytes]; omega)]
    have e2 : (s.extract 0 m).data.toList = s.data.toList.take m := by rw [extract_bytes]; simp
    have HS : Hid (Tm.split c s.data.toList = (s.extract 0 m).data.toList :: Tm.split c (s.extract (m + 1) s.size).data.toList) := by unfold Hid; rw [e1, e2]; exact h3
    have i1 : (0 : Int) ≤ (m : Int) := by omega
    have i2 : (m : Int) ≤ (s.size : Int) := by omega
    have i3 : (m : Int) + 1 ≤ (s.size : Int) := by omega
    clear h1 h3 e1 e2
    go_enter Tryd.func95, Tryd.ntmps95
    go_wp2_with fail
    refine (sliteIndex_one s c _).mono ?_
    rintro e w1 ⟨rfl, rfl⟩
    rw [HI.out]
    go_wp2
    go_quiet (fail)
    go_wp2
    go_ret3
    exact ⟨.inl ⟨m, h2, rfl, HS.out⟩, nq, rfl⟩

set_option maxRecDepth 100000 in
theorem Cut_one (s : ByteArray) (c : UInt8) (w : World) (hs : s.size ≤ 8192) : Calls Tryd.prog 85 #[.string s, .string ⟨#[c]⟩] w fun e w' => cutAns s c e ∧ ∃ n, w' = w.drewN n := by
  go_enter Tryd.func85, Tryd.ntmps85
  go_wp2_with fail
  refine (sliteCut_one s c _ hs).mono ?_
  rintro e w1 ⟨hc, n, rfl⟩
  rcases hc with ⟨m, h1, rfl, h2⟩ | ⟨rfl, h2⟩
  · have HS := hide h2
    clear h2
    go_wp2
    go_ret3
    exact ⟨.inl ⟨m, h1, rfl, HS.out⟩, n, rfl⟩
  · have HS := hide h2
    clear h2
    go_wp2
    go_ret3
    exact ⟨.inr ⟨rfl, HS.out⟩, n, rfl⟩
end Go.Proofs.YthaecjhnlpbfnaaDoor
