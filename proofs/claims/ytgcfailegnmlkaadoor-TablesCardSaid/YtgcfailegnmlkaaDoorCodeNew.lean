import Derived.Test.YtgcfailegnmlkaaDoorCodeBuild
import Derived.Test.YtgcfailegnmlkaaDoorLawOpens
namespace Go.Proofs.YtgcfailegnmlkaaDoor
open Go.RowKit

theorem newTable_err {s : List UInt8} {st : Int} (h1 : ¬ (st < 1 ∨ 4 < st)) (h2 : ¬ 8192 < s.length) : (Tm.newTable s st).2 = tableErr s := by
  unfold Tm.newTable tableErr
  rw [if_neg h1, if_neg h2]
  split <;> rename_i h <;> rw [h]

set_option maxRecDepth 100000 in
set_option maxHeartbeats 1000000 in
theorem new_said : NewSaid := by
  intro s st sh w hs
  have hb0 : Below w.heap.size w (w.alloc (.cells #[.int .i64 st, .bool sh] 26)) := (Below.refl _ _).alloc (Nat.le_refl _) _
  have HB0 := hide hb0
  clear hb0
  by_cases h1 : st < 1 ∨ 4 < st
  · have HT := hide (Tm.newTable_option (t := s.data.toList) h1)
    by_cases h0 : st < 1
    · have hd : decide (st < 1) = true := by simpa using h0
      clear h1
      go_enter Tryd.func6, Tryd.ntmps6
      go_wp2
      go_ret3
      refine ⟨none, ?_, ?_, HB0.out⟩
      · rw [HT.out]; rfl
      · rw [HT.out]; simp
    · have hd : decide (st < 1) = false := by simpa using h0
      have hd' : decide (4 < st) = true := by simp; omega
      clear h1
      go_enter Tryd.func6, Tryd.ntmps6
      go_wp2
      go_ret3
      refine ⟨none, ?_, ?_, HB0.out⟩
      · rw [HT.out]; rfl
      · rw [HT.out]; simp
  · have hd : decide (st < 1) = false := by simp; omega
    have hd' : decide (4 < st) = false := by simp; omega
    by_cases h2 : 8192 < s.data.toList.length
    · have HT := hide (Tm.newTable_long (t := s.data.toList) h1 h2)
      have hl : decide (8192 < (s.size : Int)) = true := by rw [len_bytes] at h2; simp; omega
      clear h1 h2
      go_enter Tryd.func6, Tryd.ntmps6
      go_wp2
      go_ret3
      refine ⟨none, ?_, ?_, HB0.out⟩
      · rw [HT.out]; rfl
      · rw [HT.out]; simp
    · have HT := hide (newTable_err h1 h2)
      have hl : decide (8192 < (s.size : Int)) = false := by rw [len_bytes] at h2; simp; omega
      have hsz : s.size ≤ 8192 := by rw [len_bytes] at h2; omega
      clear h1 h2
      go_enter Tryd.func6, Tryd.ntmps6
      go_wp2_with fail
      refine (build_any s st sh _ hsz).mono ?_
      rintro e w1 ⟨c, rfl, hc, hb1⟩
      have HC := hide hc
      have HB1 : Hid (Below w.heap.size w w1) := HB0.out.trans (hb1.mono (by simp))
      clear hc hb1
      generalize tableErr s.data.toList = p at *
      obtain ⟨n, q⟩ := p
      simp only at HC
      go_wp2
      go_ret3
      refine ⟨c, ?_, ?_, HB1.out⟩
      · rw [HT.out]; rfl
      · rw [HT.out]; exact HC.out
end Go.Proofs.YtgcfailegnmlkaaDoor
