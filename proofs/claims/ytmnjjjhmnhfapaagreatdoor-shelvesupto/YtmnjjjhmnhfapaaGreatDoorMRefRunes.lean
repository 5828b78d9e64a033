import Derived.Test.YtmnjjjhmnhfapaaGreatDoorMRefOne
import Derived.Test.YtmnjjjhmnhfapaaGreatDoorMRefFirst
namespace Go.Proofs.YtmnjjjhmnhfapaaGreatDoor
open Go.RowKit
set_option maxRecDepth 100000 in
set_option maxHeartbeats 2000000 in
theorem Runes_any (s : ByteArray) (w : World) (hs : s.size ≤ 100000) :
  Calls Tryz.prog 90 #[.string s] w fun e w' => ∃ v, e = .returned v ∧ w'.ownsRow w.heap.size 3 1 v (runesOf s).length (ints (runesOf s)) ∧ Below w.heap.size w w' := by
 obtain ⟨i0, hi, hz0, hz1, hz2⟩ := info_parts Tryz.infoInt
 go_enter Tryz.func90, Tryz.ntmps90
 go_wp2
 go_loopw [3, 4] (fun v i wr => ∃ (pos : Nat) (ds : List Int), pos ≤ s.size ∧ i = .int .i64 pos ∧ ds ++ runesFrom s s.size pos = runesOf s ∧ ds.length ≤ pos ∧ wr.ownsRow w.heap.size 3 1 v ds.length (ints ds) ∧ Below w.heap.size w wr) (fun _ i _ => s.size - (intOf i).toNat)
 case atStart => exact ⟨0, [], Nat.zero_le _, rfl, rfl, Nat.le_refl _, World.ownsRow_nil _ _ _ _, Below.refl _ _⟩
 case round =>
  obtain ⟨pos, ds, hpz, rfl, hds, hdl, hown, hb⟩ := hrel
  have HDS := hide hds
  have HB := hide hb
  have hzr := hb.size
  clear hds hb
  by_cases hp : pos < s.size
  ·have hwd := decode_width s pos hp
   have HSTEP := hide (runesFrom_step hp)
   have hmost := decode_fits s pos hp
   have HO := hide hown
   clear hown
   go_wp2_with fail
   refine (one_any (s.extract pos s.size) _ (by rw [extract_size s hpz]; unfold maxLen; omega) (by rw [extract_size s hpz]; omega)).mono ?_
   rintro e w2 ⟨rfl, rfl⟩
   rw [oneAns, decode_extract s hpz]
   obtain ⟨x, hx⟩ : ∃ x : Int, ((Utf8.decode s pos).1 : Int) = x := ⟨_, rfl⟩
   rw [hx] at HSTEP ⊢
   generalize (Utf8.decode s pos).2 = wd at *
   clear hx
   have hown := HO.out
   obtain ⟨ao, capo, rfl⟩ := (Reads.of_owns hown).shape
   go_wp2_with (at_builtin; refine wpList_append_own _ rfl _ _ 83 rfl w.heap.size 3 i0 (.int .i64 0) 1 8 Tryz.underlying83 hi hz0 hz1 hz2 rfl (by decide) _ _ _ rfl (hown.alloc _) ⟨w2.heap.size, 0, none⟩ 1 1 [.int .i64 x] rfl rfl news_one (by intro u hu; simp at hu; subst hu; rfl) (by unfold maxLen; omega) (by omega) (by simp; omega) ?_)
   intro v' w3 hown' hgrow _
   have hown2 : w3.ownsRow w.heap.size 3 1 v' (ds ++ [x]).length (ints (ds ++ [x])) := by
    simpa [ints] using hown'
   have hb3 : Hid (Below w.heap.size w w3) := (HB.out.alloc (by omega) _).grown hgrow (by simp; omega) (fun k hk => (hown.lt k hk).1)
   have HDS3 : Hid (ds ++ [x] ++ runesFrom s s.size (pos + wd) = runesOf s) := by unfold Hid; rw [← HDS.out, HSTEP.out]; simp
   clear hown' hgrow hown
   go_wp2
   go_roundw
   case rel => exact ⟨pos + wd, ds ++ [x], by omega, by go_num, HDS3.out, by simp; omega, hown2, hb3.out⟩
   case measure => simp [intOf]; omega
  ·have HE : Hid (ds = runesOf s) := by have h := HDS.out; rw [runesFrom_end (by omega), List.append_nil] at h; exact h
   rw [HE.out] at hown
   have HO := hide hown
   clear hown
   go_wp2
   go_ret
   exact ⟨_, rfl, HO.out, HB.out⟩
end Go.Proofs.YtmnjjjhmnhfapaaGreatDoor
