/-
  Stored: how many of a list's versions another list has not.
-/
import Derived.LaidEqlPtr
import Derived.Test.YtmnjjjhmnhfapaaGreatDoorMIxSnap2
namespace Go.Proofs.YtmnjjjhmnhfapaaGreatDoor
open Go.RowKit

namespace Tm
/-- Has a list the version of this number? -/
def hasVer (l : Vers) (n : Nat) : Bool := l.any (fun y => decide (y.1 = n))
/-- How many of a list's versions another list has not. -/
def lacks (a b : Vers) : Nat := (a.filter (fun x => !hasVer b x.1)).length
theorem hasVer_mem {l : Vers} {x : Ver} (h : x ∈ l) : hasVer l x.1 = true := List.any_eq_true.2 ⟨x, h, by simp⟩
theorem mem_of_hasVer {l : Vers} {x : Ver} (h1 : ∀ y ∈ l, y.1 = x.1 → y = x) (h : hasVer l x.1 = true) : x ∈ l := by
  obtain ⟨y, hy, he⟩ := List.any_eq_true.1 h
  have := h1 y hy (by simpa using he)
  rwa [this] at hy
end Tm
/-- What 'has' answers, by the place that the search finds. -/
theorem has_at {c : ByteArray → ByteArray → Int} (hT : Tm.Told c) {l : Tm.Vers} (hr : Tm.Rises (Tm.ByKey c) (Tm.entsOf l)) {x : Tm.Ver} (h1 : ∀ y ∈ l, y.1 = x.1 → y = x) :
    (Tm.ixHas c (Tm.entsOf l) x.2.1 = false → Tm.hasVer l x.1 = false) ∧ ∀ (hb : Tm.below c (Tm.entsOf l) x.2.1 < l.length), Tm.hasVer l x.1 = decide (l[Tm.below c (Tm.entsOf l) x.2.1].1 = x.1) := by
  have hmem : Tm.hasVer l x.1 = true → ∃ hb : Tm.below c (Tm.entsOf l) x.2.1 < l.length, l[Tm.below c (Tm.entsOf l) x.2.1] = x := fun h => by
    have hx := Tm.mem_of_hasVer h1 h
    obtain ⟨j, hj, hje⟩ := List.mem_iff_getElem.1 hx
    have hh : Tm.ixHas c (Tm.entsOf l) x.2.1 = true := List.any_eq_true.2 ⟨x.2, List.mem_map.2 ⟨x, hx, rfl⟩, by simpa using hT.self x.2.1⟩
    have hs := (Tm.sign_at hT hr hh (i := j) (by rw [Tm.entsOf_length]; exact hj)).1
    rw [Tm.entsOf_get hj, hje] at hs
    have := hs.1 (hT.self x.2.1)
    subst this
    exact ⟨hj, hje⟩
  refine ⟨fun hf => ?_, fun hb => ?_⟩
  · rw [Bool.eq_false_iff]
    intro h
    have hx := Tm.mem_of_hasVer h1 h
    have hh : Tm.ixHas c (Tm.entsOf l) x.2.1 = true := List.any_eq_true.2 ⟨x.2, List.mem_map.2 ⟨x, hx, rfl⟩, by simpa using hT.self x.2.1⟩
    rw [hh] at hf; cases hf
  · rw [Bool.eq_iff_iff, decide_eq_true_eq]
    constructor
    · intro h
      obtain ⟨_, e⟩ := hmem h
      rw [e]
    · intro e
      exact List.any_eq_true.2 ⟨_, List.getElem_mem hb, by simpa using e⟩

theorem Tryz.infoVersion : (Tryz.prog.info? 137).map (fun i => (i.zero, i.size, i.bytes)) = some (some (.agg #[.string ⟨#[]⟩, .string ⟨#[]⟩, .string ⟨#[]⟩]), 3, 48) := by kernel_rfl
set_option maxRecDepth 100000 in
set_option maxHeartbeats 1000000 in
theorem hasVer_any (K : ByteArray → ByteArray) (c : ByteArray → ByteArray → Int) (hK : Keyed K c) (hT : Tm.Told c) (l : Tm.Vers) (hr : Tm.Rises (Tm.ByKey c) (Tm.entsOf l)) (B : Nat → Nat) (v : Value) (x : Tm.Ver) (w : World) (hrd : VRow w K B v l) (hx : VerAt w K B x) (h1 : ∀ y ∈ l, y.1 = x.1 → y = x) (hB : ∀ y ∈ l, B y.1 = B x.1 → y.1 = x.1) (hl : l.length ≤ 1000) :
    Calls Tryz.prog 116 #[v, .pointer (some ⟨B x.1, 0, none⟩)] w fun e w' => e = .returned (.bool (Tm.hasVer l x.1)) ∧ Below w.heap.size w w' := by
  have HA := hide (has_at hT hr h1)
  have HAT := hide (Tm.ixHas_at hT (k := x.2.1) hr)
  have HRD := hide hrd
  have HBI := hide hB
  obtain ⟨i0, hi0, _, hzs, _⟩ := info_parts Tryz.infoVersion
  obtain ⟨x0, x1, _, _, x4⟩ := hx
  obtain ⟨a, cap, rfl⟩ := hrd.reads.shape
  clear hrd hB h1
  go_enter Tryz.func116, Tryz.ntmps116
  go_wp2_with fail
  refine (find_any K c hK hT l hr B _ x.2.1 _ HRD.out hl).mono ?_
  rintro e w1 ⟨rfl, hb1⟩
  have HB1 := hide hb1
  have HR1 := hide (HRD.out.below hb1)
  clear hb1
  cases hh : Tm.ixHas c (Tm.entsOf l) x.2.1
  · have HF := hide (HA.out.1 hh)
    go_wp2
    go_ret
    exact ⟨by rw [HF.out]; rfl, HB1.out⟩
  · obtain ⟨hi, _⟩ := HAT.out.1 hh
    rw [Tm.entsOf_length] at hi
    have HF := hide (HA.out.2 hi)
    obtain ⟨g, off, rfl, hg, y0, hva⟩ := HR1.out.get hi
    have hx4 : w1.heap[B x.1]? = _ := (HB1.out.block (B x.1) x0).trans x4
    have hy4 := hva.2.2.2.2
    have HE : Hid (B l[Tm.below c (Tm.entsOf l) x.2.1].1 = B x.1 ↔ l[Tm.below c (Tm.entsOf l) x.2.1].1 = x.1) := ⟨HBI.out _ (List.getElem_mem hi), fun e => by rw [e]⟩
    generalize l[Tm.below c (Tm.entsOf l) x.2.1] = y at *
    generalize Tm.below c (Tm.entsOf l) x.2.1 = i at *
    have i1 : (0 : Int) ≤ (i : Int) := by omega
    have i2 : (i : Int) < (l.length : Int) := by omega
    clear hva
    by_cases he : y.1 = x.1
    · have he2 : B y.1 = B x.1 := by rw [he]
      have HT : Hid (Tm.hasVer l x.1 = true) := by unfold Hid; rw [HF.out]; simpa using he
      rw [he2] at y0
      have hq := run_eql_ptr_same (P := Tryz.prog) w1 (tp := 138) ⟨B x.1, 0, none⟩ Tryz.underlying138 hi0
      go_wp2
      go_ret
      exact ⟨by rw [HT.out]; rfl, HB1.out⟩
    · have he2 : ¬ B y.1 = B x.1 := fun e => he (HE.out.1 e)
      have HT : Hid (Tm.hasVer l x.1 = false) := by unfold Hid; rw [HF.out]; simpa using he
      have hq := run_eql_ptr_other (P := Tryz.prog) w1 (tp := 138) (a := ⟨B y.1, 0, none⟩) (b := ⟨B x.1, 0, none⟩) Tryz.underlying138 hi0 (by omega) (by intro e; injection e with e1; exact he2 e1) hy4 hx4
      clear hx4 hy4
      go_wp2
      go_ret
      exact ⟨by rw [HT.out]; rfl, HB1.out⟩

set_option maxRecDepth 100000 in
set_option maxHeartbeats 2000000 in
theorem countNotIn_any (K : ByteArray → ByteArray) (c : ByteArray → ByteArray → Int) (hK : Keyed K c) (hT : Tm.Told c) (l m : Tm.Vers) (hr : Tm.Rises (Tm.ByKey c) (Tm.entsOf m)) (B : Nat → Nat) (vl vm : Value) (w : World) (hrl : VRow w K B vl l) (hrm : VRow w K B vm m) (h1 : ∀ x ∈ l, ∀ y ∈ m, y.1 = x.1 → y = x) (hB : ∀ x ∈ l, ∀ y ∈ m, B y.1 = B x.1 → y.1 = x.1) (hl : l.length ≤ 1000) (hm : m.length ≤ 1000) :
    Calls Tryz.prog 72 #[vl, vm] w fun e w' => e = .returned (.int .i64 (Tm.lacks l m : Nat)) ∧ Below w.heap.size w w' := by
  obtain ⟨a, cap, rfl⟩ := hrl.reads.shape
  have HRL := hide hrl
  have HH : Hid (∀ wr, Below w.heap.size w wr → ∀ k (hk : k < l.length), Calls Tryz.prog 116 #[vm, .pointer (some ⟨B l[k].1, 0, none⟩)] wr fun e w' => e = .returned (.bool (Tm.hasVer m l[k].1)) ∧ Below wr.heap.size wr w') := fun wr hb k hk =>
    hasVer_any K c hK hT m hr B vm l[k] wr (hrm.below hb) ((hrl.below hb).at_ _ (List.getElem_mem hk)) (h1 _ (List.getElem_mem hk)) (hB _ (List.getElem_mem hk)) hm
  obtain ⟨am, capm, rfl⟩ := hrm.reads.shape
  obtain ⟨n, hn⟩ : ∃ n, l.length = n := ⟨_, rfl⟩
  have HN := hide hn
  rw [hn] at hl
  have HRN : Hid (∀ wr, Below w.heap.size w wr → VRow wr K B (.slice a n cap) l) := fun wr hb => by have := hrl.below hb; rwa [hn] at this
  rw [hn]
  clear hrl hrm h1 hB hn HRL
  go_enter Tryz.func72, Tryz.ntmps72
  go_wp2_with fail
  go_loopw [5, 10] (fun ct i wr => ∃ k : Nat, k ≤ n ∧ i = .int .i64 k ∧ (∃ q : Nat, q ≤ k ∧ ct = .int .i64 q ∧ Hid (q = Tm.lacks (l.take k) m)) ∧ Hid (Below w.heap.size w wr)) (fun _ i _ => n - (intOf i).toNat)
  case atStart => exact ⟨0, Nat.zero_le _, rfl, ⟨0, Nat.le_refl _, rfl, rfl⟩, Below.refl _ _⟩
  case round =>
    obtain ⟨k, hk, rfl, ⟨q, hq, rfl, HQ⟩, HB⟩ := hrel
    by_cases hlt : k < n
    · have hkl : k < l.length := by rw [HN.out]; exact hlt
      obtain ⟨g, off, rfl, hg, y0, _⟩ := (HRN.out wr HB.out).get hkl
      have HC := hide (HH.out wr HB.out k hkl)
      have HT : Hid (Tm.lacks (l.take (k + 1)) m = Tm.lacks (l.take k) m + if Tm.hasVer m l[k].1 then 0 else 1) := by
        unfold Hid Tm.lacks
        rw [List.take_add_one, List.getElem?_eq_getElem hkl, List.filter_append, List.length_append]
        congr 1
        cases hb : Tm.hasVer m l[k].1 <;> simp [hb]
      generalize l[k] = x at *
      have i1 : (0 : Int) ≤ (k : Int) := by omega
      have i2 : (k : Int) < (n : Int) := by omega
      go_wp2_with fail
      refine HC.out.mono ?_
      rintro e w1 ⟨rfl, hb1⟩
      have HB1 : Hid (Below w.heap.size w w1) := HB.out.trans (hb1.mono HB.out.size)
      clear hb1
      cases hh : Tm.hasVer m x.1
      · have HQ1 : Hid (q + 1 = Tm.lacks (l.take (k + 1)) m) := by unfold Hid; rw [HT.out, hh, ← HQ.out]; rfl
        go_wp2
        go_roundw
        case rel => exact ⟨k + 1, by omega, by go_num, ⟨q + 1, by omega, by go_num, HQ1.out⟩, HB1.out⟩
        case measure => simp [intOf]; omega
      · have HQ1 : Hid (q = Tm.lacks (l.take (k + 1)) m) := by unfold Hid; rw [HT.out, hh, ← HQ.out]; rfl
        go_wp2
        go_roundw
        case rel => exact ⟨k + 1, by omega, by go_num, ⟨q, by omega, rfl, HQ1.out⟩, HB1.out⟩
        case measure => simp [intOf]; omega
    · have HE : Hid (Tm.lacks l m = q) := by
        have h9 := HQ.out
        rw [List.take_of_length_le (by rw [HN.out]; omega)] at h9
        exact h9.symm
      go_wp2
      go_ret
      exact ⟨by rw [HE.out]; rfl, HB.out⟩
end Go.Proofs.YtmnjjjhmnhfapaaGreatDoor
