import Derived.Test.YtmnjjjhmnhfapaaGreatDoorMKpBegin
namespace Go.Proofs.YtmnjjjhmnhfapaaGreatDoor
open Go.RowKit

theorem scan_in {c : ByteArray → ByteArray → Int} {fs : List Tm.Fact} {es : Tm.Ents} (h : Tm.FactsOk c fs es) (lo hi : ByteArray) : ∀ f ∈ fs, f.2.2 = true → Tm.within c lo hi (f.1, f.2.1) = true → (f.1, f.2.1) ∈ Tm.ixScan c es lo hi := by
  intro f hf h1 h2
  refine List.mem_filter.2 ⟨(h.same _ _).2 ?_, h2⟩
  have : (f.1, f.2.1, true) = f := by rw [← h1]
  rw [this]; exact hf
theorem get_of_mem {c : ByteArray → ByteArray → Int} (hT : Tm.Told c) {es : Tm.Ents} (hr : Tm.Rises (Tm.ByKey c) es) {e : ByteArray × ByteArray} (he : e ∈ es) : Tm.ixHas c es e.1 = true ∧ Tm.ixGet c es e.1 = some e.2 := by
  have hh : Tm.ixHas c es e.1 = true := List.any_eq_true.2 ⟨e, he, by simpa using hT.self e.1⟩
  refine ⟨hh, ?_⟩
  rw [Tm.ixGet_at hT hr, if_pos hh]
  obtain ⟨hi, h0⟩ := (Tm.ixHas_at hT hr).1 hh
  obtain ⟨j, hj, hje⟩ := List.mem_iff_getElem.1 he
  have : j = Tm.below c es e.1 := by
    rcases Nat.lt_trichotomy j (Tm.below c es e.1) with h | h | h
    · have h1 := (Tm.below_at hT hr hj).2 h
      rw [hje, hT.self] at h1
      omega
    · exact h
    · have h1 : c (es[Tm.below c es e.1]).1 (es[j]).1 < 0 := List.pairwise_iff_getElem.1 hr _ _ hi hj h
      rw [hje, h0] at h1
      omega
  rw [← this, List.getElem?_eq_getElem hj, hje]
  rfl

set_option maxRecDepth 100000 in
set_option maxHeartbeats 8000000 in
theorem Sorted_any (n st : Int) (sh : Bool) (l : Tm.Ents) (vl : Value) (lo hi : ByteArray) (limit : Int) (w : World) (hn : -9223372036854775808 ≤ n ∧ n ≤ 9223372036854775807) (hst : -9223372036854775808 ≤ st ∧ st ≤ 9223372036854775807) (hlim : -9223372036854775808 ≤ limit ∧ limit ≤ 9223372036854775807) (hl : EntsRd w vl l) :
    Calls Tryz.prog 6 #[.int .i64 n, .int .i64 st, .bool sh, vl, .string lo, .string hi, .int .i64 limit] w fun e w' => e = .returned (.bool true) ∧ Below w.heap.size w w' := by
  have HN := hide hn
  have HST := hide hst
  have HLIM := hide hlim
  obtain ⟨a, cap, rfl, hl⟩ := hl
  have HL := hide hl
  clear hn hst hlim hl
  go_enter Tryz.func6, Tryz.ntmps6
  go_wp2_with fail
  refine (begin_any n st sh _ HN.out HST.out).mono ?_
  rintro e w1 ⟨X, F, S, bb, bx, bc, bm, t, lns, s0, rfl, hB, hn0, hX, hb1⟩
  have hT := told_cmpOf lns t sh
  have HBK := hide hB
  have HB1 := hide hb1
  have hz1 := hb1.size
  have HL1 : Hid (EntsRd w1 (.slice a l.length cap) l) := ⟨a, cap, rfl, fun h => (HL.out h).below hb1 (HL.out h).2.1⟩
  have HFO : Hid (Tm.FactsOk (cmpOf lns t sh) [] (nowOf s0)) := by unfold Hid; rw [hn0.1]; exact Tm.FactsOk.nil _
  have HVL : Hid (0 < l.length → ∀ g, (Value.slice a l.length cap).ownBlock = some g → ¬ F g) := fun h0 g hg hF => by
    have h1 := (HL.out h0).2.1 g hg
    have h2 := (HBK.out.from_ g hF).1
    omega
  clear hB hb1 hn0
  go_wp2_with fail
  refine (keepAll_any l _ _ HBK.out.refl HFO.out (by simp) HL1.out HVL.out).mono ?_
  rintro e w2 ⟨rfl, fs, ⟨F2, S2, vf2, hB2, hf2, hi2⟩, hfo2, hlen2⟩
  have HBK2 := hide hB2
  have HFO2 := hide hfo2
  have hz2 := hf2.size
  have hXle := HBK.out.size
  have HB2 : Hid (Below w.heap.size w w2) := HB1.out.trans ((hf2.below (fun i hi => (HBK.out.from_ i hi).1) hXle).mono hX)
  have c1 := hB2.c1
  have hbb := (hB2.from_ bb hB2.own).2
  have HRS := hide hB2.ix.rises
  have hfew := hB2.ix.few
  have HSHT := hide hB2.ix.short
  simp only [List.length_nil, Nat.zero_add] at hlen2
  clear hB2 hf2 hi2 hfo2
  generalize playAll (cmpOf lns t sh) s0 (l.take 100) = s2 at *
  go_wp2_with fail
  refine (cut_any lo _).mono ?_
  rintro e w9 ⟨rfl, h9⟩
  have h9 := h9.symm
  subst h9
  go_wp2_with fail
  refine (cut_any hi _).mono ?_
  rintro e w9 ⟨rfl, h9⟩
  have h9 := h9.symm
  subst h9
  have hlo := cutB_size lo
  have hhi := cutB_size hi
  generalize cutB lo = low at *
  generalize cutB hi = high at *
  have hscl : (Tm.ixScan (cmpOf lns t sh) (nowOf s2) low high).length ≤ (nowOf s2).length := List.length_filter_le _ _
  have HIN := hide (scan_in HFO2.out low high)
  have HCNT : Hid ((fs.filter (fun f => f.2.2 && Tm.within (cmpOf lns t sh) low high (f.1, f.2.1))).length = (Tm.ixScan (cmpOf lns t sh) (nowOf s2) low high).length) := (HFO2.out.count hT HRS.out (Tm.within (cmpOf lns t sh) low high)).symm
  have HSR := hide (Tm.ixScan_rises (lo := low) (hi := high) HRS.out)
  have HGM : Hid (∀ e ∈ Tm.ixScan (cmpOf lns t sh) (nowOf s2) low high, e.1.size ≤ 64 ∧ Tm.ixHas (cmpOf lns t sh) (nowOf s2) e.1 = true ∧ Tm.ixGet (cmpOf lns t sh) (nowOf s2) e.1 = some e.2) := fun e he => by
    have hm := (List.mem_filter.1 he).1
    exact ⟨(HSHT.out e hm).1, get_of_mem hT HRS.out hm⟩
  go_wp2_with fail
  refine (IxScan_any lns bc bm t sh X S2 bx s2 low high 1000 _ HBK2.out.coll HBK2.out.ok HBK2.out.ix (by omega)).mono ?_
  rintro e w3 ⟨hb3, hans3⟩
  rw [if_neg (by omega), if_neg (by omega)] at hans3
  obtain ⟨v3, rfl, hown3⟩ := hans3
  obtain ⟨sc, hsc⟩ : ∃ sc, Tm.ixScan (cmpOf lns t sh) (nowOf s2) low high = sc := ⟨_, rfl⟩
  rw [hsc] at hown3 hscl HIN HCNT HSR HGM
  have HSCE := hide hsc
  clear hsc
  rw [List.take_of_length_le (by show sc.length ≤ 1000; omega)] at hown3
  have HRD3 := hide (Reads.of_owns hown3)
  have HBK3 := hide (HBK2.out.below hb3)
  have HB3 : Hid (Below w.heap.size w w3) := HB2.out.trans (hb3.mono HB2.out.size)
  obtain ⟨a3, cap3, rfl⟩ := (Reads.of_owns hown3).shape
  clear hown3 hb3 c1
  go_wp2_with fail
  refine (keepRising_any sc _ _ HBK3.out HRD3.out (fun e he => (HGM.out e he).1) HSR.out (by omega)).mono ?_
  rintro e w4 ⟨rfl, hb4⟩
  have HRD4 := hide (HRD3.out.below hb4 HRD3.out.2.1)
  have HBK4 := hide (HBK3.out.below hb4)
  have HB4 : Hid (Below w.heap.size w w4) := HB3.out.trans (hb4.mono HB3.out.size)
  clear hb4
  go_wp2_with fail
  refine (keepTold_any sc _ low high _ HBK4.out HRD4.out hlo hhi HIN.out HCNT.out (by omega) (by omega)).mono ?_
  rintro e w5 ⟨rfl, hb5⟩
  have HRD5 := hide (HRD4.out.below hb5 HRD4.out.2.1)
  have HBK5 := hide (HBK4.out.below hb5)
  have HB5 : Hid (Below w.heap.size w w5) := HB4.out.trans (hb5.mono HB4.out.size)
  have c15 := HBK5.out.c1
  have hbb5 := (HBK5.out.from_ bb HBK5.out.own).2
  clear hb5
  go_wp2_with fail
  refine (pick_any limit 80 _ HLIM.out (by omega)).mono ?_
  rintro e w9 ⟨rfl, h9⟩
  have h9 := h9.symm
  subst h9
  obtain ⟨p1, p2⟩ := pickN_range (c := limit) (n := 80) (by omega)
  obtain ⟨q, hq⟩ : ∃ q : Nat, pickN limit 80 = q := ⟨(pickN limit 80).toNat, by omega⟩
  rw [hq] at p1 p2 ⊢
  clear hq
  go_wp2_with fail
  refine (IxScan_any lns bc bm t sh X S2 bx s2 low high q _ HBK5.out.coll HBK5.out.ok HBK5.out.ix (by omega)).mono ?_
  rintro e w6 ⟨hb6, hans6⟩
  rw [if_neg (by omega), if_neg (by omega), HSCE.out] at hans6
  obtain ⟨v6, rfl, hown6⟩ := hans6
  rw [show ((q : Int)).toNat = q by omega] at hown6
  obtain ⟨tk, htk⟩ : ∃ tk, sc.take q = tk := ⟨_, rfl⟩
  rw [htk] at hown6
  have HTK := hide htk
  have htl : tk.length = min q sc.length := by rw [← htk, List.length_take]
  clear htk
  have HRD6 := hide (Reads.of_owns hown6)
  have HRA6 := hide (HRD5.out.below hb6 HRD5.out.2.1)
  have HBK6 := hide (HBK5.out.below hb6)
  have HB6 : Hid (Below w.heap.size w w6) := HB5.out.trans (hb6.mono HB5.out.size)
  obtain ⟨a6, cap6, rfl⟩ := (Reads.of_owns hown6).shape
  have c36 := HBK6.out.c3
  have hbb6 := (HBK6.out.from_ bb HBK6.out.own).2
  clear hown6 hb6 c15
  obtain ⟨m, hm⟩ : ∃ m, tk.length = m := ⟨_, rfl⟩
  obtain ⟨N, hN⟩ : ∃ N, sc.length = N := ⟨_, rfl⟩
  have HMM := hide hm
  have HNN := hide hN
  rw [hm] at HRD6 htl ⊢
  rw [hN] at HRA6 htl hscl ⊢
  have hmN : m ≤ N := by omega
  have hmq9 : m ≤ q := by omega
  have HTL := hide htl
  clear hm hN htl
  have HGK : Hid (∀ k (hk : k < m), ∃ ek ev, (∃ h1 : k < tk.length, tk[k] = (ek, ev)) ∧ (∃ h2 : k < sc.length, sc[k] = (ek, ev)) ∧ ek.size ≤ 64 ∧ Tm.ixHas (cmpOf lns t sh) (nowOf s2) ek = true ∧ Tm.ixGet (cmpOf lns t sh) (nowOf s2) ek = some ev) := fun k hk => by
    have h1 : k < tk.length := by rw [HMM.out]; exact hk
    have h2 : k < sc.length := by rw [HNN.out]; omega
    have he : tk[k] = sc[k] := by
      have h3 : tk[k]? = sc[k]? := by
        rw [← HTK.out, List.getElem?_take, if_pos (by omega)]
      rw [List.getElem?_eq_getElem h1, List.getElem?_eq_getElem h2] at h3
      exact Option.some.inj h3
    have hg := HGM.out sc[k] (List.getElem_mem h2)
    refine ⟨sc[k].1, sc[k].2, ⟨h1, he⟩, ⟨h2, rfl⟩, hg⟩
  go_upto_region 12 with fail
  go_cut [102] from 73 to 102 (fun t wx => t = .bool false ∧ wx = w6)
  case first =>
    by_cases hqN : q ≤ N
    · have hmq : m = q := by have := HTL.out; omega
      subst hmq
      clear HTL
      have i1 : (m : Int) ≤ (N : Int) := by omega
      go_wp2_with fail
      go_meet
      exact ⟨rfl, rfl⟩
    · have hmq : m = N := by have := HTL.out; omega
      subst hmq
      clear HTL
      have i1 : ¬ (q : Int) ≤ (m : Int) := by omega
      go_wp2_with fail
      go_meet
      exact ⟨rfl, rfl⟩
  case rest =>
    obtain ⟨rfl, h9⟩ := hcut
    have h9 := h9.symm
    subst h9
    go_wp2_with fail
    go_loopw [25] (fun i wr => ∃ k : Nat, k ≤ m ∧ i = .int .i64 k ∧ Hid (Below w6.heap.size w6 wr)) (fun i _ => m - (intOf i).toNat)
    case atStart => exact ⟨0, Nat.zero_le _, rfl, Below.refl _ _⟩
    case round =>
      obtain ⟨k, hk, rfl, HBX⟩ := hrel
      by_cases hkm : k < m
      · obtain ⟨ek, ev, ⟨h1, e1⟩, ⟨h2, e2⟩, hes, hhas, hget⟩ := HGK.out k hkm
        obtain ⟨g, off, rfl, hg, x0, x1⟩ := ents_at (es := tk) (by rw [HMM.out]; exact HRD6.out.below HBX.out HRD6.out.2.1) h1
        obtain ⟨g3, off3, rfl, hg3, y0, y1⟩ := ents_at (es := sc) (by rw [HNN.out]; exact HRA6.out.below HBX.out HRA6.out.2.1) h2
        rw [e1] at x0 x1
        rw [e2] at y0 y1
        simp only at x0 x1 y0 y1
        have HBKX := hide (HBK6.out.below HBX.out)
        have c1 := HBKX.out.c1
        have hbbx := (HBKX.out.from_ bb HBKX.out.own).2
        have HC : Hid (Calls Tryz.prog 25 #[.pointer (some ⟨bx, 0, none⟩), .string ek] wr.drew fun e w' => e = .returned (.tuple #[.string ev, .bool true, .int .i64 0]) ∧ Below wr.heap.size wr w' ∧ w'.cell? ⟨bb, 1, none⟩ = some (.pointer (some ⟨bx, 0, none⟩)) ∧ w'.cell? ⟨g, off + k * 2, none⟩ = some (.string ek)) := by
          have hbd : Below wr.heap.size wr wr.drew := (Below.refl _ _).drew
          refine (IxGet_any lns bc bm t sh X S2 bx s2 ek _ (HBKX.out.coll.below hbd) HBKX.out.ok (HBKX.out.ix.below hbd)).mono ?_
          rw [if_pos hes, hhas, hget]
          rintro e w' ⟨rfl, hb⟩
          have hb2 := hbd.trans hb
          exact ⟨rfl, hb2, by rw [hb2.cell (p := ⟨bb, 1, none⟩) hbbx]; exact c1, by rw [hb2.cell (p := ⟨g, off + k * 2, none⟩) hg]; exact x0⟩
        have i1 : (0 : Int) ≤ (k : Int) := by omega
        have i2 : (k : Int) < (m : Int) := by omega
        have i3 : (k : Int) < (N : Int) := by omega
        clear hhas hget h1 h2 e1 e2
        go_upto_region 17 with fail
        go_cut [26, 27, 28] from 109 to 122 (fun x y z wx => x = .string ev ∧ y = .bool true ∧ z = .int .i64 0 ∧ Hid (Below wr.heap.size wr wx))
        case first =>
          go_region_held3 (fun wx => wx.cell? ⟨bb, 1, none⟩ = some (.pointer (some ⟨bx, 0, none⟩)) ∧ wx.cell? ⟨g, off + k * 2, none⟩ = some (.string ek)) (go_keep)
            (first | (go_at_call 25; refine HC.out.mono ?_; rintro e wz ⟨rfl, hb1, d0, d1⟩; have HB1 := hide hb1; clear hb1))
          all_goals (go_wp2_with fail; go_meet; exact ⟨rfl, rfl, rfl, HB1.out⟩)
        case rest =>
          obtain ⟨rfl, rfl, rfl, HBC⟩ := hcut
          have z0 : wc.cell? ⟨g, off + k * 2, none⟩ = some (.string ek) := by rw [HBC.out.cell (p := ⟨g, off + k * 2, none⟩) hg]; exact x0
          have z1 : wc.cell? ⟨g, off + k * 2 + 1, none⟩ = some (.string ev) := by rw [HBC.out.cell (p := ⟨g, off + k * 2 + 1, none⟩) hg]; exact x1
          have u0 : wc.cell? ⟨g3, off3 + k * 2, none⟩ = some (.string ek) := by rw [HBC.out.cell (p := ⟨g3, off3 + k * 2, none⟩) hg3]; exact y0
          have u1 : wc.cell? ⟨g3, off3 + k * 2 + 1, none⟩ = some (.string ev) := by rw [HBC.out.cell (p := ⟨g3, off3 + k * 2 + 1, none⟩) hg3]; exact y1
          have HBW := hide (HBX.out.trans (HBC.out.mono HBX.out.size))
          clear x0 x1 y0 y1 c1
          go_upto_region 18 with fail
          go_quiet (fail)
          all_goals
            go_wp2
            go_roundw
            case rel => exact ⟨k + 1, by omega, by go_num, below_dn HBW.out _⟩
            case measure => simp [intOf]; omega
      · have HFIN := hide (HB6.out.trans (HBX.out.mono HB6.out.size))
        have i2 : ¬ (k : Int) < (m : Int) := by omega
        go_wp2
        go_ret
        exact ⟨rfl, HFIN.out⟩
end Go.Proofs.YtmnjjjhmnhfapaaGreatDoor
