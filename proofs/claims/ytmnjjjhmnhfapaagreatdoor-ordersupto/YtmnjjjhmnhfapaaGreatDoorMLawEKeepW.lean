import Derived.Test.YtmnjjjhmnhfapaaGreatDoorMLawEKeep
import Derived.Test.YtmnjjjhmnhfapaaGreatDoorMAppKeep
namespace Go.Proofs.YtmnjjjhmnhfapaaGreatDoor
open Go.RowKit

theorem news_quadE {w : World} {x y z u : Value} {t : TypeId} : ∀ j q, [x, y, z, u][j]? = some q → (w.alloc (.cells #[x, y, z, u] t)).cell? ((⟨w.heap.size, 0, none⟩ : Addr).add j) = some q := by
  intro j q hj
  match j, hj with
  | 0, hj => simp at hj; subst hj; simp [Addr.add]
  | 1, hj => simp at hj; subst hj; simp [Addr.add]
  | 2, hj => simp at hj; subst hj; simp [Addr.add]
  | 3, hj => simp at hj; subst hj; simp [Addr.add]
theorem elCells_one (x : Tm.El) : ∀ u ∈ elCells x, u.oneCell' = true := by
  intro u hu
  simp [elCells] at hu
  rcases hu with rfl | rfl | rfl | rfl <;> rfl
theorem Reads.setE {w : World} {v : Value} {size n : Nat} {xs : List Value} (h : Reads w v size n xs) {a : Addr} (ha : v.ownBlock ≠ some a.block) (u : Value) : Reads (w.setCell a u) v size n xs :=
  h.of_blocks (by simp [World.setCell]) (fun g hg => Below.heap_setCell _ _ _ _ (by rintro rfl; exact ha hg))
/-- What keepElements leaves. -/
structure EKept (bb B base : Nat) (vb v : Value) (rows : List Value) (n : Nat) (me : Tm.El) (w w' : World) (vb' v1 v2 v3 : Value) : Prop where
  cell : w'.cell? ⟨bb, 1, none⟩ = some vb'
  free : w'.frozen? ⟨bb, 1, none⟩ = false
  rest : ∀ o, o ≠ 1 → w'.cell? ⟨bb, o, none⟩ = w.cell? ⟨bb, o, none⟩
  row : w'.ownsRow B 84 1 vb' (rows.length + 4) (rows ++ [v, v1, v2, v3])
  at' : ∀ g, vb'.ownBlock = some g → vb.ownBlock = some g ∨ w.heap.size ≤ g
  size : w.heap.size ≤ w'.heap.size
  os : w'.os = w.os
  tape : w'.tape = w.tape
  output : w'.output = w.output
  r0 : Reads w' v 4 n (elsCells (List.replicate n me))
  r1 : Reads w' v1 4 (n + 1) (elsCells (List.replicate (n + 1) me))
  r2 : Reads w' v2 4 (n + 2) (elsCells (List.replicate (n + 2) me))
  r3 : Reads w' v3 4 (n + 3) (elsCells (List.replicate (n + 3) me))
  far : ∀ u ∈ [v, v1, v2, v3], ∀ g, u.ownBlock = some g → base ≤ g ∧ vb'.ownBlock ≠ some g
  block : ∀ k, k < base → k ≠ bb → vb.ownBlock ≠ some k → w'.heap[k]? = w.heap[k]?

set_option maxRecDepth 100000 in
set_option maxHeartbeats 4000000 in
theorem keepElements_any (bb B base : Nat) (vb v : Value) (rows : List Value) (xs : List Tm.El) (w : World) (hc : w.cell? ⟨bb, 1, none⟩ = some vb) (hf : w.frozen? ⟨bb, 1, none⟩ = false) (hrow : w.ownsRow B 84 1 vb rows.length rows) (hl : w.ownsRow base 102 4 v xs.length (elsCells xs)) (hbb : bb < base) (hvb : ∀ g, vb.ownBlock = some g → g < base ∧ g ≠ bb) (hbase : base ≤ w.heap.size) (hB : B ≤ base) (hr9 : rows.length ≤ 100000000) (hx9 : xs.length ≤ 100000) :
    Calls Tryz.prog 44 #[.pointer (some ⟨bb, 0, none⟩), v] w fun e w' => e = .returned (.tuple #[]) ∧ ∃ vb' v1 v2 v3, EKept bb B base vb v rows xs.length ⟨-1000 - ((rows.length : Nat) : Int) / 4, 0, 0, true⟩ w w' vb' v1 v2 v3 := by
  obtain ⟨i0, hi, hz0, hz1, hz2⟩ := info_parts Tryz.infoEl
  obtain ⟨i1, ki, kz0, kz1, kz2⟩ := info_parts (show (Tryz.prog.info? 84).map (fun i => (i.zero, i.size, i.bytes)) = some (some (.slice none 0 0), 1, 24) by kernel_rfl)
  obtain ⟨ab, capb, rfl⟩ := (Reads.of_owns hrow).shape
  obtain ⟨al, capl, rfl⟩ := (Reads.of_owns hl).shape
  have HROW := hide hrow
  have HL := hide hl
  have HVB := hide hvb
  obtain ⟨R, hR⟩ : ∃ R, rows.length = R := ⟨_, rfl⟩
  rw [hR] at hr9 hc
  have HR := hide hR
  obtain ⟨n, hn⟩ : ∃ n, xs.length = n := ⟨_, rfl⟩
  rw [hn] at hx9
  have HNN := hide hn
  simp only [hn]
  have HC := hide hc
  have HFZ := hide hf
  clear hrow hl hvb hn
  have q1 : (0 : Int) ≤ (R : Int) / 4 := by omega
  have q2 : (R : Int) / 4 ≤ 1000000000 := by omega
  have HME := hide (fun w => markElement_any ((R : Int) / 4) w ⟨q1, q2⟩)
  obtain ⟨mk, hmk⟩ : ∃ mk : Int, -1000 - (R : Int) / 4 = mk := ⟨_, rfl⟩
  rw [hmk] at HME
  have HMK := hide hmk
  clear hmk
  go_enter Tryz.func44, Tryz.ntmps44
  go_wp2_with fail
  refine (HME.out _).mono ?_
  rintro e w1 ⟨rfl, hb1⟩
  have HB1 := hide hb1
  have hz1' := hb1.size
  obtain ⟨W, hW⟩ : ∃ W, w1.alloc (.cells #[.int .i64 mk, .int .i64 0, .int .i64 0, .bool true] 102) = W := ⟨_, rfl⟩
  have hbW : Below w.heap.size w W := by rw [← hW]; exact hb1.alloc hz1' _
  have hzW : W.heap.size = w1.heap.size + 1 := by rw [← hW]; simp
  have m0 : W.cell? ⟨w1.heap.size, 0, none⟩ = some (.int .i64 mk) := by rw [← hW, cell_new rfl]; rfl
  have m1 : W.cell? ⟨w1.heap.size, 1, none⟩ = some (.int .i64 0) := by rw [← hW, cell_new rfl]; rfl
  have m2 : W.cell? ⟨w1.heap.size, 2, none⟩ = some (.int .i64 0) := by rw [← hW, cell_new rfl]; rfl
  have m3 : W.cell? ⟨w1.heap.size, 3, none⟩ = some (.bool true) := by rw [← hW, cell_new rfl]; rfl
  have HM : Hid (∀ w' : World, w'.heap[w1.heap.size]? = W.heap[w1.heap.size]? → w'.cell? ⟨w1.heap.size, 0, none⟩ = some (.int .i64 mk) ∧ w'.cell? ⟨w1.heap.size, 1, none⟩ = some (.int .i64 0) ∧ w'.cell? ⟨w1.heap.size, 2, none⟩ = some (.int .i64 0) ∧ w'.cell? ⟨w1.heap.size, 3, none⟩ = some (.bool true)) := fun w' h => by
    rw [World.cell?_of_block (a := ⟨w1.heap.size, 0, none⟩) h, World.cell?_of_block (a := ⟨w1.heap.size, 1, none⟩) h, World.cell?_of_block (a := ⟨w1.heap.size, 2, none⟩) h, World.cell?_of_block (a := ⟨w1.heap.size, 3, none⟩) h]
    exact ⟨m0, m1, m2, m3⟩
  have HLW : Hid (W.ownsRow base 102 4 (.slice al n capl) n (elsCells xs)) := by
    have := HL.out
    rw [HNN.out] at this
    exact ownsRow_same this (fun g hg => hbW.block g (this.lt g hg).2)
  have HLT : Hid (∀ g, (Value.slice al n capl).ownBlock = some g → base ≤ g ∧ g < w.heap.size) := fun g hg => by
    have := HL.out
    rw [HNN.out] at this
    exact this.lt g hg
  have HBW := hide hbW
  have HW := hide hW
  clear hb1 hbW hW m0 m1 m2 m3 hc hf
  go_wp2_with fail
  rw [HW.out]
  go_loopw [5] (fun i wr => ∃ k : Nat, k ≤ n ∧ i = .int .i64 k ∧ wr.ownsRow base 102 4 (.slice al n capl) n (elsCells (filledE ⟨mk, 0, 0, true⟩ xs k)) ∧ W.grownBy wr (Value.slice al n capl).ownBlock ∧ wr.heap.size = W.heap.size) (fun i _ => n - (intOf i).toNat)
  case atStart => exact ⟨0, Nat.zero_le _, rfl, by rw [filledE_zero]; exact HLW.out, ⟨rfl, rfl, rfl, Nat.le_refl _, fun _ _ _ => rfl⟩, rfl⟩
  case round =>
    obtain ⟨k, hk, rfl, hown, hgr, hsz⟩ := hrel
    have hmw : wr.heap[w1.heap.size]? = W.heap[w1.heap.size]? := hgr.block _ (by omega) (fun h => by have := (HLT.out _ h.symm).2; omega)
    obtain ⟨m0, m1, m2, m3⟩ := HM.out wr hmw
    by_cases hlt : k < n
    · have hkx : k < xs.length := by rw [HNN.out]; exact hlt
      have hfl : (filledE ⟨mk, 0, 0, true⟩ xs k).length = n := by rw [filledE_length (by omega)]; exact HNN.out
      rcases hown.2 with ⟨h1, h2⟩ | ⟨g, c, cur, h1, hg, hcg, _⟩
      · omega
      · cases h1
        have hrd := Reads.of_owns hown
        rw [← hfl] at hrd
        obtain ⟨g', off', he, _, c0, c1, c2, c3⟩ := els_at (k := k) hrd (by omega)
        cases he
        rw [Nat.zero_add] at c0 c1 c2 c3
        have f0 : wr.frozen? ⟨g, k * 4, none⟩ = false := by simp [World.frozen?, hcg]
        have f1 : wr.frozen? ⟨g, k * 4 + 1, none⟩ = false := by simp [World.frozen?, hcg]
        have f2 : wr.frozen? ⟨g, k * 4 + 2, none⟩ = false := by simp [World.frozen?, hcg]
        have f3 : wr.frozen? ⟨g, k * 4 + 3, none⟩ = false := by simp [World.frozen?, hcg]
        have HO2 := hide (owns_put4 hown hkx)
        have HG2 : Hid (W.grownBy (put4at wr g k ⟨mk, 0, 0, true⟩) (some g)) := put4at_grown hgr
        have HS2 : Hid ((put4at wr g k ⟨mk, 0, 0, true⟩).heap.size = W.heap.size) := by unfold Hid; rw [put4at_size]; exact hsz
        unfold put4at at HO2 HG2 HS2
        generalize (filledE ⟨mk, 0, 0, true⟩ xs k)[k]'(by omega) = z at *
        have i1 : (0 : Int) ≤ (k : Int) := by omega
        have i2 : (k : Int) < (n : Int) := by omega
        clear hown hgr hrd hfl hcg hmw
        go_wp2
        go_roundw
        case rel => exact ⟨k + 1, by omega, by go_num, HO2.out, HG2.out, HS2.out⟩
        case measure => simp [intOf]; omega
    · have hkn : k = n := by omega
      have hfull : filledE ⟨mk, 0, 0, true⟩ xs k = List.replicate n ⟨mk, 0, 0, true⟩ := by rw [hkn, ← HNN.out]; exact filledE_all _ _
      rw [hfull] at hown
      have HO := hide hown
      have HG := hide hgr
      have hblk : ∀ g, (Value.slice al n capl).ownBlock = some g → base ≤ g := fun g h => (hown.lt g h).1
      have HSEP : Hid ((Value.slice ab R capb).ownBlock = none ∨ (Value.slice ab R capb).ownBlock ≠ (Value.slice al n capl).ownBlock) := by
        cases hob : (Value.slice ab R capb).ownBlock with
        | none => exact .inl rfl
        | some g =>
          refine .inr fun h => ?_
          have h1 := (HVB.out g (by rw [HR.out]; exact hob)).1
          have h2 := hblk g h.symm
          omega
      have b1 : Below base w wr := (HBW.out.mono hbase).grown hgr (by omega) hblk
      have HBB := hide b1
      have HRW : Hid (wr.ownsRow B 84 1 (.slice ab R capb) R rows) := by
        have h := HROW.out
        rw [HR.out] at h
        exact ownsRow_same h (fun g hg => b1.block g (HVB.out g (by rw [HR.out]; exact hg)).1)
      have hbz : base ≤ wr.heap.size := by omega
      have HNM : Hid (∀ g, (Value.slice al n capl).ownBlock = some g → g ≠ w1.heap.size) := fun g hg h => by have := (HLT.out g hg).2; omega
      have hMr : w1.heap.size < wr.heap.size := by omega
      have HMW := hide hmw
      clear hown hgr hfull hsz hblk b1 hmw
      go_wp2_with (at_builtin; refine wpList_append_keep4 rfl _ _ 84 rfl base 102 i0 (.agg #[.int .i64 0, .int .i64 0, .int .i64 0, .bool false]) 32 Tryz.underlying84 hi hz0 hz1 hz2 rfl _ _ _ rfl (HO.out.alloc _) ⟨wr.heap.size, 0, none⟩ 1 1 (elCells ⟨mk, 0, 0, true⟩) rfl rfl (news_four rfl) (elCells_one _) (by unfold maxLen; omega) (by omega) (by simp; omega) ?_)
      intro v1 w2 hown1 hgr1 hat1 hrd1
      have z2 := hgr1.size
      have z2 : wr.heap.size + 1 ≤ w2.heap.size := by simpa using z2
      have HO1 := hide hown1
      have HG1 := hide hgr1
      have HRD1 := hide hrd1
      have HM2 : Hid (w2.heap[w1.heap.size]? = W.heap[w1.heap.size]?) := by
        unfold Hid
        rw [hgr1.block _ (by simp; omega) (fun h => HNM.out _ h.symm rfl), Below.heap_alloc _ _ _ hMr]
        exact HMW.out
      have HNM1 : Hid (∀ g, v1.ownBlock = some g → g ≠ w1.heap.size) := fun g hg => by
        rcases hat1 with h | h
        · rw [h] at hg; exact HNM.out g hg
        · rw [h] at hg; simp at hg; omega
      obtain ⟨a1, c1, rfl⟩ := (Reads.of_owns hown1).shape
      clear hown1 hgr1 hat1 hrd1 m0 m1 m2 m3
      obtain ⟨m0, m1, m2, m3⟩ := HM.out w2 HM2.out
      go_wp2_with (at_builtin; refine wpList_append_keep4 rfl _ _ 84 rfl base 102 i0 (.agg #[.int .i64 0, .int .i64 0, .int .i64 0, .bool false]) 32 Tryz.underlying84 hi hz0 hz1 hz2 rfl _ _ _ rfl (HO1.out.alloc _) ⟨w2.heap.size, 0, none⟩ 1 1 (elCells ⟨mk, 0, 0, true⟩) rfl rfl (news_four rfl) (elCells_one _) (by unfold maxLen; omega) (by omega) (by simp; omega) ?_)
      intro v2 w3 hown2 hgr2 hat2 hrd2
      have z3 := hgr2.size
      have z3 : w2.heap.size + 1 ≤ w3.heap.size := by simpa using z3
      have HO2 := hide hown2
      have HG2 := hide hgr2
      have HRD2 := hide hrd2
      have HR02 := hide (Reads.stayN HO.out (HRD1.out.below ((Below.refl _ _).alloc (Nat.le_refl _) _) HRD1.out.2.1) (HO1.out.alloc _) hgr2 hrd2)
      have HM3 : Hid (w3.heap[w1.heap.size]? = W.heap[w1.heap.size]?) := by
        unfold Hid
        rw [hgr2.block _ (by simp; omega) (fun h => HNM1.out _ h.symm rfl), Below.heap_alloc _ _ _ (by omega)]
        exact HM2.out
      obtain ⟨a2, c2, rfl⟩ := (Reads.of_owns hown2).shape
      clear hown2 hgr2 hat2 hrd2 m0 m1 m2 m3
      obtain ⟨m0, m1, m2, m3⟩ := HM.out w3 HM3.out
      go_wp2_with (at_builtin; refine wpList_append_keep4 rfl _ _ 84 rfl base 102 i0 (.agg #[.int .i64 0, .int .i64 0, .int .i64 0, .bool false]) 32 Tryz.underlying84 hi hz0 hz1 hz2 rfl _ _ _ rfl (HO2.out.alloc _) ⟨w3.heap.size, 0, none⟩ 1 1 (elCells ⟨mk, 0, 0, true⟩) rfl rfl (news_four rfl) (elCells_one _) (by unfold maxLen; omega) (by omega) (by simp; omega) ?_)
      intro v3 w4 hown3 hgr3 hat3 hrd3
      have z4 := hgr3.size
      have z4 : w3.heap.size + 1 ≤ w4.heap.size := by simpa using z4
      have HO3 := hide hown3
      have HG3 := hide hgr3
      have HRD3 := hide hrd3
      have HR13 := hide (Reads.stayN (base' := base) (ys := elCells ⟨mk, 0, 0, true⟩) HO1.out (HRD2.out.below ((Below.refl _ _).alloc (Nat.le_refl _) _) HRD2.out.2.1) (by rw [List.append_assoc]; exact HO2.out.alloc _) hgr3 (by rw [List.append_assoc]; exact hrd3))
      have HR03 := hide (Reads.stayN (base' := base) (ys := elCells ⟨mk, 0, 0, true⟩ ++ elCells ⟨mk, 0, 0, true⟩) HO.out (HR02.out.below ((Below.refl _ _).alloc (Nat.le_refl _) _) HR02.out.2.1) (HO2.out.alloc _) hgr3 hrd3)
      obtain ⟨a3, c3, rfl⟩ := (Reads.of_owns hown3).shape
      have HB4 : Hid (Below base wr w4) := ((((((Below.refl base wr).alloc hbz _).grown HG1.out (by simp; omega) (fun q hq => (HO.out.lt q hq).1)).alloc (by omega) _).grown HG2.out (by simp; omega) (fun q hq => (HO1.out.lt q hq).1)).alloc (by omega) _).grown HG3.out (by simp; omega) (fun q hq => (HO2.out.lt q hq).1)
      have HRW4 : Hid (w4.ownsRow B 84 1 (.slice ab R capb) R rows) := ownsRow_same HRW.out (fun q hq => HB4.out.block q (HVB.out q (by rw [HR.out]; exact hq)).1)
      have HBB4 : Hid (Below base w w4) := HBB.out.trans HB4.out
      have cb4 : w4.cell? ⟨bb, 1, none⟩ = some (.slice ab R capb) := by rw [HBB4.out.cell (p := ⟨bb, 1, none⟩) hbb]; exact HC.out
      have fb4 : w4.frozen? ⟨bb, 1, none⟩ = false := by rw [World.frozen?_of_block (HBB4.out.block bb hbb)]; exact HFZ.out
      have hbb4 : bb < w4.heap.size := by omega
      clear hown3 hgr3 hat3 hrd3 m0 m1 m2 m3
      go_wp2_with (at_builtin; refine wpList_append_keep rfl _ _ 36 rfl B 84 i1 (.slice none 0 0) 24 Tryz.underlying36 ki kz0 kz1 kz2 rfl _ _ _ rfl (HRW4.out.alloc _) ⟨w4.heap.size, 0, none⟩ 4 4 [.slice al n capl, .slice a1 (n + 1) c1, .slice a2 (n + 1 + 1) c2, .slice a3 (n + 1 + 1 + 1) c3] rfl rfl news_quadE (by intro u hu; simp at hu; rcases hu with rfl | rfl | rfl | rfl <;> rfl) (by unfold maxLen; omega) (by omega) (by simp; omega) ?_)
      intro vb' w5 hown5 hgr5 hat5 _
      have z5 : w4.heap.size + 1 ≤ w5.heap.size := by have := hgr5.size; simpa using this
      have hvb5 : ∀ g, (Value.slice ab R capb).ownBlock = some g → g < base ∧ g ≠ bb := fun g hg => HVB.out g (by rw [HR.out]; exact hg)
      have hbk5 : ∀ k, k < w4.heap.size → (Value.slice ab R capb).ownBlock ≠ some k → w5.heap[k]? = w4.heap[k]? := fun k hk hne => by
        rw [hgr5.block k (by simp; omega) (fun e => hne e.symm)]
        exact Below.heap_alloc _ _ _ hk
      have hnb : (Value.slice ab R capb).ownBlock ≠ some bb := fun h => (hvb5 bb h).2 rfl
      have cb5 : w5.cell? ⟨bb, 1, none⟩ = some (.slice ab R capb) := by rw [World.cell?_of_block (hbk5 bb hbb4 hnb)]; exact cb4
      have fb5 : w5.frozen? ⟨bb, 1, none⟩ = false := by rw [World.frozen?_of_block (hbk5 bb hbb4 hnb)]; exact fb4
      have HK : Hid (∃ v1 v2 v3, EKept bb B base (.slice ab R capb) (.slice al n capl) rows n ⟨mk, 0, 0, true⟩ w (w5.setCell ⟨bb, 1, none⟩ vb') vb' v1 v2 v3) := by
        have hat' : ∀ g, vb'.ownBlock = some g → (Value.slice ab R capb).ownBlock = some g ∨ w4.heap.size ≤ g := fun g hg => by
          rcases hat5 with h | h
          · exact .inl (by rw [← h]; exact hg)
          · rw [h] at hg; simp at hg; exact .inr (by omega)
        have hfar : ∀ u : Value, (∀ g, u.ownBlock = some g → base ≤ g ∧ g < w4.heap.size) → (∀ g, u.ownBlock = some g → base ≤ g ∧ vb'.ownBlock ≠ some g) := fun u hu g hg => by
          refine ⟨(hu g hg).1, fun h => ?_⟩
          rcases hat' g h with h | h
          · have := (hvb5 g h).1; have := (hu g hg).1; omega
          · have := (hu g hg).2; omega
        have hkeep : ∀ (u : Value) (m : Nat) (l : List Value), (∀ g, u.ownBlock = some g → base ≤ g ∧ g < w4.heap.size) → Reads w4 u 4 m l → Reads (w5.setCell ⟨bb, 1, none⟩ vb') u 4 m l := fun u m l hu hr => by
          refine Reads.setE (hr.of_blocks (by omega) (fun g hg => hbk5 g (hu g hg).2 (fun h => by have := (hvb5 g h).1; have := (hu g hg).1; omega))) (fun h => by have := (hu bb h).1; omega) _
        have l0 : ∀ g, (Value.slice al n capl).ownBlock = some g → base ≤ g ∧ g < w4.heap.size := fun g hg => ⟨(HO.out.lt g hg).1, HR03.out.2.1 g hg⟩
        have l1 : ∀ g, (Value.slice a1 (n + 1) c1).ownBlock = some g → base ≤ g ∧ g < w4.heap.size := fun g hg => ⟨(HO1.out.lt g hg).1, HR13.out.2.1 g hg⟩
        have l2 : ∀ g, (Value.slice a2 (n + 1 + 1) c2).ownBlock = some g → base ≤ g ∧ g < w4.heap.size := fun g hg => ⟨(HO2.out.lt g hg).1, HRD3.out.2.1 g hg⟩
        have l3 : ∀ g, (Value.slice a3 (n + 1 + 1 + 1) c3).ownBlock = some g → base ≤ g ∧ g < w4.heap.size := fun g hg => HO3.out.lt g hg
        have b1 : Below base w w4 := HBB4.out
        refine ⟨.slice a1 (n + 1) c1, .slice a2 (n + 1 + 1) c2, .slice a3 (n + 1 + 1 + 1) c3, ⟨World.cell?_setCell_same _ _ _ cb5, by rw [World.frozen?_setCell]; exact fb5, ?_, ?_, ?_, ?_, ?_, ?_, ?_, hkeep _ _ _ l0 HR03.out, ?_, ?_, ?_, ?_, ?_⟩⟩
        · intro o ho
          rw [World.cell?_setCell_other _ _ _ _ (by simp <;> omega), World.cell?_of_block (a := ⟨bb, o, none⟩) (hbk5 bb hbb4 hnb), World.cell?_of_block (a := ⟨bb, o, none⟩) (b1.block bb hbb)]
        · rw [HR.out]
          exact owns_setCell hown5 (fun h => by rcases hat' bb h with h | h; exact hnb h; omega) _
        · intro g hg
          rcases hat' g hg with h | h
          · exact .inl h
          · exact .inr (by have := b1.size; omega)
        · have := b1.size; simp [World.setCell]; omega
        · exact (hgr5.os).trans b1.os
        · exact (hgr5.tape).trans b1.tape
        · exact (hgr5.output).trans b1.output
        · exact hkeep _ _ _ l1 (by rw [← elsCells_more]; exact HR13.out)
        · exact hkeep _ _ _ l2 (by rw [← elsCells_more (n + 1), ← elsCells_more n]; simpa using HRD3.out)
        · exact hkeep _ _ _ l3 (by rw [← elsCells_more (n + 2), ← elsCells_more (n + 1), ← elsCells_more n]; simpa using Reads.of_owns HO3.out)
        · intro u hu
          simp only [List.mem_cons, List.not_mem_nil, or_false] at hu
          rcases hu with rfl | rfl | rfl | rfl
          · exact hfar _ l0
          · exact hfar _ l1
          · exact hfar _ l2
          · exact hfar _ l3
        · intro k hk hne hnv
          rw [Below.heap_setCell _ _ _ _ (by simpa using hne), hbk5 k (by omega) hnv]
          exact b1.block k hk
      obtain ⟨ab5, capb5, rfl⟩ := (Reads.of_owns hown5).shape
      clear hown5 hgr5 hat5 hvb5 hbk5
      go_wp2
      go_end0
      obtain ⟨v1, v2, v3, hK⟩ := HK.out
      rw [← HMK.out] at hK
      exact ⟨rfl, .slice ab5 (R + 4) capb5, v1, v2, v3, by rw [HR.out]; exact hK⟩
end Go.Proofs.YtmnjjjhmnhfapaaGreatDoor
