import Derived.Test.YtmnjjjhmnhfapaaGreatDoorMIxRow
import Derived.Test.YtmnjjjhmnhfapaaGreatDoorMLibDel
import Derived.Test.YtmnjjjhmnhfapaaGreatDoorMIxFind
namespace Go.Proofs.YtmnjjjhmnhfapaaGreatDoor
open Go.RowKit

/-- A row of one's own out of its block. -/
theorem owns_of_block {w : World} {base g n cap : Nat} {e : TypeId} {size : Nat} {xs : List Value} {cur : Array Value} (hb : base ≤ g) (hg : w.heap[g]? = some (.cells cur e)) (h1 : n ≤ cap) (h2 : cap ≤ maxLen) (h3 : cur.size = cap * size) (h4 : cur.toList.take (n * size) = xs) (hl : xs.length = n * size) : w.ownsRow base e size (.slice (some ⟨g, 0, none⟩) n cap) n xs :=
  ⟨hl, .inr ⟨g, cap, cur, rfl, hb, hg, h1, h2, h3, h4⟩⟩

/-- Insert: one element more, at its place. -/
theorem Insert_any (base : Nat) (v : Value) (n i vb : Nat) (xs news : List Value) (w : World) (hown : w.ownsRow base 138 1 v n xs) (hi : i ≤ n) (hnl : news.length = 1) (hn : n ≤ 1000)
    (hvb : w.heap[vb]? = some (.cells news.toArray 138)) (hne : v.ownBlock ≠ some vb) (h1c : ∀ u ∈ xs, u.oneCell' = true) (h1v : ∀ u ∈ news, u.oneCell' = true) (hbase : base ≤ w.heap.size) :
    Calls Tryz.prog 151 #[v, .int .i64 i, .slice (some ⟨vb, 0, none⟩) 1 1] w fun e w' =>
      ∃ v', e = .returned v' ∧ w'.ownsRow base 138 1 v' (n + 1) (xs.take (i) ++ news ++ xs.drop (i)) ∧ w.grownBy w' v.ownBlock ∧ (v'.ownBlock = v.ownBlock ∨ v'.ownBlock = some w.heap.size) := by
  have hvs : ∀ j u, news[j]? = some u → w.cell? ⟨vb, 0 + j, none⟩ = some u := fun j u hu => by
    simp only [World.cell?, hvb, Nat.zero_add]
    simpa using hu
  have hxl := hown.1
  rw [Nat.mul_one] at hxl
  by_cases hin : i = n
  · subst hin
    refine (InsertEnd base v i vb xs news w hown hnl hn hvs h1v hbase).mono ?_
    rintro e w' ⟨v', rfl, h1, h2, h3⟩
    refine ⟨v', rfl, ?_, h2, h3⟩
    rw [List.take_of_length_le (by omega), List.drop_of_length_le (by omega), List.append_nil]
    exact h1
  · have hlt : i < n := by omega
    rcases hown.2 with ⟨_, h0⟩ | ⟨g, cap, cur, rfl, hb, hg, hnc, hcm, hcs, htake⟩
    · omega
    · rw [Nat.mul_one] at htake hcs
      have hcell : ∀ j u, xs[j]? = some u → w.cell? ⟨g, 0 + j, none⟩ = some u := fun j u hu => by
        have hu' : cur.toList[j]? = some u := by
          rw [← htake, List.getElem?_take] at hu
          split at hu
          · exact hu
          · cases hu
        simp only [World.cell?, hg, Nat.zero_add]
        simpa using hu'
      have hglt : g < w.heap.size := by
        have := (Array.getElem?_eq_some_iff.1 hg).1
        exact this
      have hcm' : cap ≤ 9223372036854775807 := by unfold maxLen at hcm; omega
      by_cases hroom : n + 1 ≤ cap
      · refine (InsertShift g 0 n cap i vb 0 1 1 xs news w hlt (by omega) hroom hcm' (fun e => hne (by simp [Value.ownBlock, e])) hxl (by omega) hcell (fun j hj => ?_) (fun j _ => ?_) hvs h1c h1v 138 138 1 cur.size ?_ ?_ (by omega) ?_ ?_).mono ?_
        · simp only [World.cell?, hg, Nat.zero_add]
          have : j < cur.size := by omega
          simp [this]
        · simp [World.frozen?, hg]
        · simp [World.shape?, hvb, hnl]
        · simp [World.shape?, hg]
        · simp [World.frozen?, hvb]
        · simp [World.frozen?, hvb]
        · rintro e w' ⟨rfl, rfl⟩
          obtain ⟨c1, h1, h2, h3⟩ := heap_over (g := g) (e := 138) (xs.drop (i)) (0 + (i + 1)) cur w.drew hg (by rw [List.length_drop]; omega)
          obtain ⟨c2, k1, k2, k3⟩ := heap_over (g := g) (e := 138) news (0 + i) c1 _ h1 (by omega)
          refine ⟨_, rfl, owns_of_block hb k1 hroom hcm (by omega) ?_ (by simp; omega), ?_, .inl rfl⟩
          · rw [k3, h3]
            have := Tm.over_shift (L := cur.toList) (xs := xs) (news := news) (a := i) (n := n) (m := 1) htake hxl (by omega) hnl (by simp; omega)
            rw [show 0 + (i + 1) = i + 1 by omega, show 0 + i = i by omega, Nat.mul_one]
            exact this
          · refine ⟨by rw [World.os_setCells, World.os_setCells]; rfl, by rw [(setCells_keep _ _ _ _).2, (setCells_keep _ _ _ _).2]; rfl, by rw [World.output_setCells, World.output_setCells]; rfl, by rw [(setCells_keep _ _ _ _).1, (setCells_keep _ _ _ _).1]; exact Nat.le_refl _, fun k hk hne' => ?_⟩
            have hkg : k ≠ g := fun e => hne' (by simp [Value.ownBlock, e])
            rw [World.heap_setCells_other _ _ _ _ (by rw [(setCells_keep _ _ _ _).1]; exact hk) hkg]
            exact World.heap_setCells_other w.drew _ _ _ hk hkg
      · refine (InsertGrow g 0 n cap i vb 0 1 1 xs news w hlt (by omega) hnc (by omega) (by omega) hxl (by omega) hcell hvs h1c h1v).mono ?_
        rintro e w' ⟨rfl, rfl⟩
        have hGn : n + 1 ≤ grownCap w (n + 1) cap 138 := grownCap_ge w _ _ _
        have hGm : grownCap w (n + 1) cap 138 ≤ maxLen := grownCap_le_maxLen w (n + 1) cap 138 (by unfold maxLen; omega)
        generalize grownCap w (n + 1) cap 138 = G at hGn hGm ⊢
        obtain ⟨ROW, hROW⟩ : ∃ ROW : Array Value, (xs.take (i)).toArray ++ Builtin.zeroCells #[.pointer none] (n + 1 - i) ++ Builtin.zeroCells #[.pointer none] (G - (n + 1)) = ROW := ⟨_, rfl⟩
        rw [hROW]
        have hRs : ROW.size = G := by
          rw [← hROW]
          simp [size_zeroCells, hxl]
          omega
        have hRL : ROW.toList = xs.take (i) ++ ((Builtin.zeroCells #[.pointer none] (n + 1 - i)).toList ++ (Builtin.zeroCells #[.pointer none] (G - (n + 1))).toList) := by
          rw [← hROW]; simp
        have hnew : (w.alloc (.cells ROW 138)).drew.heap[w.heap.size]? = some (.cells ROW 138) := heap_alloc_new w _
        obtain ⟨c1, h1, h2, h3⟩ := heap_over (g := w.heap.size) (e := 138) news (i) ROW _ hnew (by omega)
        obtain ⟨c2, k1, k2, k3⟩ := heap_over (g := w.heap.size) (e := 138) (xs.drop (i)) ((i + 1)) c1 (((w.alloc (.cells ROW 138)).drew.setCells w.heap.size (i) news).drew) h1 (by rw [List.length_drop]; omega)
        refine ⟨_, rfl, owns_of_block hbase k1 hGn hGm (by omega) ?_ (by simp; omega), ?_, .inr rfl⟩
        · rw [k3, h3]
          have := Tm.over_grow (L := ROW.toList) (xs := xs) (news := news) (a := i) (n := n) (m := 1) hRL hxl (by omega) hnl
          rw [Nat.mul_one]
          exact this
        · refine ⟨by rw [World.os_setCells]; exact World.os_setCells _ _ _ _, by rw [(setCells_keep _ _ _ _).2]; exact (setCells_keep _ _ _ _).2, by rw [World.output_setCells]; exact World.output_setCells _ _ _ _, ?_, fun k hk _ => ?_⟩
          · rw [(setCells_keep _ _ _ _).1]
            show _ ≤ (World.setCells _ _ _ _).heap.size
            rw [(setCells_keep _ _ _ _).1]
            simp
          · have e1 : ((w.alloc (.cells ROW 138)).drew.setCells w.heap.size (i) news).heap.size = w.heap.size + 1 := by rw [(setCells_keep _ _ _ _).1]; simp
            rw [World.heap_setCells_other _ _ _ _ (by show k < (World.setCells _ _ _ _).heap.size; omega) (by omega)]
            show (World.setCells _ _ _ _).heap[k]? = _
            rw [World.heap_setCells_other _ _ _ _ (by simp; omega) (by omega)]
            exact heap_alloc_old w _ hk
end Go.Proofs.YtmnjjjhmnhfapaaGreatDoor
namespace Go.Proofs.YtmnjjjhmnhfapaaGreatDoor
open Go.RowKit

theorem run_clear_rows {P : Program} (w : World) (t e ty : TypeId) (z : Value) (ht : P.underlying t = some (.slice e)) (hv : ∀ w, (zeroValue e).run P w = .ok z w) (b o n c : Nat) (zs : List Value) (hzs : (Builtin.zeroCells z.cells n).toList = zs) (h1 : ∀ u ∈ zs, u.oneCell' = true) (hn : 0 < n)
    (hc : ∀ j, j < zs.length → (w.cell? ⟨b, o + j, none⟩).isSome = true) (hf : ∀ j, j < zs.length → w.frozen? ⟨b, o + j, none⟩ = false) :
    (Builtin.clear_ #[t] ty #[.slice (some ⟨b, o, none⟩) n c]).run P w = .ok (.tuple #[]) (w.setCells b o zs) := by
  have hst := run_storeCells_cells (P := P) b o zs 0 w (by simpa using hc) (by simpa using hf) h1
  simp only [Nat.add_zero] at hst
  obtain ⟨m, rfl⟩ : ∃ m, n = m + 1 := ⟨n - 1, by omega⟩
  simp [Builtin.clear_, run_underlying ht, hv, hzs, hst]
theorem zeroVer (w : World) : (zeroValue 138).run Tryz.prog w = .ok (.pointer none) w := by kernel_rfl
theorem zeroVer_one : (Builtin.zeroCells (Value.pointer none).cells 1).toList = [.pointer none] := by
  simp [Builtin.zeroCells, Value.cells]

set_option maxRecDepth 100000 in
set_option maxHeartbeats 4000000 in
theorem DeleteRow (g off cap i j n : Nat) (xs : List Value) (w : World) (hI : ∀ t u, xs[t]? = some u → w.cell? ⟨g, off + t, none⟩ = some u) (hF : ∀ o, w.frozen? ⟨g, o, none⟩ = false) (h1 : ∀ u ∈ xs, u.oneCell' = true) (hxl : xs.length = n) (hi : i < n) (hj : i + 1 = j) (hc1 : n ≤ cap) (hc2 : cap ≤ maxLen) (hl : n ≤ 1000000) :
    Calls Tryz.prog 147 #[.slice (some ⟨g, off, none⟩) n cap, .int .i64 i, .int .i64 j] w fun e w' => e = .returned (.slice (some ⟨g, off, none⟩) (n - 1) cap) ∧ w' = (w.drew.setCells g (off + i) (xs.drop (j))).setCells g (off + (i + (n - j))) [.pointer none] := by
  obtain ⟨i0, hi0, hz0, hzs, hzb⟩ := info_parts Tryz.infoVer
  have hc2' : cap ≤ 9223372036854775807 := by unfold maxLen at hc2; exact hc2
  have s0 : (xs.drop (j)).length = n - j := by simp [hxl]
  have s1 : Hid ((xs.drop (j)).length = (n - j) * 1) := by unfold Hid; rw [Nat.mul_one]; exact s0
  obtain ⟨A, hA, hsrc⟩ : ∃ A : Addr, (if cap = j then some (⟨g, off, none⟩ : Addr) else some ⟨g, off + j, none⟩) = some A ∧ Hid (∀ t u, (xs.drop (j))[t]? = some u → w.drew.cell? (A.add t) = some u) := by
    by_cases h : cap = j
    · refine ⟨⟨g, off, none⟩, by simp [h], fun t u hu => ?_⟩
      have := (List.getElem?_eq_some_iff.1 hu).1
      omega
    · refine ⟨⟨g, off + j, none⟩, by simp [h], fun t u hu => ?_⟩
      rw [Addr.add_lit, show off + j + t = off + (j + t) by omega]
      exact hI (j + t) u (by rwa [List.getElem?_drop] at hu)
  have s3 : Hid (∀ t, t < (xs.drop (j)).length → (w.drew.cell? ⟨g, off + i * 1 + t, none⟩).isSome = true ∧ w.drew.frozen? ⟨g, off + i * 1 + t, none⟩ = false) := by
    intro t ht
    rw [Nat.mul_one]
    refine ⟨?_, hF _⟩
    have hx := hI (i + t) (xs[i + t]'(by omega)) (by simp)
    rw [Nat.add_assoc]
    show (w.cell? _).isSome = true
    rw [hx]; rfl
  obtain ⟨W1, hW1⟩ : ∃ W1, W1 = w.drew.setCells g (off + i) (xs.drop (j)) := ⟨_, rfl⟩
  have hsome : ∀ k, k < n → (W1.cell? ⟨g, off + k, none⟩).isSome = true := fun k hk => by
    rw [hW1]
    refine isSome_over g _ _ _ (fun t ht => by have := (s3.out t ht).1; rwa [Nat.mul_one] at this) _ ?_
    show (w.cell? _).isSome = true
    rw [hI k (xs[k]'(by omega)) (by simp)]; rfl
  have hcl : ∀ ty, (Builtin.clear_ #[120] ty #[.slice (some ⟨g, off + (i + (n - j)), none⟩) (n - (i + (n - j))) (cap - (i + (n - j)))]).run Tryz.prog W1 = .ok (.tuple #[]) (W1.setCells g (off + (i + (n - j))) [.pointer none]) := fun ty => by
    rw [show n - (i + (n - j)) = 1 by omega]
    refine run_clear_rows W1 _ _ ty _ Tryz.underlying120 zeroVer g (off + (i + (n - j))) 1 _ _ zeroVer_one (by intro u hu; simp at hu; subst hu; rfl) (by omega) (fun t ht => ?_) (fun t ht => ?_)
    · rw [Nat.add_assoc]
      exact hsome _ (by simp at ht; omega)
    · rw [hW1, World.frozen?_setCells]; exact hF _
  have HW : Hid (W1 = w.drew.setCells g (off + i * 1) (xs.drop (j))) := by unfold Hid; rw [Nat.mul_one]; exact hW1
  have HW2 : Hid (W1 = w.drew.setCells g (off + i) (xs.drop (j))) := hW1
  have hic : i ≤ cap := by omega
  have hjc : j ≤ cap := by omega
  have HJ := hide hj
  have hjn : j ≤ n := by omega
  have hin : i ≤ n := by omega
  have hij : ((i : Int) == (j : Int)) = false := by simp; omega
  have s2 : Hid (∀ u ∈ xs.drop (j), u.oneCell' = true) := fun u hu => h1 u (List.mem_of_mem_drop hu)
  clear hI s0 hsome
  generalize xs.drop (j) = news at *
  clear hW1
  go_enter Tryz.func147, Tryz.ntmps147
  go_wp2_with fail
  go_region_law (refine step_append_room rfl (.tmp 22) (.tmp 25) 120 rfl 138 i0 1 Tryz.underlying120 hi0 hzs g off i cap (by simp [Act.eval, Act.put]) A (n - j) (cap - j) news (by simp [Act.eval, Act.put]) s1.out hsrc.out s2.out (by omega) s3.out ?_; rw [← HW.out])
  go_wp2
  go_ret
  exact ⟨by rw [show n - 1 = i + (n - j) by omega]; rfl, by rw [← HW2.out]⟩

/-- Delete: the row without one element. -/
theorem Delete_any (base : Nat) (v : Value) (n i : Nat) (xs : List Value) (w : World) (hown : w.ownsRow base 138 1 v n xs) (hi : i < n) (hn : n ≤ 1000) (h1c : ∀ u ∈ xs, u.oneCell' = true) :
    Calls Tryz.prog 147 #[v, .int .i64 i, .int .i64 (i + 1 : Nat)] w fun e w' =>
      ∃ v', e = .returned v' ∧ w'.ownsRow base 138 1 v' (n - 1) (xs.take (i) ++ xs.drop (i + 1)) ∧ w.grownBy w' v.ownBlock ∧ v'.ownBlock = v.ownBlock := by
  have hxl := hown.1
  rw [Nat.mul_one] at hxl
  rcases hown.2 with ⟨_, h0⟩ | ⟨g, cap, cur, rfl, hb, hg, hnc, hcm, hcs, htake⟩
  · omega
  · rw [Nat.mul_one] at htake hcs
    have hcell : ∀ j u, xs[j]? = some u → w.cell? ⟨g, 0 + j, none⟩ = some u := fun j u hu => by
      have hu' : cur.toList[j]? = some u := by
        rw [← htake, List.getElem?_take] at hu
        split at hu
        · exact hu
        · cases hu
      simp only [World.cell?, hg, Nat.zero_add]
      simpa using hu'
    refine (DeleteRow g 0 cap i (i + 1) n xs w hcell (fun o => by simp [World.frozen?, hg]) h1c hxl hi rfl hnc hcm (by omega)).mono ?_
    rintro e w' ⟨rfl, rfl⟩
    obtain ⟨c1, h1, h2, h3⟩ := heap_over (g := g) (e := 138) (xs.drop ((i + 1))) (0 + i) cur w.drew hg (by rw [List.length_drop]; omega)
    obtain ⟨c2, k1, k2, k3⟩ := heap_over (g := g) (e := 138) [.pointer none] (0 + (i + (n - (i + 1)))) c1 _ h1 (by simp; omega)
    refine ⟨_, rfl, owns_of_block hb k1 (by omega) hcm (by omega) ?_ (by simp; omega), ?_, rfl⟩
    · rw [k3, h3]
      have := Tm.over_out (L := cur.toList) (xs := xs) (a := i) (n := n) (m := 1) htake hxl (by omega) [.pointer none] rfl
      rw [Nat.mul_one, show 0 + (i + (n - (i + 1))) = n - 1 by omega, show 0 + i = i by omega]
      exact this
    · refine ⟨by rw [World.os_setCells, World.os_setCells]; rfl, by rw [(setCells_keep _ _ _ _).2, (setCells_keep _ _ _ _).2]; rfl, by rw [World.output_setCells, World.output_setCells]; rfl, by rw [(setCells_keep _ _ _ _).1, (setCells_keep _ _ _ _).1]; exact Nat.le_refl _, fun k hk hne' => ?_⟩
      have hkg : k ≠ g := fun e => hne' (by simp [Value.ownBlock, e])
      rw [World.heap_setCells_other _ _ _ _ (by rw [(setCells_keep _ _ _ _).1]; exact hk) hkg]
      exact World.heap_setCells_other w.drew _ _ _ hk hkg
end Go.Proofs.YtmnjjjhmnhfapaaGreatDoor
namespace Go.Proofs.YtmnjjjhmnhfapaaGreatDoor
open Go.RowKit

theorem Tryz.infoSnap : (Tryz.prog.info? 142).map (fun i => (i.zero, i.size, i.bytes)) = some (some (.agg #[.int .i64 0, .slice none 0 0]), 2, 32) := by kernel_rfl
theorem zeroSnap (w : World) : (zeroValue 142).run Tryz.prog w = .ok (.agg #[.int .i64 0, .slice none 0 0]) w := by kernel_rfl
theorem zeroSnap_one : (Builtin.zeroCells (Value.agg #[.int .i64 0, .slice none 0 0]).cells 1).toList = [.int .i64 0, .slice none 0 0] := by
  simp [Builtin.zeroCells, Value.cells]
  rfl

set_option maxRecDepth 100000 in
set_option maxHeartbeats 4000000 in
theorem DeleteSRow (g off cap i j n : Nat) (xs : List Value) (w : World) (hI : ∀ t u, xs[t]? = some u → w.cell? ⟨g, off + t, none⟩ = some u) (hF : ∀ o, w.frozen? ⟨g, o, none⟩ = false) (h1 : ∀ u ∈ xs, u.oneCell' = true) (hxl : xs.length = n * 2) (hi : i < n) (hj : i + 1 = j) (hc1 : n ≤ cap) (hc2 : cap ≤ maxLen) (hl : n ≤ 1000000) :
    Calls Tryz.prog 114 #[.slice (some ⟨g, off, none⟩) n cap, .int .i64 i, .int .i64 j] w fun e w' => e = .returned (.slice (some ⟨g, off, none⟩) (n - 1) cap) ∧ w' = (w.drew.setCells g (off + i * 2) (xs.drop (j * 2))).setCells g (off + (i + (n - j)) * 2) [.int .i64 0, .slice none 0 0] := by
  obtain ⟨i0, hi0, hz0, hzs, hzb⟩ := info_parts Tryz.infoSnap
  have hc2' : cap ≤ 9223372036854775807 := by unfold maxLen at hc2; exact hc2
  have s0 : (xs.drop (j * 2)).length = (n - j) * 2 := by simp [hxl]; omega
  have s1 : Hid ((xs.drop (j * 2)).length = (n - j) * 2) := s0
  obtain ⟨A, hA, hsrc⟩ : ∃ A : Addr, (if cap = j then some (⟨g, off, none⟩ : Addr) else some ⟨g, off + j * 2, none⟩) = some A ∧ Hid (∀ t u, (xs.drop (j * 2))[t]? = some u → w.drew.cell? (A.add t) = some u) := by
    by_cases h : cap = j
    · refine ⟨⟨g, off, none⟩, by simp [h], fun t u hu => ?_⟩
      have := (List.getElem?_eq_some_iff.1 hu).1
      omega
    · refine ⟨⟨g, off + j * 2, none⟩, by simp [h], fun t u hu => ?_⟩
      rw [Addr.add_lit, show off + j * 2 + t = off + (j * 2 + t) by omega]
      exact hI (j * 2 + t) u (by rwa [List.getElem?_drop] at hu)
  have s3 : Hid (∀ t, t < (xs.drop (j * 2)).length → (w.drew.cell? ⟨g, off + i * 2 + t, none⟩).isSome = true ∧ w.drew.frozen? ⟨g, off + i * 2 + t, none⟩ = false) := by
    intro t ht
    refine ⟨?_, hF _⟩
    have hx := hI (i * 2 + t) (xs[i * 2 + t]'(by omega)) (by simp)
    rw [Nat.add_assoc]
    show (w.cell? _).isSome = true
    rw [hx]; rfl
  obtain ⟨W1, hW1⟩ : ∃ W1, W1 = w.drew.setCells g (off + i * 2) (xs.drop (j * 2)) := ⟨_, rfl⟩
  have hsome : ∀ k, k < n * 2 → (W1.cell? ⟨g, off + k, none⟩).isSome = true := fun k hk => by
    rw [hW1]
    refine isSome_over g _ _ _ (fun t ht => (s3.out t ht).1) _ ?_
    show (w.cell? _).isSome = true
    rw [hI k (xs[k]'(by omega)) (by simp)]; rfl
  have hcl : ∀ ty, (Builtin.clear_ #[130] ty #[.slice (some ⟨g, off + (i + (n - j)) * 2, none⟩) (n - (i + (n - j))) (cap - (i + (n - j)))]).run Tryz.prog W1 = .ok (.tuple #[]) (W1.setCells g (off + (i + (n - j)) * 2) [.int .i64 0, .slice none 0 0]) := fun ty => by
    rw [show n - (i + (n - j)) = 1 by omega]
    refine run_clear_rows W1 _ _ ty _ Tryz.underlying130 zeroSnap g (off + (i + (n - j)) * 2) 1 _ _ zeroSnap_one (by intro u hu; simp at hu; rcases hu with rfl | rfl <;> rfl) (by omega) (fun t ht => ?_) (fun t ht => ?_)
    · rw [Nat.add_assoc]
      exact hsome _ (by simp at ht; omega)
    · rw [hW1, World.frozen?_setCells]; exact hF _
  have HW : Hid (W1 = w.drew.setCells g (off + i * 2) (xs.drop (j * 2))) := hW1
  have hic : i ≤ cap := by omega
  have hjc : j ≤ cap := by omega
  have HJ := hide hj
  have hjn : j ≤ n := by omega
  have hin : i ≤ n := by omega
  have hij : ((i : Int) == (j : Int)) = false := by simp; omega
  have s2 : Hid (∀ u ∈ xs.drop (j * 2), u.oneCell' = true) := fun u hu => h1 u (List.mem_of_mem_drop hu)
  clear hI s0 hsome
  generalize xs.drop (j * 2) = news at *
  clear hW1
  go_enter Tryz.func114, Tryz.ntmps114
  go_wp2_with fail
  go_region_law (refine step_append_room rfl (.tmp 22) (.tmp 25) 130 rfl 142 i0 2 Tryz.underlying130 hi0 hzs g off i cap (by simp [Act.eval, Act.put]) A (n - j) (cap - j) news (by simp [Act.eval, Act.put]) s1.out hsrc.out s2.out (by omega) s3.out ?_; rw [← HW.out])
  go_wp2
  go_ret
  exact ⟨by rw [show n - 1 = i + (n - j) by omega]; rfl, by rw [← HW.out]⟩

/-- Delete: the row without one element. -/
theorem DeleteS_any (base : Nat) (v : Value) (n i : Nat) (xs : List Value) (w : World) (hown : w.ownsRow base 142 2 v n xs) (hi : i < n) (hn : n ≤ 1000) (h1c : ∀ u ∈ xs, u.oneCell' = true) :
    Calls Tryz.prog 114 #[v, .int .i64 i, .int .i64 (i + 1 : Nat)] w fun e w' =>
      ∃ v', e = .returned v' ∧ w'.ownsRow base 142 2 v' (n - 1) (xs.take (i * 2) ++ xs.drop (i * 2 + 2)) ∧ w.grownBy w' v.ownBlock ∧ v'.ownBlock = v.ownBlock := by
  have hxl := hown.1
  rcases hown.2 with ⟨_, h0⟩ | ⟨g, cap, cur, rfl, hb, hg, hnc, hcm, hcs, htake⟩
  · omega
  · have hcell : ∀ j u, xs[j]? = some u → w.cell? ⟨g, 0 + j, none⟩ = some u := fun j u hu => by
      have hu' : cur.toList[j]? = some u := by
        rw [← htake, List.getElem?_take] at hu
        split at hu
        · exact hu
        · cases hu
      simp only [World.cell?, hg, Nat.zero_add]
      simpa using hu'
    refine (DeleteSRow g 0 cap i (i + 1) n xs w hcell (fun o => by simp [World.frozen?, hg]) h1c hxl hi rfl hnc hcm (by omega)).mono ?_
    rintro e w' ⟨rfl, rfl⟩
    obtain ⟨c1, h1, h2, h3⟩ := heap_over (g := g) (e := 142) (xs.drop ((i + 1) * 2)) (0 + i * 2) cur w.drew hg (by rw [List.length_drop]; omega)
    obtain ⟨c2, k1, k2, k3⟩ := heap_over (g := g) (e := 142) [.int .i64 0, .slice none 0 0] (0 + (i + (n - (i + 1))) * 2) c1 _ h1 (by simp; omega)
    refine ⟨_, rfl, owns_of_block hb k1 (by omega) hcm (by omega) ?_ (by simp; omega), ?_, rfl⟩
    · rw [k3, h3]
      have := Tm.over_out (L := cur.toList) (xs := xs) (a := i * 2) (n := n * 2) (m := 2) htake hxl (by omega) [.int .i64 0, .slice none 0 0] rfl
      rw [show (n - 1) * 2 = n * 2 - 2 by omega, show 0 + (i + (n - (i + 1))) * 2 = n * 2 - 2 by omega, show 0 + i * 2 = i * 2 by omega, show (i + 1) * 2 = i * 2 + 2 by omega]
      exact this
    · refine ⟨by rw [World.os_setCells, World.os_setCells]; rfl, by rw [(setCells_keep _ _ _ _).2, (setCells_keep _ _ _ _).2]; rfl, by rw [World.output_setCells, World.output_setCells]; rfl, by rw [(setCells_keep _ _ _ _).1, (setCells_keep _ _ _ _).1]; exact Nat.le_refl _, fun k hk hne' => ?_⟩
      have hkg : k ≠ g := fun e => hne' (by simp [Value.ownBlock, e])
      rw [World.heap_setCells_other _ _ _ _ (by rw [(setCells_keep _ _ _ _).1]; exact hk) hkg]
      exact World.heap_setCells_other w.drew _ _ _ hk hkg
end Go.Proofs.YtmnjjjhmnhfapaaGreatDoor
namespace Go.Proofs.YtmnjjjhmnhfapaaGreatDoor
open Go.RowKit

theorem Tryz.infoEntry : (Tryz.prog.info? 67).map (fun i => (i.zero, i.size, i.bytes)) = some (some (.agg #[.string ⟨#[]⟩, .string ⟨#[]⟩]), 2, 32) := by kernel_rfl

set_option maxRecDepth 100000 in
set_option maxHeartbeats 1000000 in
theorem IxNew_any (lns : List Tm.Ln) (bc bm : Nat) (st : Int) (sh : Bool) (w : World) (X : Nat) (_hc : Coll w bc bm st sh lns) (hX : X ≤ w.heap.size) :
    Calls Tryz.prog 57 #[.pointer (some ⟨bc, 0, none⟩)] w fun e w' => ∃ bx S, e = .returned (.pointer (some ⟨bx, 0, none⟩)) ∧ Ix w' X S bx bc st sh lns ixNil ∧ Below w.heap.size w w' ∧ ∀ i, S i → w.heap.size ≤ i := by
  have HANS : Hid (Ix (w.alloc (.cells #[.pointer (some ⟨bc, 0, none⟩), .slice none 0 0, .slice none 0 0, .int .i64 0] 132)) X (fun i => i = w.heap.size) w.heap.size bc st sh lns ixNil ∧ Below w.heap.size w (w.alloc (.cells #[.pointer (some ⟨bc, 0, none⟩), .slice none 0 0, .slice none 0 0, .int .i64 0] 132)) ∧ ∀ i, i = w.heap.size → w.heap.size ≤ i) := by
    refine ⟨⟨fun i hi => ⟨by omega, by simp; omega⟩, rfl, ?_, ?_, fun o => ?_, ⟨fun _ => False, fun _ => 0, fun _ => .slice none 0 0, .slice none 0 0, .slice none 0 0, ?_, ?_, World.ownsRow_nil _ _ _ _, World.ownsRow_nil _ _ _ _, fun g hg => (by cases hg), fun g hg => (by cases hg), fun _ h => h.elim, fun _ h => (by cases h), fun _ h => (by cases h), fun _ h => (by cases h)⟩, StOk.nil _⟩, (Below.refl _ _).alloc (Nat.le_refl _) _, fun i hi => by omega⟩
    · rw [cell_new rfl]; rfl
    · rw [cell_new rfl]; rfl
    · rw [frozen_new rfl]
    · rw [cell_new rfl]; rfl
    · rw [cell_new rfl]; rfl
  go_enter Tryz.func57, Tryz.ntmps57
  go_wp2
  go_ret
  exact ⟨w.heap.size, _, rfl, HANS.out⟩

/-- The row of now. -/
theorem IxIn.nowRow {w : World} {X : Nat} {S F : Nat → Prop} {bx : Nat} {K : ByteArray → ByteArray} {s : IxSt} {B : Nat → Nat} {V : Nat → Value} {v h : Value} (hi : IxIn w X S F bx K s B V v h) : VRow w K B v s.now := ⟨Reads.of_owns hi.now, fun x hx => (hi.vers x (mem_now hx)).2⟩
/-- The row of a snapshot. -/
theorem IxIn.snapRow {w : World} {X : Nat} {S F : Nat → Prop} {bx : Nat} {K : ByteArray → ByteArray} {s : IxSt} {B : Nat → Nat} {V : Nat → Value} {v h : Value} (hi : IxIn w X S F bx K s B V v h) {g : Nat × Tm.Vers} (hg : g ∈ s.held) : VRow w K B (V g.1) g.2 := ⟨Reads.of_owns (hi.rows g hg).1, fun x hx => (hi.vers x (mem_held hg hx)).2⟩
/-- A row of one's own has a slice's form. -/
theorem owns_slice {w : World} {base : Nat} {e : TypeId} {size : Nat} {v : Value} {n : Nat} {xs : List Value} (h : w.ownsRow base e size v n xs) : v = .slice none 0 0 ∨ ∃ g off cap, v = .slice (some ⟨g, off, none⟩) n cap := by
  rcases h.2 with ⟨rfl, _⟩ | ⟨g, cap, cur, rfl, _⟩
  · exact .inl rfl
  · exact .inr ⟨g, 0, cap, rfl⟩

set_option maxRecDepth 100000 in
set_option maxHeartbeats 2000000 in
theorem IxGet_any (lns : List Tm.Ln) (bc bm : Nat) (st : Int) (sh : Bool) (X : Nat) (S : Nat → Prop) (bx : Nat) (s : IxSt) (k : ByteArray) (w : World) (hc : Coll w bc bm st sh lns) (hok : TableOk st lns) (hx : Ix w X S bx bc st sh lns s) :
    Calls Tryz.prog 25 #[.pointer (some ⟨bx, 0, none⟩), .string k] w fun e w' => e = .returned (if k.size ≤ 64 then .tuple #[.string ((Tm.ixGet (cmpOf lns st sh) (nowOf s) k).getD ⟨#[]⟩), .bool (Tm.ixHas (cmpOf lns st sh) (nowOf s) k), .int .i64 0] else .tuple #[.string ⟨#[]⟩, .bool false, .int .i64 7]) ∧ Below w.heap.size w w' := by
  have hT := told_cmpOf lns st sh
  have hK := keyed_place hc.fit (sh := sh) hok.st
  have HC := hide hc
  have HOK := hide hok
  have c0 := hx.c0
  have hl := (hx.from_ bx hx.own).2
  have hrs : Tm.Rises (Tm.ByKey (cmpOf lns st sh)) (Tm.entsOf s.now) := hx.rises
  have hfew : s.now.length ≤ 64 := by rw [← nowOf_length]; exact hx.few
  have HG : Hid (Tm.ixGet (cmpOf lns st sh) (nowOf s) k = if Tm.ixHas (cmpOf lns st sh) (nowOf s) k then ((nowOf s)[Tm.below (cmpOf lns st sh) (nowOf s) k]?).map (·.2) else none) := Tm.ixGet_at hT (k := k) hrs
  have HAT := hide (Tm.ixHas_at hT (k := k) hrs)
  obtain ⟨F, B, V, v, h, hi⟩ := hx.mem
  have c1 := hi.c1
  have HR := hide hi.nowRow
  obtain ⟨a, cap, rfl⟩ := hi.nowRow.reads.shape
  clear hc hok hx hi
  by_cases hk : k.size ≤ 64
  · rw [if_pos hk]
    go_enter Tryz.func25, Tryz.ntmps25
    go_wp2_with fail
    refine (CodeKey_any lns bc bm st sh k _ HC.out HOK.out).mono ?_
    rw [if_pos hk]
    rintro e w1 ⟨rfl, hb1⟩
    have HB1 := hide hb1
    have hz1 := hb1.size
    have hl1 : bx < w1.heap.size := by omega
    have c11 : w1.cell? ⟨bx, 1, none⟩ = some (.slice a s.now.length cap) := by rw [hb1.cell (p := ⟨bx, 1, none⟩) hl]; exact c1
    have HR1 := hide (HR.out.below hb1)
    clear hb1 c0 c1
    go_wp2_with fail
    refine (find_any (placeOf lns st sh) (cmpOf lns st sh) hK hT s.now hrs B _ k _ HR1.out (by omega)).mono ?_
    rintro e w2 ⟨rfl, hb2⟩
    have HB2 := hide (HB1.out.trans (hb2.mono hz1))
    have c12 : w2.cell? ⟨bx, 1, none⟩ = some (.slice a s.now.length cap) := by rw [hb2.cell (p := ⟨bx, 1, none⟩) hl1]; exact c11
    have hl2 : bx < w2.heap.size := by have := hb2.size; omega
    have HR2 := hide (HR1.out.below hb2)
    clear hb2 c11
    cases hh : Tm.ixHas (cmpOf lns st sh) (Tm.entsOf s.now) k
    · have HH : Hid (Tm.ixHas (cmpOf lns st sh) (nowOf s) k = false) := hh
      have HG' : Hid (Tm.ixGet (cmpOf lns st sh) (nowOf s) k = none) := by
        have := HG.out
        rw [HH.out] at this
        unfold Hid
        simpa using this
      go_wp2
      go_ret3
      exact ⟨by rw [HG'.out, HH.out]; rfl, HB2.out⟩
    · have HH : Hid (Tm.ixHas (cmpOf lns st sh) (nowOf s) k = true) := hh
      obtain ⟨hi, _⟩ := HAT.out.1 hh
      rw [Tm.entsOf_length] at hi
      obtain ⟨g, off, rfl, hg, x0, hva⟩ := HR2.out.get hi
      obtain ⟨y0, y1, y2, y3, _⟩ := hva
      have HG' : Hid (Tm.ixGet (cmpOf lns st sh) (nowOf s) k = some (s.now[Tm.below (cmpOf lns st sh) (Tm.entsOf s.now) k]'hi).2.2) := by
        have h1 := HG.out
        rw [HH.out, if_pos rfl] at h1
        unfold nowOf at h1
        rw [List.getElem?_eq_getElem (by rw [Tm.entsOf_length]; exact hi), Tm.entsOf_get hi] at h1
        exact h1
      generalize s.now[Tm.below (cmpOf lns st sh) (Tm.entsOf s.now) k]'hi = y at *
      generalize Tm.below (cmpOf lns st sh) (Tm.entsOf s.now) k = i at *
      have i1 : (0 : Int) ≤ (i : Int) := by omega
      have i2 : (i : Int) < (s.now.length : Int) := by omega
      go_wp2
      go_ret3
      exact ⟨by rw [HG'.out, HH.out]; rfl, HB2.out⟩
  · rw [if_neg hk]
    go_enter Tryz.func25, Tryz.ntmps25
    go_wp2_with fail
    refine (CodeKey_any lns bc bm st sh k _ HC.out HOK.out).mono ?_
    rw [if_neg hk]
    rintro e w1 ⟨rfl, hb1⟩
    have HB1 := hide hb1
    clear hb1
    go_wp2
    go_ret3
    exact ⟨rfl, HB1.out⟩
end Go.Proofs.YtmnjjjhmnhfapaaGreatDoor
namespace Go.Proofs.YtmnjjjhmnhfapaaGreatDoor
open Go.RowKit

theorem entCells_one (es : Tm.Ents) : ∀ u ∈ entCells es, u.oneCell' = true := by
  intro u hu
  obtain ⟨e, _, he⟩ := List.mem_flatMap.1 hu
  simp at he
  rcases he with rfl | rfl <;> rfl

set_option maxRecDepth 100000 in
set_option maxHeartbeats 4000000 in
theorem entries_any (K : ByteArray → ByteArray) (es : Tm.Vers) (B : Nat → Nat) (v : Value) (w : World) (hrd : VRow w K B v es) (hl : es.length ≤ 1000) :
    Calls Tryz.prog 63 #[v] w fun e w' => ∃ v', e = .returned v' ∧ w'.ownsRow w.heap.size 67 2 v' es.length (entCells (Tm.entsOf es)) ∧ Below w.heap.size w w' := by
  obtain ⟨i0, hi0, hz0, hzs, hzb⟩ := info_parts Tryz.infoEntry
  obtain ⟨a, cap, rfl⟩ := hrd.reads.shape
  obtain ⟨n, hn⟩ : ∃ n, es.length = n := ⟨_, rfl⟩
  have HRD : Hid (∀ wr, Below w.heap.size w wr → VRow wr K B (.slice a n cap) es) := fun wr hb => by have := hrd.below hb; rwa [hn] at this
  rw [hn] at hl ⊢
  have HN := hide hn
  clear hrd hn
  go_enter Tryz.func63, Tryz.ntmps63
  go_wp2_with (at_make; go_must (refine wpList_make_own _ rfl _ _ 50 rfl w.heap.size 67 i0 (.agg #[.string ⟨#[]⟩, .string ⟨#[]⟩]) 2 Tryz.underlying50 hi0 hz0 hzs _ _ _ n rfl rfl (by omega) (by rw [hzb]; omega) (by unfold maxLen; omega) (Nat.le_refl _) ?_))
  intro w0 hown0 hgr0
  have HO0 := hide hown0
  have HB0 : Hid (Below w.heap.size w w0) := (Below.refl _ _).grown hgr0 (Nat.le_refl _) (fun q hq => by cases hq)
  clear hown0 hgr0
  go_wp2_with fail
  go_loopw [3, 11] (fun x i wr => ∃ k : Nat, k ≤ n ∧ i = .int .i64 k ∧ (∃ a' c', x = .slice a' k c') ∧ Hid (wr.ownsRow w.heap.size 67 2 x k (entCells (Tm.entsOf (es.take k)))) ∧ Hid (Below w.heap.size w wr)) (fun _ i _ => n - (intOf i).toNat)
  case atStart => exact ⟨0, Nat.zero_le _, rfl, ⟨_, _, rfl⟩, HO0.out, HB0.out⟩
  case round =>
    obtain ⟨k, hk, rfl, ⟨a', c', rfl⟩, HO, HB⟩ := hrel
    by_cases hlt : k < n
    · have hke : k < es.length := by rw [HN.out]; exact hlt
      obtain ⟨g, off, rfl, hg, x0, hva⟩ := (HRD.out wr HB.out).get hke
      obtain ⟨y0, y1, y2, y3, _⟩ := hva
      have HT : Hid (entCells (Tm.entsOf (es.take (k + 1))) = entCells (Tm.entsOf (es.take k)) ++ [.string es[k].2.1, .string es[k].2.2]) := by
        unfold Hid Tm.entsOf
        rw [List.take_add_one, List.getElem?_eq_getElem hke, List.map_append, entCells_append]
        rfl
      generalize es[k] = y at *
      obtain ⟨yn, yk, yv⟩ := y
      simp only at x0 y0 y1 y2 y3 HT
      have i1 : (0 : Int) ≤ (k : Int) := by omega
      have i2 : (k : Int) < (n : Int) := by omega
      have hwz := HB.out.size
      go_wp2_with (at_builtin; refine wpList_append_row rfl _ _ 50 50 rfl w.heap.size 67 67 i0 (.agg #[.string ⟨#[]⟩, .string ⟨#[]⟩]) 2 32 Tryz.underlying50 Tryz.underlying50 hi0 hz0 hzs hzb rfl (by omega) _ _ _ rfl (HO.out.alloc _) ⟨wr.heap.size, 0, none⟩ 1 1 [.string yk, .string yv] rfl rfl (news_two (by simp)) (by intro u hu; simp at hu; rcases hu with rfl | rfl <;> rfl) (by unfold maxLen; omega) (by omega) (by simp; omega) ?_)
      intro v' w' hown hgr _
      have HO' := hide hown
      have HB' : Hid (Below w.heap.size w w') := (HB.out.alloc hwz _).grown hgr (by simp; omega) (fun q hq => (HO.out.lt q hq).1)
      obtain ⟨a2, c2, rfl⟩ := (Reads.of_owns hown).shape
      clear hown hgr
      go_wp2
      go_roundw
      case rel => exact ⟨k + 1, by omega, by go_num, ⟨_, _, rfl⟩, by unfold Hid; rw [HT.out]; exact HO'.out, HB'.out⟩
      case measure => simp [intOf]; omega
    · have e : k = n := by omega
      subst e
      have HO' : Hid (wr.ownsRow w.heap.size 67 2 (.slice a' k c') k (entCells (Tm.entsOf es))) := by
        have := HO.out
        rw [← HN.out, List.take_length] at this
        rw [← HN.out]
        exact this
      go_wp2
      go_ret
      exact ⟨_, rfl, HO'.out, HB.out⟩
end Go.Proofs.YtmnjjjhmnhfapaaGreatDoor
namespace Go.Proofs.YtmnjjjhmnhfapaaGreatDoor
open Go.RowKit

theorem VRow.from_ {w : World} {K : ByteArray → ByteArray} {B : Nat → Nat} {g off cap : Nat} {l : Tm.Vers} (h : VRow w K B (.slice (some ⟨g, off, none⟩) l.length cap) l) {j : Nat} (hj : j ≤ l.length) : VRow w K B (.slice (some ⟨g, off + j, none⟩) (l.length - j) (cap - j)) (l.drop j) := by
  refine ⟨?_, fun x hx => h.at_ x (List.mem_of_mem_drop hx)⟩
  have h1 := h.reads.from_ (j := j) hj
  rw [Nat.mul_one] at h1
  rw [List.length_drop, show ptrs B (l.drop j) = (ptrs B l).drop j from List.map_drop]
  exact h1
theorem VRow.upTo {w : World} {K : ByteArray → ByteArray} {B : Nat → Nat} {a : Option Addr} {n cap : Nat} {l : Tm.Vers} (h : VRow w K B (.slice a n cap) l) (hn : n = l.length) {j : Nat} (hj : j ≤ l.length) : VRow w K B (.slice a j cap) (l.take j) := by
  subst hn
  refine ⟨?_, fun x hx => h.at_ x (List.mem_of_mem_take hx)⟩
  have h1 := h.reads.upTo (j := j) hj
  rw [Nat.mul_one] at h1
  rw [List.length_take, Nat.min_eq_left hj, show ptrs B (l.take j) = (ptrs B l).take j from List.map_take]
  exact h1
theorem VRow.none_ {w : World} {K : ByteArray → ByteArray} {B : Nat → Nat} {g off cap : Nat} (hg : g < w.heap.size) (hc : cap ≤ maxLen) : VRow w K B (.slice (some ⟨g, off, none⟩) 0 cap) [] := ⟨Reads.none_ hg hc, fun x hx => by cases hx⟩
theorem entsOf_take (l : Tm.Vers) (n : Nat) : Tm.entsOf (l.take n) = (Tm.entsOf l).take n := List.map_take
theorem entsOf_dropN (l : Tm.Vers) (n : Nat) : Tm.entsOf (l.drop n) = (Tm.entsOf l).drop n := List.map_drop
/-- What 'within' answers. -/
def withinAns (c : ByteArray → ByteArray → Int) (K : ByteArray → ByteArray) (es : Tm.Vers) (B : Nat → Nat) (lo hi : ByteArray) (w : World) (e : Ending) (w' : World) : Prop :=
  Below w.heap.size w w' ∧
  if 64 < lo.size ∨ 64 < hi.size then e = .returned (.tuple #[.slice none 0 0, .int .i64 7])
  else ∃ v l, e = .returned (.tuple #[v, .int .i64 0]) ∧ Tm.entsOf l = Tm.ixScan c (Tm.entsOf es) lo hi ∧ VRow w' K B v l

set_option maxRecDepth 100000 in
set_option maxHeartbeats 4000000 in
theorem within_any (lns : List Tm.Ln) (bc bm : Nat) (st : Int) (sh : Bool) (bx : Nat) (es : Tm.Vers) (B : Nat → Nat) (v : Value) (lo hi : ByteArray) (w : World) (hc : Coll w bc bm st sh lns) (hok : TableOk st lns) (c0 : w.cell? ⟨bx, 0, none⟩ = some (.pointer (some ⟨bc, 0, none⟩))) (hbx : bx < w.heap.size) (hrs : Tm.Rises (Tm.ByKey (cmpOf lns st sh)) (Tm.entsOf es)) (hrd : VRow w (placeOf lns st sh) B v es) (hv : v = .slice none 0 0 ∨ ∃ g off cap, v = .slice (some ⟨g, off, none⟩) es.length cap) (hfew : es.length ≤ 64) :
    Calls Tryz.prog 62 #[.pointer (some ⟨bx, 0, none⟩), v, .string lo, .string hi] w fun e w' => withinAns (cmpOf lns st sh) (placeOf lns st sh) es B lo hi w e w' := by
  have hT := told_cmpOf lns st sh
  have hK := keyed_place hc.fit (sh := sh) hok.st
  have HC := hide hc
  have HOK := hide hok
  have HRD := hide hrd
  have HSC := hide (Tm.ixScan_cut hT (lo := lo) (hi := hi) hrs)
  have hle := Tm.below_le (cmpOf lns st sh) (Tm.entsOf es) lo
  rw [Tm.entsOf_length] at hle
  obtain ⟨a, cap, rfl⟩ := hrd.reads.shape
  have hcap := hrd.reads.fits
  obtain ⟨_, hcap1, hcap2⟩ := hcap
  unfold maxLen at hcap2
  have HV := hide hv
  clear hc hok hrd hv
  by_cases hlo : lo.size ≤ 64
  · by_cases hhi : hi.size ≤ 64
    · go_enter Tryz.func62, Tryz.ntmps62
      go_wp2_with fail
      refine (CodeKey_any lns bc bm st sh lo _ HC.out HOK.out).mono ?_
      rw [if_pos hlo]
      rintro e w1 ⟨rfl, hb1⟩
      have HB1 := hide hb1
      have hz1 := hb1.size
      have hbx1 : bx < w1.heap.size := by omega
      have c01 : w1.cell? ⟨bx, 0, none⟩ = some (.pointer (some ⟨bc, 0, none⟩)) := by rw [hb1.cell (p := ⟨bx, 0, none⟩) hbx]; exact c0
      have HRD1 := hide (HRD.out.below hb1)
      have HC1 := hide (HC.out.below hb1)
      clear hb1 c0
      go_wp2_with fail
      refine (CodeKey_any lns bc bm st sh hi _ HC1.out HOK.out).mono ?_
      rw [if_pos hhi]
      rintro e w2 ⟨rfl, hb2⟩
      have HB2 := hide (HB1.out.trans (hb2.mono hz1))
      have hz2 := hb2.size
      have HRD2 := hide (HRD1.out.below hb2)
      clear hb2 c01
      go_wp2_with fail
      refine (countBelow_any (placeOf lns st sh) (cmpOf lns st sh) hK hT es hrs B _ lo _ HRD2.out (by omega)).mono ?_
      rintro e w3 ⟨rfl, hb3⟩
      have HB3 := hide (HB2.out.trans (hb3.mono (by omega)))
      have hz3 := hb3.size
      have HRD3 := hide (HRD2.out.below hb3)
      clear hb3
      have hrs2 : Tm.Rises (Tm.ByKey (cmpOf lns st sh)) (Tm.entsOf (es.drop (Tm.below (cmpOf lns st sh) (Tm.entsOf es) lo))) := by rw [entsOf_dropN]; exact List.Pairwise.drop hrs
      obtain ⟨j, hj⟩ : ∃ j, Tm.below (cmpOf lns st sh) (Tm.entsOf es) lo = j := ⟨_, rfl⟩
      rw [← entsOf_dropN] at HSC
      rw [hj] at HSC hle hrs2 ⊢
      clear hj
      have i1 : (0 : Int) ≤ (j : Int) := by omega
      have i2 : (j : Int) ≤ (es.length : Int) := by omega
      have hdl : (es.drop j).length = es.length - j := by simp
      have hle2 := Tm.below_le (cmpOf lns st sh) (Tm.entsOf (es.drop j)) hi
      rw [Tm.entsOf_length, hdl] at hle2
      by_cases h0 : hi.size = 0
      · have he : hi = ⟨#[]⟩ := by
          obtain ⟨⟨l⟩⟩ := hi
          simp [ByteArray.size] at h0
          subst h0
          rfl
        rw [if_pos h0] at HSC
        rcases HV.out with he2 | ⟨g, off, cap', he2⟩
        · simp only [Value.slice.injEq] at he2
          obtain ⟨rfl, hl0, rfl⟩ := he2
          have HANS : Hid (VRow w3 (placeOf lns st sh) B (.slice none 0 0) (es.drop j)) := by
            have h1 := HRD3.out
            have h2 : es = [] := List.eq_nil_of_length_eq_zero hl0
            rw [h2] at h1 ⊢
            unfold Hid
            simpa using h1
          have hj0 : j = 0 := by omega
          subst hj0
          subst he
          rw [hl0] at *
          go_wp2
          go_ret2
          refine ⟨HB3.out, ?_⟩
          rw [if_neg (by omega)]
          exact ⟨_, _, rfl, HSC.out.symm, HANS.out⟩
        · simp only [Value.slice.injEq] at he2
          obtain ⟨rfl, _, rfl⟩ := he2
          subst he
          by_cases hcj : cap = j
          · have HANS : Hid (VRow w3 (placeOf lns st sh) B (.slice (some ⟨g, off, none⟩) (es.length - j) (cap - j)) (es.drop j)) := by
              unfold Hid
              have hnj : es.length - j = 0 := by omega
              rw [hnj, List.drop_of_length_le (by omega)]
              exact VRow.none_ (HRD3.out.reads.2.1 g rfl) (by unfold maxLen; omega)
            go_wp2
            go_ret2
            refine ⟨HB3.out, ?_⟩
            rw [if_neg (by omega)]
            exact ⟨_, _, rfl, HSC.out.symm, by first | exact HANS.out | simpa [hcj] using HANS.out⟩
          · have HANS : Hid (VRow w3 (placeOf lns st sh) B (.slice (some ⟨g, off + j, none⟩) (es.length - j) (cap - j)) (es.drop j)) := by
              exact HRD3.out.from_ hle
            go_wp2
            go_ret2
            refine ⟨HB3.out, ?_⟩
            rw [if_neg (by omega)]
            exact ⟨_, _, rfl, HSC.out.symm, HANS.out⟩
      · rw [if_neg h0] at HSC
        have hne : (hi.toList == []) = false := by
          obtain ⟨⟨l⟩⟩ := hi
          rw [Go.ByteArray.toList_eq]
          cases l with
          | nil => simp [ByteArray.size] at h0
          | cons x r => rfl
        rw [← entsOf_take] at HSC
        rcases HV.out with he2 | ⟨g, off, cap', he2⟩
        · simp only [Value.slice.injEq] at he2
          obtain ⟨rfl, hl0, rfl⟩ := he2
          have HANS : Hid (∀ w4, Below w3.heap.size w3 w4 → VRow w4 (placeOf lns st sh) B (.slice none 0 0) (es.drop j)) := fun w4 hb4 => by
            have h1 := HRD3.out.below hb4
            have h2 : es = [] := List.eq_nil_of_length_eq_zero hl0
            rw [h2] at h1 ⊢
            simpa using h1
          have hj0 : j = 0 := by omega
          have HNIL : Hid (es = []) := List.eq_nil_of_length_eq_zero hl0
          subst hj0
          rw [hl0] at *
          go_wp2_with fail
          refine (countBelow_any (placeOf lns st sh) (cmpOf lns st sh) hK hT (es.drop 0) hrs2 B _ hi _ (HANS.out _ (Below.refl _ _)) (by rw [hdl]; omega)).mono ?_
          rintro e w4 ⟨rfl, hb4⟩
          have HR4 := hide (HANS.out w4 hb4)
          have HB4 := hide (HB3.out.trans (hb4.mono (by omega)))
          have hb0 : Tm.below (cmpOf lns st sh) (Tm.entsOf (es.drop 0)) hi = 0 := by omega
          have HSC' : Hid (Tm.ixScan (cmpOf lns st sh) (Tm.entsOf es) lo hi = Tm.entsOf (es.drop 0)) := by
            unfold Hid
            rw [HSC.out, hb0]
            rw [HNIL.out]; rfl
          rw [hb0]
          clear hb4
          go_wp2
          go_ret2
          refine ⟨HB4.out, ?_⟩
          rw [if_neg (by omega)]
          exact ⟨_, _, rfl, HSC'.out.symm, HR4.out⟩
        · simp only [Value.slice.injEq] at he2
          obtain ⟨rfl, _, rfl⟩ := he2
          by_cases hcj : cap = j
          · have HANS : Hid (VRow w3 (placeOf lns st sh) B (.slice (some ⟨g, off, none⟩) (es.length - j) (cap - j)) (es.drop j)) := by
              unfold Hid
              have hnj : es.length - j = 0 := by omega
              rw [hnj, List.drop_of_length_le (by omega)]
              exact VRow.none_ (HRD3.out.reads.2.1 g rfl) (by unfold maxLen; omega)
            go_wp2_with fail
            refine (countBelow_any (placeOf lns st sh) (cmpOf lns st sh) hK hT (es.drop j) hrs2 B _ hi _ (by first | exact HANS.out | simpa [hcj] using HANS.out) (by rw [hdl]; omega)).mono ?_
            rintro e w4 ⟨rfl, hb4⟩
            have HB4 := hide (HB3.out.trans (hb4.mono (by omega)))
            have hg4 : g < w4.heap.size := by have := HANS.out.reads.2.1 g rfl; have := hb4.size; omega
            have hb0 : Tm.below (cmpOf lns st sh) (Tm.entsOf (es.drop j)) hi = 0 := by omega
            have HSC' : Hid (Tm.ixScan (cmpOf lns st sh) (Tm.entsOf es) lo hi = Tm.entsOf []) := by
              unfold Hid
              rw [HSC.out, hb0]; rfl
            rw [hb0]
            clear hb4
            go_wp2
            go_ret2
            refine ⟨HB4.out, ?_⟩
            rw [if_neg (by omega)]
            exact ⟨_, _, rfl, HSC'.out.symm, VRow.none_ hg4 (by unfold maxLen; omega)⟩
          · have HANS : Hid (VRow w3 (placeOf lns st sh) B (.slice (some ⟨g, off + j, none⟩) (es.length - j) (cap - j)) (es.drop j)) := by
              exact HRD3.out.from_ hle
            go_wp2_with fail
            refine (countBelow_any (placeOf lns st sh) (cmpOf lns st sh) hK hT (es.drop j) hrs2 B _ hi _ HANS.out (by rw [hdl]; omega)).mono ?_
            rintro e w4 ⟨rfl, hb4⟩
            have HR4 := hide (HANS.out.below hb4)
            have HB4 := hide (HB3.out.trans (hb4.mono (by omega)))
            obtain ⟨q, hq⟩ : ∃ q, Tm.below (cmpOf lns st sh) (Tm.entsOf (es.drop j)) hi = q := ⟨_, rfl⟩
            rw [hq] at HSC hle2 ⊢
            have HFIN : Hid (VRow w4 (placeOf lns st sh) B (.slice (some ⟨g, off + j, none⟩) q (cap - j)) ((es.drop j).take q)) := by
              exact HR4.out.upTo hdl.symm (by rw [hdl]; exact hle2)
            have i3 : (0 : Int) ≤ (q : Int) := by omega
            have i4 : (q : Int) ≤ ((cap - j : Nat) : Int) := by omega
            clear hb4 hq
            go_wp2
            go_ret2
            refine ⟨HB4.out, ?_⟩
            rw [if_neg (by omega)]
            exact ⟨_, _, rfl, HSC.out.symm, HFIN.out⟩
    · go_enter Tryz.func62, Tryz.ntmps62
      go_wp2_with fail
      refine (CodeKey_any lns bc bm st sh lo _ HC.out HOK.out).mono ?_
      rw [if_pos hlo]
      rintro e w1 ⟨rfl, hb1⟩
      have HB1 := hide hb1
      have hz1 := hb1.size
      have hbx1 : bx < w1.heap.size := by omega
      have c01 : w1.cell? ⟨bx, 0, none⟩ = some (.pointer (some ⟨bc, 0, none⟩)) := by rw [hb1.cell (p := ⟨bx, 0, none⟩) hbx]; exact c0
      have HC1 := hide (HC.out.below hb1)
      clear hb1 c0
      go_wp2_with fail
      refine (CodeKey_any lns bc bm st sh hi _ HC1.out HOK.out).mono ?_
      rw [if_neg hhi]
      rintro e w2 ⟨rfl, hb2⟩
      have HB2 := hide (HB1.out.trans (hb2.mono hz1))
      clear hb2 c01
      go_wp2
      go_ret2
      refine ⟨HB2.out, ?_⟩
      rw [if_pos (by omega)]
      rfl
  · go_enter Tryz.func62, Tryz.ntmps62
    go_wp2_with fail
    refine (CodeKey_any lns bc bm st sh lo _ HC.out HOK.out).mono ?_
    rw [if_neg hlo]
    rintro e w1 ⟨rfl, hb1⟩
    have HB1 := hide hb1
    clear hb1
    go_wp2
    go_ret2
    refine ⟨HB1.out, ?_⟩
    rw [if_pos (by omega)]
    rfl
end Go.Proofs.YtmnjjjhmnhfapaaGreatDoor
