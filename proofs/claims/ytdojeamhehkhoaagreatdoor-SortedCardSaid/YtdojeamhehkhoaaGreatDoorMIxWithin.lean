import Derived.Test.YtdojeamhehkhoaaGreatDoorMIxRow
import Derived.Test.YtdojeamhehkhoaaGreatDoorMLibDel
import Derived.Test.YtdojeamhehkhoaaGreatDoorMIxFind
namespace Go.Proofs.YtdojeamhehkhoaaGreatDoor
open Go.RowKit

/-- A row of one's own out of its block. -/
theorem owns_of_block {w : World} {base g n cap : Nat} {e : TypeId} {size : Nat} {xs : List Value} {cur : Array Value} (hb : base ≤ g) (hg : w.heap[g]? = some (.cells cur e)) (h1 : n ≤ cap) (h2 : cap ≤ maxLen) (h3 : cur.size = cap * size) (h4 : cur.toList.take (n * size) = xs) (hl : xs.length = n * size) : w.ownsRow base e size (.slice (some ⟨g, 0, none⟩) n cap) n xs :=
  ⟨hl, .inr ⟨g, cap, cur, rfl, hb, hg, h1, h2, h3, h4⟩⟩

/-- Insert: one element more, at its place. -/
theorem Insert_any (base : Nat) (v : Value) (n i vb : Nat) (xs news : List Value) (w : World) (hown : w.ownsRow base 129 3 v n xs) (hi : i ≤ n) (hnl : news.length = 3) (hn : n ≤ 1000)
    (hvb : w.heap[vb]? = some (.cells news.toArray 129)) (hne : v.ownBlock ≠ some vb) (h1c : ∀ u ∈ xs, u.oneCell' = true) (h1v : ∀ u ∈ news, u.oneCell' = true) (hbase : base ≤ w.heap.size) :
    Calls Tryz.prog 151 #[v, .int .i64 i, .slice (some ⟨vb, 0, none⟩) 1 1] w fun e w' =>
      ∃ v', e = .returned v' ∧ w'.ownsRow base 129 3 v' (n + 1) (xs.take (i * 3) ++ news ++ xs.drop (i * 3)) ∧ w.grownBy w' v.ownBlock ∧ (v'.ownBlock = v.ownBlock ∨ v'.ownBlock = some w.heap.size) := by
  have hvs : ∀ j u, news[j]? = some u → w.cell? ⟨vb, 0 + j, none⟩ = some u := fun j u hu => by
    simp only [World.cell?, hvb, Nat.zero_add]
    simpa using hu
  have hxl := hown.1
  by_cases hin : i = n
  · subst hin
    refine (InsertEnd base v i vb xs news w hown hnl hn hvs h1v hbase).mono ?_
    rintro e w' ⟨v', rfl, h1, h2, h3⟩
    refine ⟨v', rfl, ?_, h2, h3⟩
    rw [List.take_of_length_le (by omega), List.drop_of_length_le (by omega), List.append_nil]
    exact h1
  · have hlt : i < n := by omega
    rcases hown.2 with ⟨_, h0⟩ | ⟨g, cap, cur, rfl, hb, hg, hnc, hcm, hcs, htake⟩
    · omega
    · have hcell : ∀ j u, xs[j]? = some u → w.cell? ⟨g, 0 + j, none⟩ = some u := fun j u hu => by
        have hu' : cur.toList[j]? = some u := by
          rw [← htake, List.getElem?_take] at hu
          split at hu
          · exact hu
          · cases hu
        simp only [World.cell?, hg, Nat.zero_add]
        simpa using hu'
      have hglt : g < w.heap.size := by
        have := (Array.getElem?_eq_some_iff.1 hg).1
        exact this
      have hcm' : cap ≤ 9223372036854775807 := by unfold maxLen at hcm; omega
      by_cases hroom : n + 1 ≤ cap
      · refine (InsertShift g 0 n cap i vb 0 1 1 xs news w hlt (by omega) hroom hcm' (fun e => hne (by simp [Value.ownBlock, e])) hxl (by omega) hcell (fun j hj => ?_) (fun j _ => ?_) hvs h1c h1v 129 129 3 cur.size ?_ ?_ (by omega) ?_ ?_).mono ?_
        · simp only [World.cell?, hg, Nat.zero_add]
          have : j < cur.size := by omega
          simp [this]
        · simp [World.frozen?, hg]
        · simp [World.shape?, hvb, hnl]
        · simp [World.shape?, hg]
        · simp [World.frozen?, hvb]
        · simp [World.frozen?, hvb]
        · rintro e w' ⟨rfl, rfl⟩
          obtain ⟨c1, h1, h2, h3⟩ := heap_over (g := g) (e := 129) (xs.drop (i * 3)) (0 + (i + 1) * 3) cur w.drew hg (by rw [List.length_drop]; omega)
          obtain ⟨c2, k1, k2, k3⟩ := heap_over (g := g) (e := 129) news (0 + i * 3) c1 _ h1 (by omega)
          refine ⟨_, rfl, owns_of_block hb k1 hroom hcm (by omega) ?_ (by simp; omega), ?_, .inl rfl⟩
          · rw [k3, h3]
            have := Tm.over_shift (L := cur.toList) (xs := xs) (news := news) (a := i * 3) (n := n * 3) (m := 3) htake hxl (by omega) hnl (by simp; omega)
            rw [show (n + 1) * 3 = n * 3 + 3 by omega, show 0 + (i + 1) * 3 = i * 3 + 3 by omega, show 0 + i * 3 = i * 3 by omega]
            exact this
          · refine ⟨by rw [World.os_setCells, World.os_setCells]; rfl, by rw [(setCells_keep _ _ _ _).2, (setCells_keep _ _ _ _).2]; rfl, by rw [World.output_setCells, World.output_setCells]; rfl, by rw [(setCells_keep _ _ _ _).1, (setCells_keep _ _ _ _).1]; exact Nat.le_refl _, fun k hk hne' => ?_⟩
            have hkg : k ≠ g := fun e => hne' (by simp [Value.ownBlock, e])
            rw [World.heap_setCells_other _ _ _ _ (by rw [(setCells_keep _ _ _ _).1]; exact hk) hkg]
            exact World.heap_setCells_other w.drew _ _ _ hk hkg
      · refine (InsertGrow g 0 n cap i vb 0 1 1 xs news w hlt (by omega) hnc (by omega) (by omega) hxl (by omega) hcell hvs h1c h1v).mono ?_
        rintro e w' ⟨rfl, rfl⟩
        have hGn : n + 1 ≤ grownCap w (n + 1) cap 129 := grownCap_ge w _ _ _
        have hGm : grownCap w (n + 1) cap 129 ≤ maxLen := grownCap_le_maxLen w (n + 1) cap 129 (by unfold maxLen; omega)
        generalize grownCap w (n + 1) cap 129 = G at hGn hGm ⊢
        obtain ⟨ROW, hROW⟩ : ∃ ROW : Array Value, (xs.take (i * 3)).toArray ++ Builtin.zeroCells #[.string ⟨#[]⟩, .string ⟨#[]⟩, .string ⟨#[]⟩] (n + 1 - i) ++ Builtin.zeroCells #[.string ⟨#[]⟩, .string ⟨#[]⟩, .string ⟨#[]⟩] (G - (n + 1)) = ROW := ⟨_, rfl⟩
        rw [hROW]
        have hRs : ROW.size = G * 3 := by
          rw [← hROW]
          simp [size_zeroCells, hxl]
          omega
        have hRL : ROW.toList = xs.take (i * 3) ++ ((Builtin.zeroCells #[.string ⟨#[]⟩, .string ⟨#[]⟩, .string ⟨#[]⟩] (n + 1 - i)).toList ++ (Builtin.zeroCells #[.string ⟨#[]⟩, .string ⟨#[]⟩, .string ⟨#[]⟩] (G - (n + 1))).toList) := by
          rw [← hROW]; simp
        have hnew : (w.alloc (.cells ROW 129)).drew.heap[w.heap.size]? = some (.cells ROW 129) := heap_alloc_new w _
        obtain ⟨c1, h1, h2, h3⟩ := heap_over (g := w.heap.size) (e := 129) news (i * 3) ROW _ hnew (by omega)
        obtain ⟨c2, k1, k2, k3⟩ := heap_over (g := w.heap.size) (e := 129) (xs.drop (i * 3)) ((i + 1) * 3) c1 (((w.alloc (.cells ROW 129)).drew.setCells w.heap.size (i * 3) news).drew) h1 (by rw [List.length_drop]; omega)
        refine ⟨_, rfl, owns_of_block hbase k1 hGn hGm (by omega) ?_ (by simp; omega), ?_, .inr rfl⟩
        · rw [k3, h3]
          have := Tm.over_grow (L := ROW.toList) (xs := xs) (news := news) (a := i * 3) (n := n * 3) (m := 3) hRL hxl (by omega) hnl
          rw [show (n + 1) * 3 = n * 3 + 3 by omega, show (i + 1) * 3 = i * 3 + 3 by omega]
          exact this
        · refine ⟨by rw [World.os_setCells]; exact World.os_setCells _ _ _ _, by rw [(setCells_keep _ _ _ _).2]; exact (setCells_keep _ _ _ _).2, by rw [World.output_setCells]; exact World.output_setCells _ _ _ _, ?_, fun k hk _ => ?_⟩
          · rw [(setCells_keep _ _ _ _).1]
            show _ ≤ (World.setCells _ _ _ _).heap.size
            rw [(setCells_keep _ _ _ _).1]
            simp
          · have e1 : ((w.alloc (.cells ROW 129)).drew.setCells w.heap.size (i * 3) news).heap.size = w.heap.size + 1 := by rw [(setCells_keep _ _ _ _).1]; simp
            rw [World.heap_setCells_other _ _ _ _ (by show k < (World.setCells _ _ _ _).heap.size; omega) (by omega)]
            show (World.setCells _ _ _ _).heap[k]? = _
            rw [World.heap_setCells_other _ _ _ _ (by simp; omega) (by omega)]
            exact heap_alloc_old w _ hk
end Go.Proofs.YtdojeamhehkhoaaGreatDoor
namespace Go.Proofs.YtdojeamhehkhoaaGreatDoor
open Go.RowKit

theorem run_clear_rows {P : Program} (w : World) (t e ty : TypeId) (z : Value) (ht : P.underlying t = some (.slice e)) (hv : ∀ w, (zeroValue e).run P w = .ok z w) (b o n c : Nat) (zs : List Value) (hzs : (Builtin.zeroCells z.cells n).toList = zs) (h1 : ∀ u ∈ zs, u.oneCell' = true) (hn : 0 < n)
    (hc : ∀ j, j < zs.length → (w.cell? ⟨b, o + j, none⟩).isSome = true) (hf : ∀ j, j < zs.length → w.frozen? ⟨b, o + j, none⟩ = false) :
    (Builtin.clear_ #[t] ty #[.slice (some ⟨b, o, none⟩) n c]).run P w = .ok (.tuple #[]) (w.setCells b o zs) := by
  have hst := run_storeCells_cells (P := P) b o zs 0 w (by simpa using hc) (by simpa using hf) h1
  simp only [Nat.add_zero] at hst
  obtain ⟨m, rfl⟩ : ∃ m, n = m + 1 := ⟨n - 1, by omega⟩
  simp [Builtin.clear_, run_underlying ht, hv, hzs, hst]
theorem zeroVer (w : World) : (zeroValue 129).run Tryz.prog w = .ok (.agg #[.string ⟨#[]⟩, .string ⟨#[]⟩, .string ⟨#[]⟩]) w := by kernel_rfl
theorem zeroVer_one : (Builtin.zeroCells (Value.agg #[.string ⟨#[]⟩, .string ⟨#[]⟩, .string ⟨#[]⟩]).cells 1).toList = [.string ⟨#[]⟩, .string ⟨#[]⟩, .string ⟨#[]⟩] := by
  simp [Builtin.zeroCells, Value.cells]
  rfl

set_option maxRecDepth 100000 in
set_option maxHeartbeats 4000000 in
theorem DeleteRow (g off cap i j n : Nat) (xs : List Value) (w : World) (hI : ∀ t u, xs[t]? = some u → w.cell? ⟨g, off + t, none⟩ = some u) (hF : ∀ o, w.frozen? ⟨g, o, none⟩ = false) (h1 : ∀ u ∈ xs, u.oneCell' = true) (hxl : xs.length = n * 3) (hi : i < n) (hj : i + 1 = j) (hc1 : n ≤ cap) (hc2 : cap ≤ maxLen) (hl : n ≤ 1000000) :
    Calls Tryz.prog 126 #[.slice (some ⟨g, off, none⟩) n cap, .int .i64 i, .int .i64 j] w fun e w' => e = .returned (.slice (some ⟨g, off, none⟩) (n - 1) cap) ∧ w' = (w.drew.setCells g (off + i * 3) (xs.drop (j * 3))).setCells g (off + (i + (n - j)) * 3) [.string ⟨#[]⟩, .string ⟨#[]⟩, .string ⟨#[]⟩] := by
  obtain ⟨i0, hi0, hz0, hzs, hzb⟩ := info_parts Tryz.infoVer
  have hc2' : cap ≤ 9223372036854775807 := by unfold maxLen at hc2; exact hc2
  have s0 : (xs.drop (j * 3)).length = (n - j) * 3 := by simp [hxl]; omega
  have s1 : Hid ((xs.drop (j * 3)).length = (n - j) * 3) := s0
  obtain ⟨A, hA, hsrc⟩ : ∃ A : Addr, (if cap = j then some (⟨g, off, none⟩ : Addr) else some ⟨g, off + j * 3, none⟩) = some A ∧ Hid (∀ t u, (xs.drop (j * 3))[t]? = some u → w.drew.cell? (A.add t) = some u) := by
    by_cases h : cap = j
    · refine ⟨⟨g, off, none⟩, by simp [h], fun t u hu => ?_⟩
      have := (List.getElem?_eq_some_iff.1 hu).1
      omega
    · refine ⟨⟨g, off + j * 3, none⟩, by simp [h], fun t u hu => ?_⟩
      rw [Addr.add_lit, show off + j * 3 + t = off + (j * 3 + t) by omega]
      exact hI (j * 3 + t) u (by rwa [List.getElem?_drop] at hu)
  have s3 : Hid (∀ t, t < (xs.drop (j * 3)).length → (w.drew.cell? ⟨g, off + i * 3 + t, none⟩).isSome = true ∧ w.drew.frozen? ⟨g, off + i * 3 + t, none⟩ = false) := by
    intro t ht
    refine ⟨?_, hF _⟩
    have hx := hI (i * 3 + t) (xs[i * 3 + t]'(by omega)) (by simp)
    rw [Nat.add_assoc]
    show (w.cell? _).isSome = true
    rw [hx]; rfl
  obtain ⟨W1, hW1⟩ : ∃ W1, W1 = w.drew.setCells g (off + i * 3) (xs.drop (j * 3)) := ⟨_, rfl⟩
  have hsome : ∀ k, k < n * 3 → (W1.cell? ⟨g, off + k, none⟩).isSome = true := fun k hk => by
    rw [hW1]
    refine isSome_over g _ _ _ (fun t ht => (s3.out t ht).1) _ ?_
    show (w.cell? _).isSome = true
    rw [hI k (xs[k]'(by omega)) (by simp)]; rfl
  have hcl : ∀ ty, (Builtin.clear_ #[114] ty #[.slice (some ⟨g, off + (i + (n - j)) * 3, none⟩) (n - (i + (n - j))) (cap - (i + (n - j)))]).run Tryz.prog W1 = .ok (.tuple #[]) (W1.setCells g (off + (i + (n - j)) * 3) [.string ⟨#[]⟩, .string ⟨#[]⟩, .string ⟨#[]⟩]) := fun ty => by
    rw [show n - (i + (n - j)) = 1 by omega]
    refine run_clear_rows W1 _ _ ty _ Tryz.underlying114 zeroVer g (off + (i + (n - j)) * 3) 1 _ _ zeroVer_one (by intro u hu; simp at hu; subst hu; rfl) (by omega) (fun t ht => ?_) (fun t ht => ?_)
    · rw [Nat.add_assoc]
      exact hsome _ (by simp at ht; omega)
    · rw [hW1, World.frozen?_setCells]; exact hF _
  have HW : Hid (W1 = w.drew.setCells g (off + i * 3) (xs.drop (j * 3))) := hW1
  have hic : i ≤ cap := by omega
  have hjc : j ≤ cap := by omega
  have HJ := hide hj
  have hjn : j ≤ n := by omega
  have hin : i ≤ n := by omega
  have hij : ((i : Int) == (j : Int)) = false := by simp; omega
  have s2 : Hid (∀ u ∈ xs.drop (j * 3), u.oneCell' = true) := fun u hu => h1 u (List.mem_of_mem_drop hu)
  clear hI s0 hsome
  generalize xs.drop (j * 3) = news at *
  clear hW1
  go_enter Tryz.func126, Tryz.ntmps126
  go_wp2_with fail
  go_region_law (refine step_append_room rfl (.tmp 22) (.tmp 25) 114 rfl 129 i0 3 Tryz.underlying114 hi0 hzs g off i cap (by simp [Act.eval, Act.put]) A (n - j) (cap - j) news (by simp [Act.eval, Act.put]) s1.out hsrc.out s2.out (by omega) s3.out ?_; rw [← HW.out])
  go_wp2
  go_ret
  exact ⟨by rw [show n - 1 = i + (n - j) by omega]; rfl, by rw [← HW.out]⟩

/-- Delete: the row without one element. -/
theorem Delete_any (base : Nat) (v : Value) (n i : Nat) (xs : List Value) (w : World) (hown : w.ownsRow base 129 3 v n xs) (hi : i < n) (hn : n ≤ 1000) (h1c : ∀ u ∈ xs, u.oneCell' = true) :
    Calls Tryz.prog 126 #[v, .int .i64 i, .int .i64 (i + 1 : Nat)] w fun e w' =>
      ∃ v', e = .returned v' ∧ w'.ownsRow base 129 3 v' (n - 1) (xs.take (i * 3) ++ xs.drop (i * 3 + 3)) ∧ w.grownBy w' v.ownBlock ∧ v'.ownBlock = v.ownBlock := by
  have hxl := hown.1
  rcases hown.2 with ⟨_, h0⟩ | ⟨g, cap, cur, rfl, hb, hg, hnc, hcm, hcs, htake⟩
  · omega
  · have hcell : ∀ j u, xs[j]? = some u → w.cell? ⟨g, 0 + j, none⟩ = some u := fun j u hu => by
      have hu' : cur.toList[j]? = some u := by
        rw [← htake, List.getElem?_take] at hu
        split at hu
        · exact hu
        · cases hu
      simp only [World.cell?, hg, Nat.zero_add]
      simpa using hu'
    refine (DeleteRow g 0 cap i (i + 1) n xs w hcell (fun o => by simp [World.frozen?, hg]) h1c hxl hi rfl hnc hcm (by omega)).mono ?_
    rintro e w' ⟨rfl, rfl⟩
    obtain ⟨c1, h1, h2, h3⟩ := heap_over (g := g) (e := 129) (xs.drop ((i + 1) * 3)) (0 + i * 3) cur w.drew hg (by rw [List.length_drop]; omega)
    obtain ⟨c2, k1, k2, k3⟩ := heap_over (g := g) (e := 129) [.string ⟨#[]⟩, .string ⟨#[]⟩, .string ⟨#[]⟩] (0 + (i + (n - (i + 1))) * 3) c1 _ h1 (by simp; omega)
    refine ⟨_, rfl, owns_of_block hb k1 (by omega) hcm (by omega) ?_ (by simp; omega), ?_, rfl⟩
    · rw [k3, h3]
      have := Tm.over_out (L := cur.toList) (xs := xs) (a := i * 3) (n := n * 3) (m := 3) htake hxl (by omega) [.string ⟨#[]⟩, .string ⟨#[]⟩, .string ⟨#[]⟩] rfl
      rw [show (n - 1) * 3 = n * 3 - 3 by omega, show 0 + (i + (n - (i + 1))) * 3 = n * 3 - 3 by omega, show 0 + i * 3 = i * 3 by omega, show (i + 1) * 3 = i * 3 + 3 by omega]
      exact this
    · refine ⟨by rw [World.os_setCells, World.os_setCells]; rfl, by rw [(setCells_keep _ _ _ _).2, (setCells_keep _ _ _ _).2]; rfl, by rw [World.output_setCells, World.output_setCells]; rfl, by rw [(setCells_keep _ _ _ _).1, (setCells_keep _ _ _ _).1]; exact Nat.le_refl _, fun k hk hne' => ?_⟩
      have hkg : k ≠ g := fun e => hne' (by simp [Value.ownBlock, e])
      rw [World.heap_setCells_other _ _ _ _ (by rw [(setCells_keep _ _ _ _).1]; exact hk) hkg]
      exact World.heap_setCells_other w.drew _ _ _ hk hkg
end Go.Proofs.YtdojeamhehkhoaaGreatDoor
namespace Go.Proofs.YtdojeamhehkhoaaGreatDoor
open Go.RowKit

theorem Tryz.infoEntry : (Tryz.prog.info? 67).map (fun i => (i.zero, i.size, i.bytes)) = some (some (.agg #[.string ⟨#[]⟩, .string ⟨#[]⟩]), 2, 32) := by kernel_rfl

set_option maxRecDepth 100000 in
set_option maxHeartbeats 1000000 in
theorem IxNew_any (lns : List Tm.Ln) (bc bm : Nat) (st : Int) (sh : Bool) (w : World) (X : Nat) (_hc : Coll w bc bm st sh lns) (hX : X ≤ w.heap.size) :
    Calls Tryz.prog 45 #[.pointer (some ⟨bc, 0, none⟩)] w fun e w' => ∃ bx S, e = .returned (.pointer (some ⟨bx, 0, none⟩)) ∧ Ix w' X S bx bc st sh lns ixNil ∧ Below w.heap.size w w' ∧ ∀ i, S i → w.heap.size ≤ i := by
  have HANS : Hid (Ix (w.alloc (.cells #[.pointer (some ⟨bc, 0, none⟩), .slice none 0 0] 124)) X (fun i => i = w.heap.size) w.heap.size bc st sh lns ixNil ∧ Below w.heap.size w (w.alloc (.cells #[.pointer (some ⟨bc, 0, none⟩), .slice none 0 0] 124)) ∧ ∀ i, i = w.heap.size → w.heap.size ≤ i) := by
    refine ⟨⟨fun i hi => ⟨by omega, by simp; omega⟩, rfl, ?_, ⟨.slice none 0 0, ?_, World.ownsRow_nil _ _ _ _, fun g hg => by cases hg⟩, fun o => ?_, .nil, Nat.zero_le _, fun e he => by cases he⟩, (Below.refl _ _).alloc (Nat.le_refl _) _, fun i hi => by omega⟩
    · rw [cell_new rfl]; rfl
    · rw [cell_new rfl]; rfl
    · rw [frozen_new rfl]
  go_enter Tryz.func45, Tryz.ntmps45
  go_wp2
  go_ret
  exact ⟨w.heap.size, _, rfl, HANS.out⟩

/-- What reads an index: its cells, its row. -/
theorem Ix.reads {w : World} {X : Nat} {S : Nat → Prop} {bx bc : Nat} {st : Int} {sh : Bool} {lns : List Tm.Ln} {s : IxSt} (h : Ix w X S bx bc st sh lns s) : ∃ v, w.cell? ⟨bx, 1, none⟩ = some v ∧ Reads w v 3 s.length (versCells (placeOf lns st sh) s) := by
  obtain ⟨v, hv, hown, _⟩ := h.now
  exact ⟨v, hv, Reads.of_owns hown⟩

set_option maxRecDepth 100000 in
set_option maxHeartbeats 2000000 in
theorem IxGet_any (lns : List Tm.Ln) (bc bm : Nat) (st : Int) (sh : Bool) (X : Nat) (S : Nat → Prop) (bx : Nat) (s : IxSt) (k : ByteArray) (w : World) (hc : Coll w bc bm st sh lns) (hok : TableOk st lns) (hx : Ix w X S bx bc st sh lns s) :
    Calls Tryz.prog 21 #[.pointer (some ⟨bx, 0, none⟩), .string k] w fun e w' => e = .returned (if k.size ≤ 64 then .tuple #[.string ((Tm.ixGet (cmpOf lns st sh) (nowOf s) k).getD ⟨#[]⟩), .bool (Tm.ixHas (cmpOf lns st sh) (nowOf s) k), .int .i64 0] else .tuple #[.string ⟨#[]⟩, .bool false, .int .i64 7]) ∧ Below w.heap.size w w' := by
  unfold nowOf
  have hT := told_cmpOf lns st sh
  have hK := keyed_place hc.fit (sh := sh) hok.st
  have HC := hide hc
  have HOK := hide hok
  have HX := hide hx
  have c0 := hx.c0
  have hl := (hx.from_ bx hx.own).2
  have hrs : Tm.Rises (Tm.ByKey (cmpOf lns st sh)) s := hx.rises
  have hfew : s.length ≤ 64 := hx.few
  have HG := hide (Tm.ixGet_at hT (k := k) hrs)
  have HAT := hide (Tm.ixHas_at hT (k := k) hrs)
  clear hc hok hx
  by_cases hk : k.size ≤ 64
  · rw [if_pos hk]
    go_enter Tryz.func21, Tryz.ntmps21
    go_wp2_with fail
    refine (CodeKey_any lns bc bm st sh k _ HC.out HOK.out).mono ?_
    rw [if_pos hk]
    rintro e w1 ⟨rfl, hb1⟩
    have HB1 := hide hb1
    obtain ⟨v, c1, hrd⟩ := (HX.out.below hb1).reads
    have hl1 : bx < w1.heap.size := by have := hb1.size; omega
    have hz1 := hb1.size
    have HRD := hide hrd
    obtain ⟨a, cap, rfl⟩ := hrd.shape
    clear hb1 hrd c0
    go_wp2_with fail
    refine (find_any (placeOf lns st sh) (cmpOf lns st sh) hK hT s hrs _ k _ HRD.out (by omega)).mono ?_
    rintro e w2 ⟨rfl, hb2⟩
    have HB2 := hide (HB1.out.trans (hb2.mono hz1))
    have c12 : w2.cell? ⟨bx, 1, none⟩ = some (.slice a s.length cap) := by rw [hb2.cell (p := ⟨bx, 1, none⟩) hl1]; exact c1
    have hl2 : bx < w2.heap.size := by have := hb2.size; omega
    have HRD2 := hide (HRD.out.below hb2 HRD.out.2.1)
    clear hb2 c1
    cases hh : Tm.ixHas (cmpOf lns st sh) s k
    · have HH := hide hh
      have HG' : Hid (Tm.ixGet (cmpOf lns st sh) s k = none) := by
        have := HG.out
        rw [hh] at this
        unfold Hid
        simpa using this
      go_wp2
      go_ret3
      exact ⟨by rw [HG'.out, HH.out]; rfl, HB2.out⟩
    · have HH := hide hh
      obtain ⟨hi, _⟩ := HAT.out.1 hh
      obtain ⟨g, off, rfl, hg, x0, x1, x2⟩ := vers_at HRD2.out hi
      have HG' : Hid (Tm.ixGet (cmpOf lns st sh) s k = some (s[Tm.below (cmpOf lns st sh) s k]'hi).2) := by
        have := HG.out
        rw [hh, if_pos rfl, List.getElem?_eq_getElem hi] at this
        exact this
      generalize s[Tm.below (cmpOf lns st sh) s k]'hi = y at *
      generalize Tm.below (cmpOf lns st sh) s k = i at *
      have i1 : (0 : Int) ≤ (i : Int) := by omega
      have i2 : (i : Int) < (s.length : Int) := by omega
      go_wp2
      go_ret3
      exact ⟨by rw [HG'.out, HH.out]; rfl, HB2.out⟩
  · rw [if_neg hk]
    go_enter Tryz.func21, Tryz.ntmps21
    go_wp2_with fail
    refine (CodeKey_any lns bc bm st sh k _ HC.out HOK.out).mono ?_
    rw [if_neg hk]
    rintro e w1 ⟨rfl, hb1⟩
    have HB1 := hide hb1
    clear hb1
    go_wp2
    go_ret3
    exact ⟨rfl, HB1.out⟩
end Go.Proofs.YtdojeamhehkhoaaGreatDoor
namespace Go.Proofs.YtdojeamhehkhoaaGreatDoor
open Go.RowKit

theorem entCells_one (es : Tm.Ents) : ∀ u ∈ entCells es, u.oneCell' = true := by
  intro u hu
  obtain ⟨e, _, he⟩ := List.mem_flatMap.1 hu
  simp at he
  rcases he with rfl | rfl <;> rfl

set_option maxRecDepth 100000 in
set_option maxHeartbeats 4000000 in
theorem entries_any (K : ByteArray → ByteArray) (es : Tm.Ents) (v : Value) (w : World) (hrd : Reads w v 3 es.length (versCells K es)) (hl : es.length ≤ 1000) :
    Calls Tryz.prog 52 #[v] w fun e w' => ∃ v', e = .returned v' ∧ w'.ownsRow w.heap.size 67 2 v' es.length (entCells es) ∧ Below w.heap.size w w' := by
  obtain ⟨i0, hi0, hz0, hzs, hzb⟩ := info_parts Tryz.infoEntry
  obtain ⟨a, cap, rfl⟩ := hrd.shape
  have HRD := hide hrd
  obtain ⟨n, hn⟩ : ∃ n, es.length = n := ⟨_, rfl⟩
  rw [hn] at hl HRD ⊢
  have HN := hide hn
  clear hrd hn
  go_enter Tryz.func52, Tryz.ntmps52
  go_wp2_with (at_make; go_must (refine wpList_make_own _ rfl _ _ 50 rfl w.heap.size 67 i0 (.agg #[.string ⟨#[]⟩, .string ⟨#[]⟩]) 2 Tryz.underlying50 hi0 hz0 hzs _ _ _ n rfl rfl (by omega) (by rw [hzb]; omega) (by unfold maxLen; omega) (Nat.le_refl _) ?_))
  intro w0 hown0 hgr0
  have HO0 := hide hown0
  have HB0 : Hid (Below w.heap.size w w0) := (Below.refl _ _).grown hgr0 (Nat.le_refl _) (fun q hq => by cases hq)
  clear hown0 hgr0
  go_wp2_with fail
  go_loopw [3, 11] (fun x i wr => ∃ k : Nat, k ≤ n ∧ i = .int .i64 k ∧ (∃ a' c', x = .slice a' k c') ∧ Hid (wr.ownsRow w.heap.size 67 2 x k (entCells (es.take k))) ∧ Hid (Below w.heap.size w wr)) (fun _ i _ => n - (intOf i).toNat)
  case atStart => exact ⟨0, Nat.zero_le _, rfl, ⟨_, _, rfl⟩, HO0.out, HB0.out⟩
  case round =>
    obtain ⟨k, hk, rfl, ⟨a', c', rfl⟩, HO, HB⟩ := hrel
    by_cases hlt : k < n
    · have hke : k < es.length := by rw [HN.out]; exact hlt
      obtain ⟨g, off, rfl, hg, x0, x1, x2⟩ := vers_at (es := es) (by rw [HN.out]; exact HRD.out.below HB.out HRD.out.2.1) hke
      have HT : Hid (entCells (es.take (k + 1)) = entCells (es.take k) ++ [.string es[k].1, .string es[k].2]) := by
        unfold Hid
        rw [List.take_add_one, List.getElem?_eq_getElem hke, entCells_append]
        rfl
      generalize es[k] = y at *
      obtain ⟨yk, yv⟩ := y
      simp only at x0 x1 x2 HT
      have i1 : (0 : Int) ≤ (k : Int) := by omega
      have i2 : (k : Int) < (n : Int) := by omega
      have hwz := HB.out.size
      go_wp2_with (at_builtin; refine wpList_append_row rfl _ _ 50 50 rfl w.heap.size 67 67 i0 (.agg #[.string ⟨#[]⟩, .string ⟨#[]⟩]) 2 32 Tryz.underlying50 Tryz.underlying50 hi0 hz0 hzs hzb rfl (by omega) _ _ _ rfl ((HO.out.alloc _).alloc _) ⟨wr.heap.size + 1, 0, none⟩ 1 1 [.string yk, .string yv] rfl rfl (news_two (by simp)) (by intro u hu; simp at hu; rcases hu with rfl | rfl <;> rfl) (by unfold maxLen; omega) (by omega) (by simp; omega) ?_)
      intro v' w' hown hgr _
      have HO' := hide hown
      have HB' : Hid (Below w.heap.size w w') := ((HB.out.alloc hwz _).alloc (by simp; omega) _).grown hgr (by simp; omega) (fun q hq => (HO.out.lt q hq).1)
      obtain ⟨a2, c2, rfl⟩ := (Reads.of_owns hown).shape
      clear hown hgr
      go_wp2
      go_roundw
      case rel => exact ⟨k + 1, by omega, by go_num, ⟨_, _, rfl⟩, by unfold Hid; rw [HT.out]; exact HO'.out, HB'.out⟩
      case measure => simp [intOf]; omega
    · have e : k = n := by omega
      subst e
      have HO' : Hid (wr.ownsRow w.heap.size 67 2 (.slice a' k c') k (entCells es)) := by
        have := HO.out
        rw [← HN.out, List.take_length] at this
        rw [← HN.out]
        exact this
      go_wp2
      go_ret
      exact ⟨_, rfl, HO'.out, HB.out⟩
end Go.Proofs.YtdojeamhehkhoaaGreatDoor
namespace Go.Proofs.YtdojeamhehkhoaaGreatDoor
open Go.RowKit

theorem versCells_drop (K : ByteArray → ByteArray) (es : Tm.Ents) (j : Nat) (hj : j ≤ es.length) : versCells K (es.drop j) = (versCells K es).drop (j * 3) := by
  have h1 : versCells K es = versCells K (es.take j) ++ versCells K (es.drop j) := by rw [← versCells_append, List.take_append_drop]
  have h2 : (versCells K (es.take j)).length = j * 3 := by rw [versCells_length]; simp; omega
  rw [h1]
  exact (List.drop_left' h2).symm
theorem versCells_take (K : ByteArray → ByteArray) (es : Tm.Ents) (j : Nat) (hj : j ≤ es.length) : versCells K (es.take j) = (versCells K es).take (j * 3) := by
  have h1 : versCells K es = versCells K (es.take j) ++ versCells K (es.drop j) := by rw [← versCells_append, List.take_append_drop]
  have h2 : (versCells K (es.take j)).length = j * 3 := by rw [versCells_length]; simp; omega
  conv => rhs; rw [h1]
  exact (List.take_left' h2).symm
/-- What stands from a place on. -/
theorem Reads.from_ {w : World} {size g off n cap : Nat} {xs : List Value} (h : Reads w (.slice (some ⟨g, off, none⟩) n cap) size n xs) {j : Nat} (hj : j ≤ n) : Reads w (.slice (some ⟨g, off + j * size, none⟩) (n - j) (cap - j)) size (n - j) (xs.drop (j * size)) := by
  obtain ⟨h1, h2, a, c, he, ⟨h3, h4⟩, hc⟩ := h
  cases he
  refine ⟨?_, fun g' hg' => h2 g' (by simpa [Value.ownBlock] using hg'), _, _, rfl, ⟨by omega, by omega⟩, fun t u hu => ⟨g, off + j * size, rfl, ?_⟩⟩
  · rw [List.length_drop, h1, Nat.sub_mul]
  · rw [List.getElem?_drop] at hu
    obtain ⟨g', off', he', hx⟩ := hc _ u hu
    cases he'
    rw [Nat.add_assoc]; exact hx
/-- What stands ahead of a place. -/
theorem Reads.upTo {w : World} {size n cap : Nat} {a : Option Addr} {xs : List Value} (h : Reads w (.slice a n cap) size n xs) {j : Nat} (hj : j ≤ n) : Reads w (.slice a j cap) size j (xs.take (j * size)) := by
  obtain ⟨h1, h2, a', c, he, ⟨h3, h4⟩, hc⟩ := h
  cases he
  refine ⟨?_, fun g' hg' => h2 g' (by cases a with
    | none => simp [Value.ownBlock] at hg'
    | some ad => simpa [Value.ownBlock] using hg'), _, _, rfl, ⟨by omega, by omega⟩, fun t u hu => ?_⟩
  · rw [List.length_take, h1]
    have := Nat.mul_le_mul_right size hj
    omega
  · rw [List.getElem?_take] at hu
    split at hu
    · exact hc t u hu
    · cases hu
/-- A slice that has nothing in it. -/
theorem Reads.none_ {w : World} {size g off cap : Nat} (hg : g < w.heap.size) (hc : cap ≤ maxLen) : Reads w (.slice (some ⟨g, off, none⟩) 0 cap) size 0 [] :=
  ⟨by simp, fun g' hg' => by simp [Value.ownBlock] at hg'; omega, _, _, rfl, ⟨Nat.zero_le _, hc⟩, fun j u hu => by simp at hu⟩

/-- What 'within' answers. -/
def withinAns (c : ByteArray → ByteArray → Int) (K : ByteArray → ByteArray) (es : Tm.Ents) (lo hi : ByteArray) (w : World) (e : Ending) (w' : World) : Prop :=
  Below w.heap.size w w' ∧
  if 64 < lo.size ∨ 64 < hi.size then e = .returned (.tuple #[.slice none 0 0, .int .i64 7])
  else ∃ v, e = .returned (.tuple #[v, .int .i64 0]) ∧ Reads w' v 3 (Tm.ixScan c es lo hi).length (versCells K (Tm.ixScan c es lo hi))

set_option maxRecDepth 100000 in
set_option maxHeartbeats 4000000 in
theorem within_any (lns : List Tm.Ln) (bc bm : Nat) (st : Int) (sh : Bool) (bx : Nat) (es : Tm.Ents) (v : Value) (lo hi : ByteArray) (w : World) (hc : Coll w bc bm st sh lns) (hok : TableOk st lns) (c0 : w.cell? ⟨bx, 0, none⟩ = some (.pointer (some ⟨bc, 0, none⟩))) (hbx : bx < w.heap.size) (hrs : Tm.Rises (Tm.ByKey (cmpOf lns st sh)) es) (hrd : Reads w v 3 es.length (versCells (placeOf lns st sh) es)) (hv : v = .slice none 0 0 ∨ ∃ g off cap, v = .slice (some ⟨g, off, none⟩) es.length cap) (hfew : es.length ≤ 64) :
    Calls Tryz.prog 51 #[.pointer (some ⟨bx, 0, none⟩), v, .string lo, .string hi] w fun e w' => withinAns (cmpOf lns st sh) (placeOf lns st sh) es lo hi w e w' := by
  have hT := told_cmpOf lns st sh
  have hK := keyed_place hc.fit (sh := sh) hok.st
  have HC := hide hc
  have HOK := hide hok
  have HRD := hide hrd
  have HSC := hide (Tm.ixScan_cut hT (lo := lo) (hi := hi) hrs)
  have hle := Tm.below_le (cmpOf lns st sh) es lo
  obtain ⟨a, cap, rfl⟩ := hrd.shape
  have hcap := hrd.fits
  obtain ⟨_, hcap1, hcap2⟩ := hcap
  unfold maxLen at hcap2
  have HV := hide hv
  clear hc hok hrd hv
  by_cases hlo : lo.size ≤ 64
  · by_cases hhi : hi.size ≤ 64
    · go_enter Tryz.func51, Tryz.ntmps51
      go_wp2_with fail
      refine (CodeKey_any lns bc bm st sh lo _ HC.out HOK.out).mono ?_
      rw [if_pos hlo]
      rintro e w1 ⟨rfl, hb1⟩
      have HB1 := hide hb1
      have hz1 := hb1.size
      have hbx1 : bx < w1.heap.size := by omega
      have c01 : w1.cell? ⟨bx, 0, none⟩ = some (.pointer (some ⟨bc, 0, none⟩)) := by rw [hb1.cell (p := ⟨bx, 0, none⟩) hbx]; exact c0
      have HRD1 := hide (HRD.out.below hb1 HRD.out.2.1)
      have HC1 := hide (HC.out.below hb1)
      clear hb1 c0
      go_wp2_with fail
      refine (CodeKey_any lns bc bm st sh hi _ HC1.out HOK.out).mono ?_
      rw [if_pos hhi]
      rintro e w2 ⟨rfl, hb2⟩
      have HB2 := hide (HB1.out.trans (hb2.mono hz1))
      have hz2 := hb2.size
      have HRD2 := hide (HRD1.out.below hb2 HRD1.out.2.1)
      clear hb2 c01
      go_wp2_with fail
      refine (countBelow_any (placeOf lns st sh) (cmpOf lns st sh) hK hT es hrs _ lo _ HRD2.out (by omega)).mono ?_
      rintro e w3 ⟨rfl, hb3⟩
      have HB3 := hide (HB2.out.trans (hb3.mono (by omega)))
      have hz3 := hb3.size
      have HRD3 := hide (HRD2.out.below hb3 HRD2.out.2.1)
      clear hb3
      have hrs2 : Tm.Rises (Tm.ByKey (cmpOf lns st sh)) (es.drop (Tm.below (cmpOf lns st sh) es lo)) := List.Pairwise.drop hrs
      obtain ⟨j, hj⟩ : ∃ j, Tm.below (cmpOf lns st sh) es lo = j := ⟨_, rfl⟩
      rw [hj] at HSC hle hrs2 ⊢
      clear hj
      have i1 : (0 : Int) ≤ (j : Int) := by omega
      have i2 : (j : Int) ≤ (es.length : Int) := by omega
      have HVD := hide (versCells_drop (placeOf lns st sh) es j hle)
      have hdl : (es.drop j).length = es.length - j := by simp
      have hle2 := Tm.below_le (cmpOf lns st sh) (es.drop j) hi
      rw [hdl] at hle2
      by_cases h0 : hi.size = 0
      · have he : hi = ⟨#[]⟩ := by
          obtain ⟨⟨l⟩⟩ := hi
          simp [ByteArray.size] at h0
          subst h0
          rfl
        rw [if_pos h0] at HSC
        rcases HV.out with he2 | ⟨g, off, cap', he2⟩
        · simp only [Value.slice.injEq] at he2
          obtain ⟨rfl, hl0, rfl⟩ := he2
          have HANS : Hid (Reads w3 (.slice none 0 0) 3 (es.drop j).length (versCells (placeOf lns st sh) (es.drop j))) := by
            have h1 := HRD3.out
            have h2 : es = [] := List.eq_nil_of_length_eq_zero hl0
            rw [h2] at h1 ⊢
            unfold Hid
            simpa using h1
          have hj0 : j = 0 := by omega
          subst hj0
          subst he
          rw [hl0] at *
          go_wp2
          go_ret2
          refine ⟨HB3.out, ?_⟩
          rw [if_neg (by omega)]
          exact ⟨_, rfl, by rw [HSC.out]; exact HANS.out⟩
        · simp only [Value.slice.injEq] at he2
          obtain ⟨rfl, _, rfl⟩ := he2
          subst he
          by_cases hcj : cap = j
          · have HANS : Hid (Reads w3 (.slice (some ⟨g, off, none⟩) (es.length - j) (cap - j)) 3 (es.drop j).length (versCells (placeOf lns st sh) (es.drop j))) := by
              unfold Hid
              have hnj : es.length - j = 0 := by omega
              rw [hdl, HVD.out, hnj, List.drop_of_length_le (by rw [versCells_length]; omega)]
              exact Reads.none_ (HRD3.out.2.1 g rfl) (by unfold maxLen; omega)
            go_wp2
            go_ret2
            refine ⟨HB3.out, ?_⟩
            rw [if_neg (by omega)]
            exact ⟨_, rfl, by rw [HSC.out]; first | exact HANS.out | simpa [hcj] using HANS.out⟩
          · have HANS : Hid (Reads w3 (.slice (some ⟨g, off + j * 3, none⟩) (es.length - j) (cap - j)) 3 (es.drop j).length (versCells (placeOf lns st sh) (es.drop j))) := by
              unfold Hid
              rw [hdl, HVD.out]
              exact HRD3.out.from_ hle
            go_wp2
            go_ret2
            refine ⟨HB3.out, ?_⟩
            rw [if_neg (by omega)]
            exact ⟨_, rfl, by rw [HSC.out]; exact HANS.out⟩
      · rw [if_neg h0] at HSC
        have hne : (hi.toList == []) = false := by
          obtain ⟨⟨l⟩⟩ := hi
          rw [Go.ByteArray.toList_eq]
          cases l with
          | nil => simp [ByteArray.size] at h0
          | cons x r => rfl
        have HVT := hide (versCells_take (placeOf lns st sh) (es.drop j) (Tm.below (cmpOf lns st sh) (es.drop j) hi) (by rw [hdl]; exact hle2))
        rcases HV.out with he2 | ⟨g, off, cap', he2⟩
        · simp only [Value.slice.injEq] at he2
          obtain ⟨rfl, hl0, rfl⟩ := he2
          have HANS : Hid (∀ w4, Below w3.heap.size w3 w4 → Reads w4 (.slice none 0 0) 3 (es.drop j).length (versCells (placeOf lns st sh) (es.drop j))) := fun w4 hb4 => by
            have h1 := HRD3.out.below hb4 HRD3.out.2.1
            have h2 : es = [] := List.eq_nil_of_length_eq_zero hl0
            rw [h2] at h1 ⊢
            simpa using h1
          have hj0 : j = 0 := by omega
          have HNIL : Hid (es = []) := List.eq_nil_of_length_eq_zero hl0
          subst hj0
          rw [hl0] at *
          go_wp2_with fail
          refine (countBelow_any (placeOf lns st sh) (cmpOf lns st sh) hK hT (es.drop 0) hrs2 _ hi _ (HANS.out _ (Below.refl _ _)) (by rw [hdl]; omega)).mono ?_
          rintro e w4 ⟨rfl, hb4⟩
          have HR4 := hide (HANS.out w4 hb4)
          have HB4 := hide (HB3.out.trans (hb4.mono (by omega)))
          have hb0 : Tm.below (cmpOf lns st sh) (es.drop 0) hi = 0 := by omega
          have HSC' : Hid (Tm.ixScan (cmpOf lns st sh) es lo hi = es.drop 0) := by
            unfold Hid
            rw [HSC.out, hb0]
            rw [HNIL.out]; rfl
          rw [hb0]
          clear hb4
          go_wp2
          go_ret2
          refine ⟨HB4.out, ?_⟩
          rw [if_neg (by omega)]
          exact ⟨_, rfl, by rw [HSC'.out]; exact HR4.out⟩
        · simp only [Value.slice.injEq] at he2
          obtain ⟨rfl, _, rfl⟩ := he2
          by_cases hcj : cap = j
          · have HANS : Hid (Reads w3 (.slice (some ⟨g, off, none⟩) (es.length - j) (cap - j)) 3 (es.drop j).length (versCells (placeOf lns st sh) (es.drop j))) := by
              unfold Hid
              have hnj : es.length - j = 0 := by omega
              rw [hdl, HVD.out, hnj, List.drop_of_length_le (by rw [versCells_length]; omega)]
              exact Reads.none_ (HRD3.out.2.1 g rfl) (by unfold maxLen; omega)
            go_wp2_with fail
            refine (countBelow_any (placeOf lns st sh) (cmpOf lns st sh) hK hT (es.drop j) hrs2 _ hi _ (by first | exact HANS.out | simpa [hcj] using HANS.out) (by rw [hdl]; omega)).mono ?_
            rintro e w4 ⟨rfl, hb4⟩
            have HR4 := hide ((HANS.out.below hb4 HANS.out.2.1).fits)
            have HB4 := hide (HB3.out.trans (hb4.mono (by omega)))
            have hg4 : g < w4.heap.size := by have := HANS.out.2.1 g rfl; have := hb4.size; omega
            have hb0 : Tm.below (cmpOf lns st sh) (es.drop j) hi = 0 := by omega
            have HSC' : Hid (Tm.ixScan (cmpOf lns st sh) es lo hi = []) := by
              unfold Hid
              rw [HSC.out, hb0]; rfl
            rw [hb0]
            clear hb4
            go_wp2
            go_ret2
            refine ⟨HB4.out, ?_⟩
            rw [if_neg (by omega)]
            exact ⟨_, rfl, by rw [HSC'.out]; exact Reads.none_ hg4 (by unfold maxLen; omega)⟩
          · have HANS : Hid (Reads w3 (.slice (some ⟨g, off + j * 3, none⟩) (es.length - j) (cap - j)) 3 (es.drop j).length (versCells (placeOf lns st sh) (es.drop j))) := by
              unfold Hid
              rw [hdl, HVD.out]
              exact HRD3.out.from_ hle
            go_wp2_with fail
            refine (countBelow_any (placeOf lns st sh) (cmpOf lns st sh) hK hT (es.drop j) hrs2 _ hi _ HANS.out (by rw [hdl]; omega)).mono ?_
            rintro e w4 ⟨rfl, hb4⟩
            have HR4 := hide (HANS.out.below hb4 HANS.out.2.1)
            have HB4 := hide (HB3.out.trans (hb4.mono (by omega)))
            obtain ⟨q, hq⟩ : ∃ q, Tm.below (cmpOf lns st sh) (es.drop j) hi = q := ⟨_, rfl⟩
            rw [hq] at HVT HSC hle2 ⊢
            have HFIN : Hid (Reads w4 (.slice (some ⟨g, off + j * 3, none⟩) q (cap - j)) 3 ((es.drop j).take q).length (versCells (placeOf lns st sh) ((es.drop j).take q))) := by
              unfold Hid
              rw [HVT.out, List.length_take, hdl, Nat.min_eq_left hle2]
              have h9 := HR4.out
              rw [hdl] at h9
              exact h9.upTo hle2
            have i3 : (0 : Int) ≤ (q : Int) := by omega
            have i4 : (q : Int) ≤ ((cap - j : Nat) : Int) := by omega
            clear hb4 hq
            go_wp2
            go_ret2
            refine ⟨HB4.out, ?_⟩
            rw [if_neg (by omega)]
            exact ⟨_, rfl, by rw [HSC.out]; exact HFIN.out⟩
    · go_enter Tryz.func51, Tryz.ntmps51
      go_wp2_with fail
      refine (CodeKey_any lns bc bm st sh lo _ HC.out HOK.out).mono ?_
      rw [if_pos hlo]
      rintro e w1 ⟨rfl, hb1⟩
      have HB1 := hide hb1
      have hz1 := hb1.size
      have hbx1 : bx < w1.heap.size := by omega
      have c01 : w1.cell? ⟨bx, 0, none⟩ = some (.pointer (some ⟨bc, 0, none⟩)) := by rw [hb1.cell (p := ⟨bx, 0, none⟩) hbx]; exact c0
      have HC1 := hide (HC.out.below hb1)
      clear hb1 c0
      go_wp2_with fail
      refine (CodeKey_any lns bc bm st sh hi _ HC1.out HOK.out).mono ?_
      rw [if_neg hhi]
      rintro e w2 ⟨rfl, hb2⟩
      have HB2 := hide (HB1.out.trans (hb2.mono hz1))
      clear hb2 c01
      go_wp2
      go_ret2
      refine ⟨HB2.out, ?_⟩
      rw [if_pos (by omega)]
      rfl
  · go_enter Tryz.func51, Tryz.ntmps51
    go_wp2_with fail
    refine (CodeKey_any lns bc bm st sh lo _ HC.out HOK.out).mono ?_
    rw [if_neg hlo]
    rintro e w1 ⟨rfl, hb1⟩
    have HB1 := hide hb1
    clear hb1
    go_wp2
    go_ret2
    refine ⟨HB1.out, ?_⟩
    rw [if_pos (by omega)]
    rfl
end Go.Proofs.YtdojeamhehkhoaaGreatDoor
