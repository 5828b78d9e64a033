import Derived.Test.YtmnjjjhmnhfapaaGreatDoorMIxRow
namespace Go.Proofs.YtmnjjjhmnhfapaaGreatDoor
open Go.RowKit
theorem owns_of_block {w : World} {base g n cap : Nat} {e : TypeId} {size : Nat} {xs : List Value} {cur : Array Value} (hb : base ≤ g) (hg : w.heap[g]? = some (.cells cur e)) (h1 : n ≤ cap) (h2 : cap ≤ maxLen) (h3 : cur.size = cap * size) (h4 : cur.toList.take (n * size) = xs) (hl : xs.length = n * size) : w.ownsRow base e size (.slice (some ⟨g, 0, none⟩) n cap) n xs :=
 ⟨hl, .inr ⟨g, cap, cur, rfl, hb, hg, h1, h2, h3, h4⟩⟩
theorem Insert_any (base : Nat) (v : Value) (n i vb : Nat) (xs news : List Value) (w : World) (hown : w.ownsRow base 138 1 v n xs) (hi : i ≤ n) (hnl : news.length = 1) (hn : n ≤ 1000)
  (hvb : w.heap[vb]? = some (.cells news.toArray 138)) (hne : v.ownBlock ≠ some vb) (h1c : ∀ u ∈ xs, u.oneCell' = true) (h1v : ∀ u ∈ news, u.oneCell' = true) (hbase : base ≤ w.heap.size) :
  Calls Tryz.prog 151 #[v, .int .i64 i, .slice (some ⟨vb, 0, none⟩) 1 1] w fun e w' =>
   ∃ v', e = .returned v' ∧ w'.ownsRow base 138 1 v' (n + 1) (xs.take (i) ++ news ++ xs.drop (i)) ∧ w.grownBy w' v.ownBlock ∧ (v'.ownBlock = v.ownBlock ∨ v'.ownBlock = some w.heap.size) := by
 have hvs : ∀ j u, news[j]? = some u → w.cell? ⟨vb, 0 + j, none⟩ = some u := fun j u hu => by
  simp only [World.cell?, hvb, Nat.zero_add]
  simpa using hu
 have hxl := hown.1
 rw [Nat.mul_one] at hxl
 by_cases hin : i = n
 ·subst hin
  refine (InsertEnd base v i vb xs news w hown hnl hn hvs h1v hbase).mono ?_
  rintro e w' ⟨v', rfl, h1, h2, h3⟩
  refine ⟨v', rfl, ?_, h2, h3⟩
  rw [List.take_of_length_le (by omega), List.drop_of_length_le (by omega), List.append_nil]
  exact h1
 ·have hlt : i < n := by omega
  rcases hown.2 with ⟨_, h0⟩ | ⟨g, cap, cur, rfl, hb, hg, hnc, hcm, hcs, htake⟩
  ·omega
  ·rw [Nat.mul_one] at htake hcs
   have hcell : ∀ j u, xs[j]? = some u → w.cell? ⟨g, 0 + j, none⟩ = some u := fun j u hu => by
    have hu' : cur.toList[j]? = some u := by
     rw [← htake, List.getElem?_take] at hu
     split at hu
     ·exact hu
     ·cases hu
    simp only [World.cell?, hg, Nat.zero_add]
    simpa using hu'
   have hglt : g < w.heap.size := by
    have := (Array.getElem?_eq_some_iff.1 hg).1
    exact this
   have hcm' : cap ≤ 9223372036854775807 := by unfold maxLen at hcm; omega
   by_cases hroom : n + 1 ≤ cap
   ·refine (InsertShift g 0 n cap i vb 0 1 1 xs news w hlt (by omega) hroom hcm' (fun e => hne (by simp [Value.ownBlock, e])) hxl (by omega) hcell (fun j hj => ?_) (fun j _ => ?_) hvs h1c h1v 138 138 1 cur.size ?_ ?_ (by omega) ?_ ?_).mono ?_
    ·simp only [World.cell?, hg, Nat.zero_add]
     have : j < cur.size := by omega
     simp [this]
    ·simp [World.frozen?, hg]
    ·simp [World.shape?, hvb, hnl]
    ·simp [World.shape?, hg]
    ·simp [World.frozen?, hvb]
    ·simp [World.frozen?, hvb]
    ·rintro e w' ⟨rfl, rfl⟩
     obtain ⟨c1, h1, h2, h3⟩ := heap_over (g := g) (e := 138) (xs.drop (i)) (0 + (i + 1)) cur w.drew hg (by rw [List.length_drop]; omega)
     obtain ⟨c2, k1, k2, k3⟩ := heap_over (g := g) (e := 138) news (0 + i) c1 _ h1 (by omega)
     refine ⟨_, rfl, owns_of_block hb k1 hroom hcm (by omega) ?_ (by simp; omega), ?_, .inl rfl⟩
     ·rw [k3, h3]
      have := Tm.over_shift (L := cur.toList) (xs := xs) (news := news) (a := i) (n := n) (m := 1) htake hxl (by omega) hnl (by simp; omega)
      rw [show 0 + (i + 1) = i + 1 by omega, show 0 + i = i by omega, Nat.mul_one]
      exact this
     ·refine ⟨by rw [World.os_setCells, World.os_setCells]; rfl, by rw [(setCells_keep _ _ _ _).2, (setCells_keep _ _ _ _).2]; rfl, by rw [World.output_setCells, World.output_setCells]; rfl, by rw [(setCells_keep _ _ _ _).1, (setCells_keep _ _ _ _).1]; exact Nat.le_refl _, fun k hk hne' => ?_⟩
      have hkg : k ≠ g := fun e => hne' (by simp [Value.ownBlock, e])
      rw [World.heap_setCells_other _ _ _ _ (by rw [(setCells_keep _ _ _ _).1]; exact hk) hkg]
      exact World.heap_setCells_other w.drew _ _ _ hk hkg
   ·refine (InsertGrow g 0 n cap i vb 0 1 1 xs news w hlt (by omega) hnc (by omega) (by omega) hxl (by omega) hcell hvs h1c h1v).mono ?_
    rintro e w' ⟨rfl, rfl⟩
    have hGn : n + 1 ≤ grownCap w (n + 1) cap 138 := grownCap_ge w _ _ _
    have hGm : grownCap w (n + 1) cap 138 ≤ maxLen := grownCap_le_maxLen w (n + 1) cap 138 (by unfold maxLen; omega)
    generalize grownCap w (n + 1) cap 138 = G at hGn hGm ⊢
    obtain ⟨ROW, hROW⟩ : ∃ ROW : Array Value, (xs.take (i)).toArray ++ Builtin.zeroCells #[.pointer none] (n + 1 - i) ++ Builtin.zeroCells #[.pointer none] (G - (n + 1)) = ROW := ⟨_, rfl⟩
    rw [hROW]
    have hRs : ROW.size = G := by
     rw [← hROW]
     simp [size_zeroCells, hxl]
     omega
    have hRL : ROW.toList = xs.take (i) ++ ((Builtin.zeroCells #[.pointer none] (n + 1 - i)).toList ++ (Builtin.zeroCells #[.pointer none] (G - (n + 1))).toList) := by
     rw [← hROW]; simp
    have hnew : (w.alloc (.cells ROW 138)).drew.heap[w.heap.size]? = some (.cells ROW 138) := heap_alloc_new w _
    obtain ⟨c1, h1, h2, h3⟩ := heap_over (g := w.heap.size) (e := 138) news (i) ROW _ hnew (by omega)
    obtain ⟨c2, k1, k2, k3⟩ := heap_over (g := w.heap.size) (e := 138) (xs.drop (i)) ((i + 1)) c1 (((w.alloc (.cells ROW 138)).drew.setCells w.heap.size (i) news).drew) h1 (by rw [List.length_drop]; omega)
    refine ⟨_, rfl, owns_of_block hbase k1 hGn hGm (by omega) ?_ (by simp; omega), ?_, .inr rfl⟩
    ·rw [k3, h3]
     have := Tm.over_grow (L := ROW.toList) (xs := xs) (news := news) (a := i) (n := n) (m := 1) hRL hxl (by omega) hnl
     rw [Nat.mul_one]
     exact this
    ·refine ⟨by rw [World.os_setCells]; exact World.os_setCells _ _ _ _, by rw [(setCells_keep _ _ _ _).2]; exact (setCells_keep _ _ _ _).2, by rw [World.output_setCells]; exact World.output_setCells _ _ _ _, ?_, fun k hk _ => ?_⟩
     ·rw [(setCells_keep _ _ _ _).1]
      show _ ≤ (World.setCells _ _ _ _).heap.size
      rw [(setCells_keep _ _ _ _).1]
      simp
     ·have e1 : ((w.alloc (.cells ROW 138)).drew.setCells w.heap.size (i) news).heap.size = w.heap.size + 1 := by rw [(setCells_keep _ _ _ _).1]; simp
      rw [World.heap_setCells_other _ _ _ _ (by show k < (World.setCells _ _ _ _).heap.size; omega) (by omega)]
      show (World.setCells _ _ _ _).heap[k]? = _
      rw [World.heap_setCells_other _ _ _ _ (by simp; omega) (by omega)]
      exact heap_alloc_old w _ hk
theorem run_clear_rows {P : Program} (w : World) (t e ty : TypeId) (z : Value) (ht : P.underlying t = some (.slice e)) (hv : ∀ w, (zeroValue e).run P w = .ok z w) (b o n c : Nat) (zs : List Value) (hzs : (Builtin.zeroCells z.cells n).toList = zs) (h1 : ∀ u ∈ zs, u.oneCell' = true) (hn : 0 < n)
  (hc : ∀ j, j < zs.length → (w.cell? ⟨b, o + j, none⟩).isSome = true) (hf : ∀ j, j < zs.length → w.frozen? ⟨b, o + j, none⟩ = false) :
  (Builtin.clear_ #[t] ty #[.slice (some ⟨b, o, none⟩) n c]).run P w = .ok (.tuple #[]) (w.setCells b o zs) := by
 have hst := run_storeCells_cells (P := P) b o zs 0 w (by simpa using hc) (by simpa using hf) h1
 simp only [Nat.add_zero] at hst
 obtain ⟨m, rfl⟩ : ∃ m, n = m + 1 := ⟨n - 1, by omega⟩
 simp [Builtin.clear_, run_underlying ht, hv, hzs, hst]
theorem zeroVer (w : World) : (zeroValue 138).run Tryz.prog w = .ok (.pointer none) w := by kernel_rfl
theorem zeroVer_one : (Builtin.zeroCells (Value.pointer none).cells 1).toList = [.pointer none] := by
 simp [Builtin.zeroCells, Value.cells]
set_option maxRecDepth 100000 in
set_option maxHeartbeats 4000000 in
theorem DeleteRow (g off cap i j n : Nat) (xs : List Value) (w : World) (hI : ∀ t u, xs[t]? = some u → w.cell? ⟨g, off + t, none⟩ = some u) (hF : ∀ o, w.frozen? ⟨g, o, none⟩ = false) (h1 : ∀ u ∈ xs, u.oneCell' = true) (hxl : xs.length = n) (hi : i < n) (hj : i + 1 = j) (hc1 : n ≤ cap) (hc2 : cap ≤ maxLen) (hl : n ≤ 1000000) :
  Calls Tryz.prog 147 #[.slice (some ⟨g, off, none⟩) n cap, .int .i64 i, .int .i64 j] w fun e w' => e = .returned (.slice (some ⟨g, off, none⟩) (n - 1) cap) ∧ w' = (w.drew.setCells g (off + i) (xs.drop (j))).setCells g (off + (i + (n - j))) [.pointer none] := by
 obtain ⟨i0, hi0, hz0, hzs, hzb⟩ := info_parts Tryz.infoVer
 have hc2' : cap ≤ 9223372036854775807 := by unfold maxLen at hc2; exact hc2
 have s0 : (xs.drop (j)).length = n - j := by simp [hxl]
 have s1 : Hid ((xs.drop (j)).length = (n - j) * 1) := by unfold Hid; rw [Nat.mul_one]; exact s0
 obtain ⟨A, hA, hsrc⟩ : ∃ A : Addr, (if cap = j then some (⟨g, off, none⟩ : Addr) else some ⟨g, off + j, none⟩) = some A ∧ Hid (∀ t u, (xs.drop (j))[t]? = some u → w.drew.cell? (A.add t) = some u) := by
  by_cases h : cap = j
  ·refine ⟨⟨g, off, none⟩, by simp [h], fun t u hu => ?_⟩
   have := (List.getElem?_eq_some_iff.1 hu).1
   omega
  ·refine ⟨⟨g, off + j, none⟩, by simp [h], fun t u hu => ?_⟩
   rw [Addr.add_lit, show off + j + t = off + (j + t) by omega]
   exact hI (j + t) u (by rwa [List.getElem?_drop] at hu)
 have s3 : Hid (∀ t, t < (xs.drop (j)).length → (w.drew.cell? ⟨g, off + i * 1 + t, none⟩).isSome = true ∧ w.drew.frozen? ⟨g, off + i * 1 + t, none⟩ = false) := by
  intro t ht
  rw [Nat.mul_one]
  refine ⟨?_, hF _⟩
  have hx := hI (i + t) (xs[i + t]'(by omega)) (by simp)
  rw [Nat.add_assoc]
  show (w.cell? _).isSome = true
  rw [hx]; rfl
 obtain ⟨W1, hW1⟩ : ∃ W1, W1 = w.drew.setCells g (off + i) (xs.drop (j)) := ⟨_, rfl⟩
 have hsome : ∀ k, k < n → (W1.cell? ⟨g, off + k, none⟩).isSome = true := fun k hk => by
  rw [hW1]
  refine isSome_over g _ _ _ (fun t ht => by have := (s3.out t ht).1; rwa [Nat.mul_one] at this) _ ?_
  show (w.cell? _).isSome = true
  rw [hI k (xs[k]'(by omega)) (by simp)]; rfl
 have hcl : ∀ ty, (Builtin.clear_ #[120] ty #[.slice (some ⟨g, off + (i + (n - j)), none⟩) (n - (i + (n - j))) (cap - (i + (n - j)))]).run Tryz.prog W1 = .ok (.tuple #[]) (W1.setCells g (off + (i + (n - j))) [.pointer none]) := fun ty => by
  rw [show n - (i + (n - j)) = 1 by omega]
  refine run_clear_rows W1 _ _ ty _ Tryz.underlying120 zeroVer g (off + (i + (n - j))) 1 _ _ zeroVer_one (by intro u hu; simp at hu; subst hu; rfl) (by omega) (fun t ht => ?_) (fun t ht => ?_)
  ·rw [Nat.add_assoc]
   exact hsome _ (by simp at ht; omega)
  ·rw [hW1, World.frozen?_setCells]; exact hF _
 have HW : Hid (W1 = w.drew.setCells g (off + i * 1) (xs.drop (j))) := by unfold Hid; rw [Nat.mul_one]; exact hW1
 have HW2 : Hid (W1 = w.drew.setCells g (off + i) (xs.drop (j))) := hW1
 have hic : i ≤ cap := by omega
 have hjc : j ≤ cap := by omega
 have HJ := hide hj
 have hjn : j ≤ n := by omega
 have hin : i ≤ n := by omega
 have hij : ((i : Int) == (j : Int)) = false := by simp; omega
 have s2 : Hid (∀ u ∈ xs.drop (j), u.oneCell' = true) := fun u hu => h1 u (List.mem_of_mem_drop hu)
 clear hI s0 hsome
 generalize xs.drop (j) = news at *
 clear hW1
 go_enter Tryz.func147, Tryz.ntmps147
 go_wp2_with fail
 go_region_law (refine step_append_room rfl (.tmp 22) (.tmp 25) 120 rfl 138 i0 1 Tryz.underlying120 hi0 hzs g off i cap (by simp [Act.eval, Act.put]) A (n - j) (cap - j) news (by simp [Act.eval, Act.put]) s1.out hsrc.out s2.out (by omega) s3.out ?_; rw [← HW.out])
 go_wp2
 go_ret
 exact ⟨by rw [show n - 1 = i + (n - j) by omega]; rfl, by rw [← HW2.out]⟩
theorem Delete_any (base : Nat) (v : Value) (n i : Nat) (xs : List Value) (w : World) (hown : w.ownsRow base 138 1 v n xs) (hi : i < n) (hn : n ≤ 1000) (h1c : ∀ u ∈ xs, u.oneCell' = true) :
  Calls Tryz.prog 147 #[v, .int .i64 i, .int .i64 (i + 1 : Nat)] w fun e w' =>
   ∃ v', e = .returned v' ∧ w'.ownsRow base 138 1 v' (n - 1) (xs.take (i) ++ xs.drop (i + 1)) ∧ w.grownBy w' v.ownBlock ∧ v'.ownBlock = v.ownBlock := by
 have hxl := hown.1
 rw [Nat.mul_one] at hxl
 rcases hown.2 with ⟨_, h0⟩ | ⟨g, cap, cur, rfl, hb, hg, hnc, hcm, hcs, htake⟩
 ·omega
 ·rw [Nat.mul_one] at htake hcs
  have hcell : ∀ j u, xs[j]? = some u → w.cell? ⟨g, 0 + j, none⟩ = some u := fun j u hu => by
   have hu' : cur.toList[j]? = some u := by
    rw [← htake, List.getElem?_take] at hu
    split at hu
    ·exact hu
    ·cases hu
   simp only [World.cell?, hg, Nat.zero_add]
   simpa using hu'
  refine (DeleteRow g 0 cap i (i + 1) n xs w hcell (fun o => by simp [World.frozen?, hg]) h1c hxl hi rfl hnc hcm (by omega)).mono ?_
  rintro e w' ⟨rfl, rfl⟩
  obtain ⟨c1, h1, h2, h3⟩ := heap_over (g := g) (e := 138) (xs.drop ((i + 1))) (0 + i) cur w.drew hg (by rw [List.length_drop]; omega)
  obtain ⟨c2, k1, k2, k3⟩ := heap_over (g := g) (e := 138) [.pointer none] (0 + (i + (n - (i + 1)))) c1 _ h1 (by simp; omega)
  refine ⟨_, rfl, owns_of_block hb k1 (by omega) hcm (by omega) ?_ (by simp; omega), ?_, rfl⟩
  ·rw [k3, h3]
   have := Tm.over_out (L := cur.toList) (xs := xs) (a := i) (n := n) (m := 1) htake hxl (by omega) [.pointer none] rfl
   rw [Nat.mul_one, show 0 + (i + (n - (i + 1))) = n - 1 by omega, show 0 + i = i by omega]
   exact this
  ·refine ⟨by rw [World.os_setCells, World.os_setCells]; rfl, by rw [(setCells_keep _ _ _ _).2, (setCells_keep _ _ _ _).2]; rfl, by rw [World.output_setCells, World.output_setCells]; rfl, by rw [(setCells_keep _ _ _ _).1, (setCells_keep _ _ _ _).1]; exact Nat.le_refl _, fun k hk hne' => ?_⟩
   have hkg : k ≠ g := fun e => hne' (by simp [Value.ownBlock, e])
   rw [World.heap_setCells_other _ _ _ _ (by rw [(setCells_keep _ _ _ _).1]; exact hk) hkg]
   exact World.heap_setCells_other w.drew _ _ _ hk hkg
theorem Tryz.infoEntry : (Tryz.prog.info? 67).map (fun i => (i.zero, i.size, i.bytes)) = some (some (.agg #[.string ⟨#[]⟩, .string ⟨#[]⟩]), 2, 32) := by kernel_rfl
set_option maxRecDepth 100000 in
set_option maxHeartbeats 1000000 in
theorem IxNew_any (lns : List Tm.Ln) (bc bm : Nat) (st : Int) (sh : Bool) (w : World) (X : Nat) (_hc : Coll w bc bm st sh lns) (hX : X ≤ w.heap.size) :
  Calls Tryz.prog 57 #[.pointer (some ⟨bc, 0, none⟩)] w fun e w' => ∃ bx S, e = .returned (.pointer (some ⟨bx, 0, none⟩)) ∧ Ix w' X S bx bc st sh lns ixNil ∧ Below w.heap.size w w' ∧ ∀ i, S i → w.heap.size ≤ i := by
 have HANS : Hid (Ix (w.alloc (.cells #[.pointer (some ⟨bc, 0, none⟩), .slice none 0 0, .slice none 0 0, .int .i64 0] 132)) X (fun i => i = w.heap.size) w.heap.size bc st sh lns ixNil ∧ Below w.heap.size w (w.alloc (.cells #[.pointer (some ⟨bc, 0, none⟩), .slice none 0 0, .slice none 0 0, .int .i64 0] 132)) ∧ ∀ i, i = w.heap.size → w.heap.size ≤ i) := by
  refine ⟨⟨fun i hi => ⟨by omega, by simp; omega⟩, rfl, ?_, ?_, fun o => ?_, ⟨fun _ => False, fun _ => 0, fun _ => .slice none 0 0, .slice none 0 0, .slice none 0 0, ?_, ?_, World.ownsRow_nil _ _ _ _, World.ownsRow_nil _ _ _ _, fun g hg => (by cases hg), fun g hg => (by cases hg), fun _ h => h.elim, fun _ h => (by cases h), fun _ h => (by cases h), fun _ h => (by cases h)⟩, StOk.nil _⟩, (Below.refl _ _).alloc (Nat.le_refl _) _, fun i hi => by omega⟩
  ·rw [cell_new rfl]; rfl
  ·rw [cell_new rfl]; rfl
  ·rw [frozen_new rfl]
  ·rw [cell_new rfl]; rfl
  ·rw [cell_new rfl]; rfl
 go_enter Tryz.func57, Tryz.ntmps57
 go_wp2
 go_ret
 exact ⟨w.heap.size, _, rfl, HANS.out⟩
theorem IxIn.nowRow {w : World} {X : Nat} {S F : Nat → Prop} {bx : Nat} {K : ByteArray → ByteArray} {s : IxSt} {B : Nat → Nat} {V : Nat → Value} {v h : Value} (hi : IxIn w X S F bx K s B V v h) : VRow w K B v s.now := ⟨Reads.of_owns hi.now, fun x hx => (hi.vers x (mem_now hx)).2⟩
theorem owns_slice {w : World} {base : Nat} {e : TypeId} {size : Nat} {v : Value} {n : Nat} {xs : List Value} (h : w.ownsRow base e size v n xs) : v = .slice none 0 0 ∨ ∃ g off cap, v = .slice (some ⟨g, off, none⟩) n cap := by
 rcases h.2 with ⟨rfl, _⟩ | ⟨g, cap, cur, rfl, _⟩
 ·exact .inl rfl
 ·exact .inr ⟨g, 0, cap, rfl⟩
set_option maxRecDepth 100000 in
set_option maxHeartbeats 2000000 in
theorem IxGet_any (lns : List Tm.Ln) (bc bm : Nat) (st : Int) (sh : Bool) (X : Nat) (S : Nat → Prop) (bx : Nat) (s : IxSt) (k : ByteArray) (w : World) (hc : Coll w bc bm st sh lns) (hok : TableOk st lns) (hx : Ix w X S bx bc st sh lns s) :
  Calls Tryz.prog 25 #[.pointer (some ⟨bx, 0, none⟩), .string k] w fun e w' => e = .returned (if k.size ≤ 64 then .tuple #[.string ((Tm.ixGet (cmpOf lns st sh) (nowOf s) k).getD ⟨#[]⟩), .bool (Tm.ixHas (cmpOf lns st sh) (nowOf s) k), .int .i64 0] else .tuple #[.string ⟨#[]⟩, .bool false, .int .i64 7]) ∧ Below w.heap.size w w' := by
 have hT := told_cmpOf lns st sh
 have hK := keyed_place hc.fit (sh := sh) hok.st
 have HC := hide hc
 have HOK := hide hok
 have c0 := hx.c0
 have hl := (hx.from_ bx hx.own).2
 have hrs : Tm.Rises (Tm.ByKey (cmpOf lns st sh)) (Tm.entsOf s.now) := hx.rises
 have hfew : s.now.length ≤ 64 := by rw [← nowOf_length]; exact hx.few
 have HG : Hid (Tm.ixGet (cmpOf lns st sh) (nowOf s) k = if Tm.ixHas (cmpOf lns st sh) (nowOf s) k then ((nowOf s)[Tm.below (cmpOf lns st sh) (nowOf s) k]?).map (·.2) else none) := Tm.ixGet_at hT (k := k) hrs
 have HAT := hide (Tm.ixHas_at hT (k := k) hrs)
 obtain ⟨F, B, V, v, h, hi⟩ := hx.mem
 have c1 := hi.c1
 have HR := hide hi.nowRow
 obtain ⟨a, cap, rfl⟩ := hi.nowRow.reads.shape
 clear hc hok hx hi
 by_cases hk : k.size ≤ 64
 ·rw [if_pos hk]
  go_enter Tryz.func25, Tryz.ntmps25
  go_wp2_with fail
  refine (CodeKey_any lns bc bm st sh k _ HC.out HOK.out).mono ?_
  rw [if_pos hk]
  rintro e w1 ⟨rfl, hb1⟩
  have HB1 := hide hb1
  have hz1 := hb1.size
  have hl1 : bx < w1.heap.size := by omega
  have c11 : w1.cell? ⟨bx, 1, none⟩ = some (.slice a s.now.length cap) := by rw [hb1.cell (p := ⟨bx, 1, none⟩) hl]; exact c1
  have HR1 := hide (HR.out.below hb1)
  clear hb1 c0 c1
  go_wp2_with fail
  refine (find_any (placeOf lns st sh) (cmpOf lns st sh) hK hT s.now hrs B _ k _ HR1.out (by omega)).mono ?_
  rintro e w2 ⟨rfl, hb2⟩
  have HB2 := hide (HB1.out.trans (hb2.mono hz1))
  have c12 : w2.cell? ⟨bx, 1, none⟩ = some (.slice a s.now.length cap) := by rw [hb2.cell (p := ⟨bx, 1, none⟩) hl1]; exact c11
  have hl2 : bx < w2.heap.size := by have := hb2.size; omega
  have HR2 := hide (HR1.out.below hb2)
  clear hb2 c11
  cases hh : Tm.ixHas (cmpOf lns st sh) (Tm.entsOf s.now) k
  ·have HH : Hid (Tm.ixHas (cmpOf lns st sh) (nowOf s) k = false) := hh
   have HG' : Hid (Tm.ixGet (cmpOf lns st sh) (nowOf s) k = none) := by
    have := HG.out
    rw [HH.out] at this
    unfold Hid
    simpa using this
   go_wp2
   go_ret3
   exact ⟨by rw [HG'.out, HH.out]; rfl, HB2.out⟩
  ·have HH : Hid (Tm.ixHas (cmpOf lns st sh) (nowOf s) k = true) := hh
   obtain ⟨hi, _⟩ := HAT.out.1 hh
   rw [Tm.entsOf_length] at hi
   obtain ⟨g, off, rfl, hg, x0, hva⟩ := HR2.out.get hi
   obtain ⟨y0, y1, y2, y3, _⟩ := hva
   have HG' : Hid (Tm.ixGet (cmpOf lns st sh) (nowOf s) k = some (s.now[Tm.below (cmpOf lns st sh) (Tm.entsOf s.now) k]'hi).2.2) := by
    have h1 := HG.out
    rw [HH.out, if_pos rfl] at h1
    unfold nowOf at h1
    rw [List.getElem?_eq_getElem (by rw [Tm.entsOf_length]; exact hi), Tm.entsOf_get hi] at h1
    exact h1
   generalize s.now[Tm.below (cmpOf lns st sh) (Tm.entsOf s.now) k]'hi = y at *
   generalize Tm.below (cmpOf lns st sh) (Tm.entsOf s.now) k = i at *
   have i1 : (0 : Int) ≤ (i : Int) := by omega
   have i2 : (i : Int) < (s.now.length : Int) := by omega
   go_wp2
   go_ret3
   exact ⟨by rw [HG'.out, HH.out]; rfl, HB2.out⟩
 ·rw [if_neg hk]
  go_enter Tryz.func25, Tryz.ntmps25
  go_wp2_with fail
  refine (CodeKey_any lns bc bm st sh k _ HC.out HOK.out).mono ?_
  rw [if_neg hk]
  rintro e w1 ⟨rfl, hb1⟩
  have HB1 := hide hb1
  clear hb1
  go_wp2
  go_ret3
  exact ⟨rfl, HB1.out⟩
set_option maxRecDepth 100000 in
set_option maxHeartbeats 4000000 in
theorem entries_any (K : ByteArray → ByteArray) (es : Tm.Vers) (B : Nat → Nat) (v : Value) (w : World) (hrd : VRow w K B v es) (hl : es.length ≤ 1000) :
  Calls Tryz.prog 63 #[v] w fun e w' => ∃ v', e = .returned v' ∧ w'.ownsRow w.heap.size 67 2 v' es.length (entCells (Tm.entsOf es)) ∧ Below w.heap.size w w' := by
 obtain ⟨i0, hi0, hz0, hzs, hzb⟩ := info_parts Tryz.infoEntry
 obtain ⟨a, cap, rfl⟩ := hrd.reads.shape
 obtain ⟨n, hn⟩ : ∃ n, es.length = n := ⟨_, rfl⟩
 have HRD : Hid (∀ wr, Below w.heap.size w wr → VRow wr K B (.slice a n cap) es) := fun wr hb => by have := hrd.below hb; rwa [hn] at this
 rw [hn] at hl ⊢
 have HN := hide hn
 clear hrd hn
 go_enter Tryz.func63, Tryz.ntmps63
 go_wp2_with (at_make; go_must (refine wpList_make_own _ rfl _ _ 50 rfl w.heap.size 67 i0 (.agg #[.string ⟨#[]⟩, .string ⟨#[]⟩]) 2 Tryz.underlying50 hi0 hz0 hzs _ _ _ n rfl rfl (by omega) (by rw [hzb]; omega) (by unfold maxLen; omega) (Nat.le_refl _) ?_))
 intro w0 hown0 hgr0
 have HO0 := hide hown0
 have HB0 : Hid (Below w.heap.size w w0) := (Below.refl _ _).grown hgr0 (Nat.le_refl _) (fun q hq => by cases hq)
 clear hown0 hgr0
 go_wp2_with fail
 go_loopw [3, 11] (fun x i wr => ∃ k : Nat, k ≤ n ∧ i = .int .i64 k ∧ (∃ a' c', x = .slice a' k c') ∧ Hid (wr.ownsRow w.heap.size 67 2 x k (entCells (Tm.entsOf (es.take k)))) ∧ Hid (Below w.heap.size w wr)) (fun _ i _ => n - (intOf i).toNat)
 case atStart => exact ⟨0, Nat.zero_le _, rfl, ⟨_, _, rfl⟩, HO0.out, HB0.out⟩
 case round =>
  obtain ⟨k, hk, rfl, ⟨a', c', rfl⟩, HO, HB⟩ := hrel
  by_cases hlt : k < n
  ·have hke : k < es.length := by rw [HN.out]; exact hlt
   obtain ⟨g, off, rfl, hg, x0, hva⟩ := (HRD.out wr HB.out).get hke
   obtain ⟨y0, y1, y2, y3, _⟩ := hva
   have HT : Hid (entCells (Tm.entsOf (es.take (k + 1))) = entCells (Tm.entsOf (es.take k)) ++ [.string es[k].2.1, .string es[k].2.2]) := by
    unfold Hid Tm.entsOf
    rw [List.take_add_one, List.getElem?_eq_getElem hke, List.map_append, entCells_append]
    rfl
   generalize es[k] = y at *
   obtain ⟨yn, yk, yv⟩ := y
   simp only at x0 y0 y1 y2 y3 HT
   have i1 : (0 : Int) ≤ (k : Int) := by omega
   have i2 : (k : Int) < (n : Int) := by omega
   have hwz := HB.out.size
   go_wp2_with (at_builtin; refine wpList_append_row rfl _ _ 50 50 rfl w.heap.size 67 67 i0 (.agg #[.string ⟨#[]⟩, .string ⟨#[]⟩]) 2 32 Tryz.underlying50 Tryz.underlying50 hi0 hz0 hzs hzb rfl (by omega) _ _ _ rfl (HO.out.alloc _) ⟨wr.heap.size, 0, none⟩ 1 1 [.string yk, .string yv] rfl rfl (news_two (by simp)) (by intro u hu; simp at hu; rcases hu with rfl | rfl <;> rfl) (by unfold maxLen; omega) (by omega) (by simp; omega) ?_)
   intro v' w' hown hgr _
   have HO' := hide hown
   have HB' : Hid (Below w.heap.size w w') := (HB.out.alloc hwz _).grown hgr (by simp; omega) (fun q hq => (HO.out.lt q hq).1)
   obtain ⟨a2, c2, rfl⟩ := (Reads.of_owns hown).shape
   clear hown hgr
   go_wp2
   go_roundw
   case rel => exact ⟨k + 1, by omega, by go_num, ⟨_, _, rfl⟩, by unfold Hid; rw [HT.out]; exact HO'.out, HB'.out⟩
   case measure => simp [intOf]; omega
  ·have e : k = n := by omega
   subst e
   have HO' : Hid (wr.ownsRow w.heap.size 67 2 (.slice a' k c') k (entCells (Tm.entsOf es))) := by
    have := HO.out
    rw [← HN.out, List.take_length] at this
    rw [← HN.out]
    exact this
   go_wp2
   go_ret
   exact ⟨_, rfl, HO'.out, HB.out⟩
theorem run_append_keep2 {P : Program} (w : World) (base : Nat) (t ty e : TypeId) (i : TypeInfo) (z : Value) (bytes : Nat) (ht : P.underlying t = some (.slice e)) (hi : P.info? e = some i) (hz : i.zero = some z)
  (hsize : i.size = 2) (hby : i.bytes = bytes) (hzs : z.cells.size = 2)
  (v : Value) (n : Nat) (xs : List Value) (hown : w.ownsRow base e 2 v n xs)
  (a : Addr) (m c : Nat) (news : List Value) (hl : news.length = m * 2) (hnews : ∀ j u, news[j]? = some u → w.cell? (a.add j) = some u) (h1 : ∀ u ∈ news, u.oneCell' = true)
  (h63 : n + m ≤ maxLen) (hbytes : (n + m) * bytes ≤ 140737488355328) (hbase : base ≤ w.heap.size) :
  ∃ v' w', (Builtin.append_ #[t, t] ty #[v, .slice (some a) m c]).run P w = .ok v' w' ∧ w'.ownsRow base e 2 v' (n + m) (xs ++ news) ∧ w.grownBy w' v.ownBlock ∧
   (v'.ownBlock = v.ownBlock ∨ v'.ownBlock = some w.heap.size) ∧ Reads w' v 2 n xs := by
 obtain ⟨v', w', hr, h2, h3, h4, h5⟩ := run_append_own_at (P := P) w base t ty e i z 2 bytes ht hi hz hsize hby hzs (by omega) v n xs hown a m c news hl hnews h1 h63 hbytes hbase
 refine ⟨v', w', hr, h2, h3, h5, ?_⟩
 have hrd := Reads.of_owns hown
 rcases hown.2 with ⟨rfl, rfl⟩ | ⟨g, cap, cur, rfl, hbg, hg, hnc, hcm, hcs, htake⟩
 ·exact hrd.of_blocks h3.size (fun g hg => by simp [Value.ownBlock] at hg)
 ·by_cases hroom : n + m ≤ cap
  ·have hfit : n * i.size + news.length ≤ cur.size := by rw [hl, hcs, hsize]; omega
   have hr' := run_append_room (P := P) w t ty e i ht hi g n cap cur hg a m c news (by rw [hsize]; exact hl) hnews h1 hroom hfit
   rw [hr] at hr'
   have hv : v' = .slice (some ⟨g, 0, none⟩) (n + m) cap := by injection hr'
   subst hv
   have hc := h2.cells (g := g) rfl
   refine ⟨hown.1, fun g' hg' => by simp [Value.ownBlock] at hg'; subst hg'; exact (h2.lt g rfl).2, _, cap, rfl, ⟨hnc, hcm⟩, fun j u hu => ⟨g, 0, rfl, ?_⟩⟩
   have hj : (xs ++ news)[j]? = some u := by
    rw [List.getElem?_append_left (List.getElem?_eq_some_iff.1 hu).1]; exact hu
   have := hc j u hj
   have hadd : (⟨g, 0, none⟩ : Addr).add j = ⟨g, 0 + j, none⟩ := by unfold Addr.add; split <;> simp_all
   rw [hadd] at this
   exact this
  ·have holds : ∀ j u, xs[j]? = some u → w.cell? ((⟨g, 0, none⟩ : Addr).add j) = some u := hown.cells (g := g) rfl
   have hr' := run_append_grow (P := P) w t ty e i z ht hi hz ⟨g, 0, none⟩ n cap xs (by rw [hsize]; exact hown.1) holds a m c news (by rw [hsize]; exact hl) hnews (by omega) (by unfold maxLen at h63; omega) (growslice_fits (by omega) (by rw [hby]; exact hbytes))
   rw [hr] at hr'
   have hw : w' = w.drew.alloc (.cells (xs.toArray ++ news.toArray ++ Builtin.zeroCells z.cells (grownCap w (n + m) cap e - (n + m))) e) := by injection hr'
   refine hrd.of_blocks h3.size (fun g' hg' => ?_)
   have hlt := hrd.2.1 g' hg'
   rw [hw]
   exact heap_alloc_old w.drew _ hlt
theorem wpList_append_keep2 {P : Program} {w : World} {ops : Array Oper} {rest : List Oper} {o : Oper} {a : Act} {Q : Exit → Act → World → Prop} (hgd : o.guard = none) (s x : Operand) (t : TypeId)
  (ho : o.op = .call { callee := .builtin .append, args := #[s, x], argTypes := #[t, t] })
  (base : Nat) (e : TypeId) (i : TypeInfo) (z : Value) (bytes : Nat) (ht : P.underlying t = some (.slice e)) (hi : P.info? e = some i) (hz : i.zero = some z)
  (hsize : i.size = 2) (hby : i.bytes = bytes) (hzs : z.cells.size = 2)
  (v : Value) (n : Nat) (xs : List Value) (hs : a.eval s = v) (hown : w.ownsRow base e 2 v n xs)
  (ad : Addr) (m c : Nat) (news : List Value) (hx : a.eval x = .slice (some ad) m c) (hl : news.length = m * 2) (hnews : ∀ j u, news[j]? = some u → w.cell? (ad.add j) = some u) (h1 : ∀ u ∈ news, u.oneCell' = true)
  (h63 : n + m ≤ maxLen) (hbytes : (n + m) * bytes ≤ 140737488355328) (hbase : base ≤ w.heap.size)
  (h : ∀ v' w', w'.ownsRow base e 2 v' (n + m) (xs ++ news) → w.grownBy w' v.ownBlock → (v'.ownBlock = v.ownBlock ∨ v'.ownBlock = some w.heap.size) → Reads w' v 2 n xs → wpList P ops Q rest (a.put o.dst v') w') :
  wpList P ops Q (o :: rest) a w := by
 refine wpList_plain hgd fun K hK => ?_
 obtain ⟨v', w', hr, h2, h3, h4, h5⟩ := run_append_keep2 (P := P) w base t o.type e i z bytes ht hi hz hsize hby hzs v n xs hown ad m c news hl hnews h1 h63 hbytes hbase
 unfold Oper.wp execOp
 simp only [ho, resolve, invoke, builtin, Sem.run_bind, Sem.run_pure, Result.andThen_ok, List.map_toArray, List.map_cons, List.map_nil, hs, hx, hr]
 exact hK _ _ (h v' w' h2 h3 h4 h5)
theorem set2 (A R : List Value) (a b x y : Value) {p : Nat} (hp : A.length = p) : ((A ++ a :: b :: R).set p x).set (p + 1) y = A ++ x :: y :: R := by
 subst hp
 simp
def enCells (e : ByteArray × ByteArray) : List Value := [.string e.1, .string e.2]
def filledN (m : ByteArray × ByteArray) (xs : Tm.Ents) (k : Nat) : Tm.Ents := List.replicate k m ++ xs.drop k
theorem filledN_zero (m : ByteArray × ByteArray) (xs : Tm.Ents) : filledN m xs 0 = xs := by simp [filledN]
theorem filledN_all (m : ByteArray × ByteArray) (xs : Tm.Ents) : filledN m xs xs.length = List.replicate xs.length m := by simp [filledN]
theorem filledN_length {m : ByteArray × ByteArray} {xs : Tm.Ents} {k : Nat} (h : k ≤ xs.length) : (filledN m xs k).length = xs.length := by simp [filledN]; omega
theorem filledN_set {m : ByteArray × ByteArray} {xs : Tm.Ents} {k : Nat} (hk : k < xs.length) : ((entCells (filledN m xs k)).set (k * 2) (.string m.1)).set (k * 2 + 1) (.string m.2) = entCells (filledN m xs (k + 1)) := by
 have e1 : entCells (filledN m xs k) = entCells (List.replicate k m) ++ .string xs[k].1 :: .string xs[k].2 :: entCells (xs.drop (k + 1)) := by
  rw [filledN, entCells_append, List.drop_eq_getElem_cons hk]; rfl
 have e2 : entCells (filledN m xs (k + 1)) = entCells (List.replicate k m) ++ .string m.1 :: .string m.2 :: entCells (xs.drop (k + 1)) := by
  rw [filledN, entCells_append, List.replicate_succ', entCells_append]; simp [entCells]
 rw [e1, e2, set2 _ _ _ _ _ _ (by rw [entCells_length]; simp)]
def put2at (w : World) (g k : Nat) (m : ByteArray × ByteArray) : World := (w.setCell ⟨g, k * 2, none⟩ (.string m.1)).setCell ⟨g, k * 2 + 1, none⟩ (.string m.2)
theorem owns_put2 {w : World} {base g n cap : Nat} {m : ByteArray × ByteArray} {xs : Tm.Ents} {k : Nat} (h : w.ownsRow base 67 2 (.slice (some ⟨g, 0, none⟩) n cap) n (entCells (filledN m xs k))) (hk : k < xs.length) : (put2at w g k m).ownsRow base 67 2 (.slice (some ⟨g, 0, none⟩) n cap) n (entCells (filledN m xs (k + 1))) := by
 rw [← filledN_set hk]
 exact owns_setAt (owns_setAt h _ _) _ _
theorem put2at_size (w : World) (g k : Nat) (m : ByteArray × ByteArray) : (put2at w g k m).heap.size = w.heap.size := by simp [put2at, World.setCell]
theorem put2at_grown {w0 w : World} {g k : Nat} {m : ByteArray × ByteArray} (h : w0.grownBy w (some g)) : w0.grownBy (put2at w g k m) (some g) :=
 ⟨h.os, h.tape, h.output, by rw [put2at_size]; exact h.size, fun q hq hne => by
  have hn : q ≠ g := by simpa using hne
  unfold put2at
  rw [Below.heap_setCell _ _ _ _ hn, Below.heap_setCell _ _ _ _ hn]
  exact h.block q hq hne⟩
theorem entCells_more (n : Nat) (m : ByteArray × ByteArray) : entCells (List.replicate n m) ++ enCells m = entCells (List.replicate (n + 1) m) := by
 rw [List.replicate_succ', entCells_append]; simp [entCells, enCells]
theorem enCells_one (x : ByteArray × ByteArray) : ∀ u ∈ enCells x, u.oneCell' = true := by
 intro u hu
 simp [enCells] at hu
 rcases hu with rfl | rfl <;> rfl
theorem Reads.headX {w w0 : World} {size g n cap m cap1 : Nat} {xs ys : List Value} (h0 : Reads w0 (.slice (some ⟨g, 0, none⟩) n cap) size n xs) (h : Reads w (.slice (some ⟨g, 0, none⟩) m cap1) size m (xs ++ ys)) : Reads w (.slice (some ⟨g, 0, none⟩) n cap) size n xs := by
 obtain ⟨l0, _, a, c, e0, hc0, _⟩ := h0
 obtain ⟨_, lt, a', c', e, _, hc⟩ := h
 cases e0
 cases e
 refine ⟨l0, fun g' hg' => lt g' (by simpa [Value.ownBlock] using hg'), _, _, rfl, hc0, fun j u hu => ?_⟩
 exact hc j u (by rw [List.getElem?_append_left (List.getElem?_eq_some_iff.1 hu).1]; exact hu)
theorem Reads.stayX {w0 w1 w2 : World} {size base base' : Nat} {e : TypeId} {v v1 : Value} {n m : Nat} {xs ys : List Value} (h0 : w0.ownsRow base e size v n xs) (h1 : Reads w1 v size n xs) (hv1 : w1.ownsRow base' e size v1 m (xs ++ ys)) (hg : w1.grownBy w2 v1.ownBlock) (h2 : Reads w2 v1 size m (xs ++ ys)) : Reads w2 v size n xs := by
 rcases h0.2 with ⟨rfl, rfl⟩ | ⟨g, cap, cur, rfl, _⟩
 ·exact h1.of_blocks hg.size (fun g hg => by simp [Value.ownBlock] at hg)
 ·by_cases he : v1.ownBlock = some g
  ·rcases hv1.2 with ⟨rfl, rfl⟩ | ⟨g', cap', cur', rfl, _⟩
   ·simp [Value.ownBlock] at he
   ·simp [Value.ownBlock] at he
    subst he
    exact Reads.headX h1 h2
  ·refine h1.of_blocks hg.size (fun g' hg' => hg.block g' (h1.2.1 g' hg') ?_)
   simp [Value.ownBlock] at hg'
   subst hg'
   exact fun h => he h.symm
theorem news_quadX {w : World} {x y z u : Value} {t : TypeId} : ∀ j q, [x, y, z, u][j]? = some q → (w.alloc (.cells #[x, y, z, u] t)).cell? ((⟨w.heap.size, 0, none⟩ : Addr).add j) = some q := by
 intro j q hj
 match j, hj with
 | 0, hj => simp at hj; subst hj; simp [Addr.add]
 | 1, hj => simp at hj; subst hj; simp [Addr.add]
 | 2, hj => simp at hj; subst hj; simp [Addr.add]
 | 3, hj => simp at hj; subst hj; simp [Addr.add]
theorem Reads.setX {w : World} {v : Value} {size n : Nat} {xs : List Value} (h : Reads w v size n xs) {a : Addr} (ha : v.ownBlock ≠ some a.block) (u : Value) : Reads (w.setCell a u) v size n xs :=
 h.of_blocks (by simp [World.setCell]) (fun g hg => Below.heap_setCell _ _ _ _ (by rintro rfl; exact ha hg))
structure NKept (bb ob B base : Nat) (vb v : Value) (rows : List Value) (n : Nat) (me : ByteArray × ByteArray) (w w' : World) (vb' v1 v2 v3 : Value) : Prop where
 cell : w'.cell? ⟨bb, ob + 2, none⟩ = some vb'
 free : w'.frozen? ⟨bb, ob + 2, none⟩ = false
 rest : ∀ o, o ≠ ob + 2 → w'.cell? ⟨bb, o, none⟩ = w.cell? ⟨bb, o, none⟩
 froz : ∀ o, w'.frozen? ⟨bb, o, none⟩ = w.frozen? ⟨bb, o, none⟩
 row : w'.ownsRow B 50 1 vb' (rows.length + 4) (rows ++ [v, v1, v2, v3])
 at' : ∀ g, vb'.ownBlock = some g → vb.ownBlock = some g ∨ w.heap.size ≤ g
 size : w.heap.size ≤ w'.heap.size
 os : w'.os = w.os
 tape : w'.tape = w.tape
 output : w'.output = w.output
 r0 : Reads w' v 2 n (entCells (List.replicate n me))
 r1 : Reads w' v1 2 (n + 1) (entCells (List.replicate (n + 1) me))
 r2 : Reads w' v2 2 (n + 2) (entCells (List.replicate (n + 2) me))
 r3 : Reads w' v3 2 (n + 3) (entCells (List.replicate (n + 3) me))
 far : ∀ u ∈ [v, v1, v2, v3], ∀ g, u.ownBlock = some g → base ≤ g ∧ vb'.ownBlock ≠ some g
 block : ∀ k, k < base → k ≠ bb → vb.ownBlock ≠ some k → w'.heap[k]? = w.heap[k]?
set_option maxRecDepth 100000 in
set_option maxHeartbeats 4000000 in
theorem keepEntries_any (bb ob B base : Nat) (vb v : Value) (rows : List Value) (xs : Tm.Ents) (w : World) (hc : w.cell? ⟨bb, ob + 2, none⟩ = some vb) (hf : w.frozen? ⟨bb, ob + 2, none⟩ = false) (hrow : w.ownsRow B 50 1 vb rows.length rows) (hl : w.ownsRow base 67 2 v xs.length (entCells xs)) (hbb : bb < base) (hvb : ∀ g, vb.ownBlock = some g → g < base ∧ g ≠ bb) (hbase : base ≤ w.heap.size) (hB : B ≤ base) (hr9 : rows.length ≤ 100000000) (hx9 : xs.length ≤ 100000) :
  Calls Tryz.prog 139 #[.pointer (some ⟨bb, ob, none⟩), v] w fun e w' => e = .returned (.tuple #[]) ∧ ∃ vb' v1 v2 v3, NKept bb ob B base vb v rows xs.length (mkEnt (rows.length / 4)) w w' vb' v1 v2 v3 := by
 obtain ⟨i0, hi, hz0, hz1, hz2⟩ := info_parts Tryz.infoEntry
 obtain ⟨i1, ki, kz0, kz1, kz2⟩ := info_parts (show (Tryz.prog.info? 50).map (fun i => (i.zero, i.size, i.bytes)) = some (some (.slice none 0 0), 1, 24) by kernel_rfl)
 obtain ⟨ab, capb, rfl⟩ := (Reads.of_owns hrow).shape
 obtain ⟨al, capl, rfl⟩ := (Reads.of_owns hl).shape
 have HROW := hide hrow
 have HL := hide hl
 have HVB := hide hvb
 obtain ⟨R, hR⟩ : ∃ R, rows.length = R := ⟨_, rfl⟩
 rw [hR] at hr9 hc
 have HR := hide hR
 obtain ⟨n, hn⟩ : ∃ n, xs.length = n := ⟨_, rfl⟩
 rw [hn] at hx9
 have HNN := hide hn
 simp only [hn]
 have HC := hide hc
 have HFZ := hide hf
 clear hrow hl hvb hn
 have q2 : R / 4 ≤ 1000000000 := by omega
 have HME := hide (fun w => markEntry_any (R / 4) w q2)
 obtain ⟨mk, hmk⟩ : ∃ mk : ByteArray, mkTxt (R / 4) = mk := ⟨_, rfl⟩
 rw [hmk] at HME
 have HMK := hide hmk
 clear hmk
 go_enter Tryz.func139, Tryz.ntmps139
 go_wp2_with fail
 refine (HME.out _).mono ?_
 rintro e w1 ⟨rfl, hb1⟩
 have HB1 := hide hb1
 have hz1' := hb1.size
 obtain ⟨W, hW⟩ : ∃ W, w1.alloc (.cells #[.string mk, .string ⟨#[120]⟩] 67) = W := ⟨_, rfl⟩
 have hbW : Below w.heap.size w W := by rw [← hW]; exact hb1.alloc hz1' _
 have hzW : W.heap.size = w1.heap.size + 1 := by rw [← hW]; simp
 have m0 : W.cell? ⟨w1.heap.size, 0, none⟩ = some (.string mk) := by rw [← hW, cell_new rfl]; rfl
 have m1 : W.cell? ⟨w1.heap.size, 1, none⟩ = some (.string ⟨#[120]⟩) := by rw [← hW, cell_new rfl]; rfl
 have HM : Hid (∀ w' : World, w'.heap[w1.heap.size]? = W.heap[w1.heap.size]? → w'.cell? ⟨w1.heap.size, 0, none⟩ = some (.string mk) ∧ w'.cell? ⟨w1.heap.size, 1, none⟩ = some (.string ⟨#[120]⟩)) := fun w' h => by
  rw [World.cell?_of_block (a := ⟨w1.heap.size, 0, none⟩) h, World.cell?_of_block (a := ⟨w1.heap.size, 1, none⟩) h]
  exact ⟨m0, m1⟩
 have HLW : Hid (W.ownsRow base 67 2 (.slice al n capl) n (entCells xs)) := by
  have := HL.out
  rw [HNN.out] at this
  exact ownsRow_same this (fun g hg => hbW.block g (this.lt g hg).2)
 have HLT : Hid (∀ g, (Value.slice al n capl).ownBlock = some g → base ≤ g ∧ g < w.heap.size) := fun g hg => by
  have := HL.out
  rw [HNN.out] at this
  exact this.lt g hg
 have HBW := hide hbW
 have HW := hide hW
 clear hb1 hbW hW m0 m1 hc hf
 go_wp2_with fail
 rw [HW.out]
 go_loopw [5] (fun i wr => ∃ k : Nat, k ≤ n ∧ i = .int .i64 k ∧ wr.ownsRow base 67 2 (.slice al n capl) n (entCells (filledN (mk, ⟨#[120]⟩) xs k)) ∧ W.grownBy wr (Value.slice al n capl).ownBlock ∧ wr.heap.size = W.heap.size) (fun i _ => n - (intOf i).toNat)
 case atStart => exact ⟨0, Nat.zero_le _, rfl, by rw [filledN_zero]; exact HLW.out, ⟨rfl, rfl, rfl, Nat.le_refl _, fun _ _ _ => rfl⟩, rfl⟩
 case round =>
  obtain ⟨k, hk, rfl, hown, hgr, hsz⟩ := hrel
  have hmw : wr.heap[w1.heap.size]? = W.heap[w1.heap.size]? := hgr.block _ (by omega) (fun h => by have := (HLT.out _ h.symm).2; omega)
  obtain ⟨m0, m1⟩ := HM.out wr hmw
  by_cases hlt : k < n
  ·have hkx : k < xs.length := by rw [HNN.out]; exact hlt
   have hfl : (filledN (mk, ⟨#[120]⟩) xs k).length = n := by rw [filledN_length (by omega)]; exact HNN.out
   rcases hown.2 with ⟨h1, h2⟩ | ⟨g, c, cur, h1, hg, hcg, _⟩
   ·omega
   ·cases h1
    have hrd := Reads.of_owns hown
    rw [← hfl] at hrd
    obtain ⟨g', off', he, _, c0, c1⟩ := ents_at (k := k) hrd (by omega)
    cases he
    rw [Nat.zero_add] at c0 c1
    have f0 : wr.frozen? ⟨g, k * 2, none⟩ = false := by simp [World.frozen?, hcg]
    have f1 : wr.frozen? ⟨g, k * 2 + 1, none⟩ = false := by simp [World.frozen?, hcg]
    have HO2 := hide (owns_put2 hown hkx)
    have HG2 : Hid (W.grownBy (put2at wr g k (mk, ⟨#[120]⟩)) (some g)) := put2at_grown hgr
    have HS2 : Hid ((put2at wr g k (mk, ⟨#[120]⟩)).heap.size = W.heap.size) := by unfold Hid; rw [put2at_size]; exact hsz
    unfold put2at at HO2 HG2 HS2
    generalize (filledN (mk, ⟨#[120]⟩) xs k)[k]'(by omega) = z at *
    have i1 : (0 : Int) ≤ (k : Int) := by omega
    have i2 : (k : Int) < (n : Int) := by omega
    clear hown hgr hrd hfl hcg hmw
    go_wp2
    go_roundw
    case rel => exact ⟨k + 1, by omega, by go_num, HO2.out, HG2.out, HS2.out⟩
    case measure => simp [intOf]; omega
  ·have hkn : k = n := by omega
   have hfull : filledN (mk, ⟨#[120]⟩) xs k = List.replicate n (mk, ⟨#[120]⟩) := by rw [hkn, ← HNN.out]; exact filledN_all _ _
   rw [hfull] at hown
   have HO := hide hown
   have HG := hide hgr
   have hblk : ∀ g, (Value.slice al n capl).ownBlock = some g → base ≤ g := fun g h => (hown.lt g h).1
   have HSEP : Hid ((Value.slice ab R capb).ownBlock = none ∨ (Value.slice ab R capb).ownBlock ≠ (Value.slice al n capl).ownBlock) := by
    cases hob : (Value.slice ab R capb).ownBlock with
    | none => exact .inl rfl
    | some g =>
     refine .inr fun h => ?_
     have h1 := (HVB.out g (by rw [HR.out]; exact hob)).1
     have h2 := hblk g h.symm
     omega
   have b1 : Below base w wr := (HBW.out.mono hbase).grown hgr (by omega) hblk
   have HBB := hide b1
   have HRW : Hid (wr.ownsRow B 50 1 (.slice ab R capb) R rows) := by
    have h := HROW.out
    rw [HR.out] at h
    exact ownsRow_same h (fun g hg => b1.block g (HVB.out g (by rw [HR.out]; exact hg)).1)
   have hbz : base ≤ wr.heap.size := by omega
   have HNM : Hid (∀ g, (Value.slice al n capl).ownBlock = some g → g ≠ w1.heap.size) := fun g hg h => by have := (HLT.out g hg).2; omega
   have hMr : w1.heap.size < wr.heap.size := by omega
   have HMW := hide hmw
   clear hown hgr hfull hsz hblk b1 hmw
   go_wp2_with (at_builtin; refine wpList_append_keep2 rfl _ _ 50 rfl base 67 i0 (.agg #[.string ⟨#[]⟩, .string ⟨#[]⟩]) 32 Tryz.underlying50 hi hz0 hz1 hz2 rfl _ _ _ rfl (HO.out.alloc _) ⟨wr.heap.size, 0, none⟩ 1 1 (enCells (mk, ⟨#[120]⟩)) rfl rfl (news_two rfl) (enCells_one _) (by unfold maxLen; omega) (by omega) (by simp; omega) ?_)
   intro v1 w2 hown1 hgr1 hat1 hrd1
   have z2 := hgr1.size
   have z2 : wr.heap.size + 1 ≤ w2.heap.size := by simpa using z2
   have HO1 := hide hown1
   have HG1 := hide hgr1
   have HRD1 := hide hrd1
   have HM2 : Hid (w2.heap[w1.heap.size]? = W.heap[w1.heap.size]?) := by
    unfold Hid
    rw [hgr1.block _ (by simp; omega) (fun h => HNM.out _ h.symm rfl), Below.heap_alloc _ _ _ hMr]
    exact HMW.out
   have HNM1 : Hid (∀ g, v1.ownBlock = some g → g ≠ w1.heap.size) := fun g hg => by
    rcases hat1 with h | h
    ·rw [h] at hg; exact HNM.out g hg
    ·rw [h] at hg; simp at hg; omega
   obtain ⟨a1, c1, rfl⟩ := (Reads.of_owns hown1).shape
   clear hown1 hgr1 hat1 hrd1 m0 m1
   obtain ⟨m0, m1⟩ := HM.out w2 HM2.out
   go_wp2_with (at_builtin; refine wpList_append_keep2 rfl _ _ 50 rfl base 67 i0 (.agg #[.string ⟨#[]⟩, .string ⟨#[]⟩]) 32 Tryz.underlying50 hi hz0 hz1 hz2 rfl _ _ _ rfl (HO1.out.alloc _) ⟨w2.heap.size, 0, none⟩ 1 1 (enCells (mk, ⟨#[120]⟩)) rfl rfl (news_two rfl) (enCells_one _) (by unfold maxLen; omega) (by omega) (by simp; omega) ?_)
   intro v2 w3 hown2 hgr2 hat2 hrd2
   have z3 := hgr2.size
   have z3 : w2.heap.size + 1 ≤ w3.heap.size := by simpa using z3
   have HO2 := hide hown2
   have HG2 := hide hgr2
   have HRD2 := hide hrd2
   have HR02 := hide (Reads.stayX HO.out (HRD1.out.below ((Below.refl _ _).alloc (Nat.le_refl _) _) HRD1.out.2.1) (HO1.out.alloc _) hgr2 hrd2)
   have HM3 : Hid (w3.heap[w1.heap.size]? = W.heap[w1.heap.size]?) := by
    unfold Hid
    rw [hgr2.block _ (by simp; omega) (fun h => HNM1.out _ h.symm rfl), Below.heap_alloc _ _ _ (by omega)]
    exact HM2.out
   obtain ⟨a2, c2, rfl⟩ := (Reads.of_owns hown2).shape
   clear hown2 hgr2 hat2 hrd2 m0 m1
   obtain ⟨m0, m1⟩ := HM.out w3 HM3.out
   go_wp2_with (at_builtin; refine wpList_append_keep2 rfl _ _ 50 rfl base 67 i0 (.agg #[.string ⟨#[]⟩, .string ⟨#[]⟩]) 32 Tryz.underlying50 hi hz0 hz1 hz2 rfl _ _ _ rfl (HO2.out.alloc _) ⟨w3.heap.size, 0, none⟩ 1 1 (enCells (mk, ⟨#[120]⟩)) rfl rfl (news_two rfl) (enCells_one _) (by unfold maxLen; omega) (by omega) (by simp; omega) ?_)
   intro v3 w4 hown3 hgr3 hat3 hrd3
   have z4 := hgr3.size
   have z4 : w3.heap.size + 1 ≤ w4.heap.size := by simpa using z4
   have HO3 := hide hown3
   have HG3 := hide hgr3
   have HRD3 := hide hrd3
   have HR13 := hide (Reads.stayX (base' := base) (ys := enCells (mk, ⟨#[120]⟩)) HO1.out (HRD2.out.below ((Below.refl _ _).alloc (Nat.le_refl _) _) HRD2.out.2.1) (by rw [List.append_assoc]; exact HO2.out.alloc _) hgr3 (by rw [List.append_assoc]; exact hrd3))
   have HR03 := hide (Reads.stayX (base' := base) (ys := enCells (mk, ⟨#[120]⟩) ++ enCells (mk, ⟨#[120]⟩)) HO.out (HR02.out.below ((Below.refl _ _).alloc (Nat.le_refl _) _) HR02.out.2.1) (HO2.out.alloc _) hgr3 hrd3)
   obtain ⟨a3, c3, rfl⟩ := (Reads.of_owns hown3).shape
   have HB4 : Hid (Below base wr w4) := ((((((Below.refl base wr).alloc hbz _).grown HG1.out (by simp; omega) (fun q hq => (HO.out.lt q hq).1)).alloc (by omega) _).grown HG2.out (by simp; omega) (fun q hq => (HO1.out.lt q hq).1)).alloc (by omega) _).grown HG3.out (by simp; omega) (fun q hq => (HO2.out.lt q hq).1)
   have HRW4 : Hid (w4.ownsRow B 50 1 (.slice ab R capb) R rows) := ownsRow_same HRW.out (fun q hq => HB4.out.block q (HVB.out q (by rw [HR.out]; exact hq)).1)
   have HBB4 : Hid (Below base w w4) := HBB.out.trans HB4.out
   have cb4 : w4.cell? ⟨bb, ob + 2, none⟩ = some (.slice ab R capb) := by rw [HBB4.out.cell (p := ⟨bb, ob + 2, none⟩) hbb]; exact HC.out
   have fb4 : w4.frozen? ⟨bb, ob + 2, none⟩ = false := by rw [World.frozen?_of_block (HBB4.out.block bb hbb)]; exact HFZ.out
   have hbb4 : bb < w4.heap.size := by omega
   clear hown3 hgr3 hat3 hrd3 m0 m1
   go_wp2_with (at_builtin; refine wpList_append_keep rfl _ _ 37 rfl B 50 i1 (.slice none 0 0) 24 Tryz.underlying37 ki kz0 kz1 kz2 rfl _ _ _ rfl (HRW4.out.alloc _) ⟨w4.heap.size, 0, none⟩ 4 4 [.slice al n capl, .slice a1 (n + 1) c1, .slice a2 (n + 1 + 1) c2, .slice a3 (n + 1 + 1 + 1) c3] rfl rfl news_quadX (by intro u hu; simp at hu; rcases hu with rfl | rfl | rfl | rfl <;> rfl) (by unfold maxLen; omega) (by omega) (by simp; omega) ?_)
   intro vb' w5 hown5 hgr5 hat5 _
   have z5 : w4.heap.size + 1 ≤ w5.heap.size := by have := hgr5.size; simpa using this
   have hvb5 : ∀ g, (Value.slice ab R capb).ownBlock = some g → g < base ∧ g ≠ bb := fun g hg => HVB.out g (by rw [HR.out]; exact hg)
   have hbk5 : ∀ k, k < w4.heap.size → (Value.slice ab R capb).ownBlock ≠ some k → w5.heap[k]? = w4.heap[k]? := fun k hk hne => by
    rw [hgr5.block k (by simp; omega) (fun e => hne e.symm)]
    exact Below.heap_alloc _ _ _ hk
   have hnb : (Value.slice ab R capb).ownBlock ≠ some bb := fun h => (hvb5 bb h).2 rfl
   have cb5 : w5.cell? ⟨bb, ob + 2, none⟩ = some (.slice ab R capb) := by rw [World.cell?_of_block (hbk5 bb hbb4 hnb)]; exact cb4
   have fb5 : w5.frozen? ⟨bb, ob + 2, none⟩ = false := by rw [World.frozen?_of_block (hbk5 bb hbb4 hnb)]; exact fb4
   have HK : Hid (∃ v1 v2 v3, NKept bb ob B base (.slice ab R capb) (.slice al n capl) rows n (mk, ⟨#[120]⟩) w (w5.setCell ⟨bb, ob + 2, none⟩ vb') vb' v1 v2 v3) := by
    have hat' : ∀ g, vb'.ownBlock = some g → (Value.slice ab R capb).ownBlock = some g ∨ w4.heap.size ≤ g := fun g hg => by
     rcases hat5 with h | h
     ·exact .inl (by rw [← h]; exact hg)
     ·rw [h] at hg; simp at hg; exact .inr (by omega)
    have hfar : ∀ u : Value, (∀ g, u.ownBlock = some g → base ≤ g ∧ g < w4.heap.size) → (∀ g, u.ownBlock = some g → base ≤ g ∧ vb'.ownBlock ≠ some g) := fun u hu g hg => by
     refine ⟨(hu g hg).1, fun h => ?_⟩
     rcases hat' g h with h | h
     ·have := (hvb5 g h).1; have := (hu g hg).1; omega
     ·have := (hu g hg).2; omega
    have hkeep : ∀ (u : Value) (m : Nat) (l : List Value), (∀ g, u.ownBlock = some g → base ≤ g ∧ g < w4.heap.size) → Reads w4 u 2 m l → Reads (w5.setCell ⟨bb, ob + 2, none⟩ vb') u 2 m l := fun u m l hu hr => by
     refine Reads.setX (hr.of_blocks (by omega) (fun g hg => hbk5 g (hu g hg).2 (fun h => by have := (hvb5 g h).1; have := (hu g hg).1; omega))) (fun h => by have := (hu bb h).1; omega) _
    have l0 : ∀ g, (Value.slice al n capl).ownBlock = some g → base ≤ g ∧ g < w4.heap.size := fun g hg => ⟨(HO.out.lt g hg).1, HR03.out.2.1 g hg⟩
    have l1 : ∀ g, (Value.slice a1 (n + 1) c1).ownBlock = some g → base ≤ g ∧ g < w4.heap.size := fun g hg => ⟨(HO1.out.lt g hg).1, HR13.out.2.1 g hg⟩
    have l2 : ∀ g, (Value.slice a2 (n + 1 + 1) c2).ownBlock = some g → base ≤ g ∧ g < w4.heap.size := fun g hg => ⟨(HO2.out.lt g hg).1, HRD3.out.2.1 g hg⟩
    have l3 : ∀ g, (Value.slice a3 (n + 1 + 1 + 1) c3).ownBlock = some g → base ≤ g ∧ g < w4.heap.size := fun g hg => HO3.out.lt g hg
    have b1 : Below base w w4 := HBB4.out
    refine ⟨.slice a1 (n + 1) c1, .slice a2 (n + 1 + 1) c2, .slice a3 (n + 1 + 1 + 1) c3, ⟨World.cell?_setCell_same _ _ _ cb5, by rw [World.frozen?_setCell]; exact fb5, ?_, ?_, ?_, ?_, ?_, ?_, ?_, ?_, hkeep _ _ _ l0 HR03.out, ?_, ?_, ?_, ?_, ?_⟩⟩
    ·intro o ho
     rw [World.cell?_setCell_other _ _ _ _ (by simp <;> omega), World.cell?_of_block (a := ⟨bb, o, none⟩) (hbk5 bb hbb4 hnb), World.cell?_of_block (a := ⟨bb, o, none⟩) (b1.block bb hbb)]
    ·intro o
     rw [World.frozen?_setCell, World.frozen?_of_block (a := ⟨bb, o, none⟩) (hbk5 bb hbb4 hnb), World.frozen?_of_block (a := ⟨bb, o, none⟩) (b1.block bb hbb)]
    ·rw [HR.out]
     exact owns_setCell hown5 (fun h => by rcases hat' bb h with h | h; exact hnb h; omega) _
    ·intro g hg
     rcases hat' g hg with h | h
     ·exact .inl h
     ·exact .inr (by have := b1.size; omega)
    ·have := b1.size; simp [World.setCell]; omega
    ·exact (hgr5.os).trans b1.os
    ·exact (hgr5.tape).trans b1.tape
    ·exact (hgr5.output).trans b1.output
    ·exact hkeep _ _ _ l1 (by rw [← entCells_more]; exact HR13.out)
    ·exact hkeep _ _ _ l2 (by rw [← entCells_more (n + 1), ← entCells_more n]; simpa using HRD3.out)
    ·exact hkeep _ _ _ l3 (by rw [← entCells_more (n + 2), ← entCells_more (n + 1), ← entCells_more n]; simpa using Reads.of_owns HO3.out)
    ·intro u hu
     simp only [List.mem_cons, List.not_mem_nil, or_false] at hu
     rcases hu with rfl | rfl | rfl | rfl
     ·exact hfar _ l0
     ·exact hfar _ l1
     ·exact hfar _ l2
     ·exact hfar _ l3
    ·intro k hk hne hnv
     rw [Below.heap_setCell _ _ _ _ (by simpa using hne), hbk5 k (by omega) hnv]
     exact b1.block k hk
   obtain ⟨ab5, capb5, rfl⟩ := (Reads.of_owns hown5).shape
   clear hown5 hgr5 hat5 hvb5 hbk5
   go_wp2
   go_end0
   obtain ⟨v1, v2, v3, hK⟩ := HK.out
   rw [show (mk, (⟨#[120]⟩ : ByteArray)) = mkEnt (R / 4) by rw [← HMK.out]; rfl] at hK
   exact ⟨rfl, .slice ab5 (R + 4) capb5, v1, v2, v3, by rw [HR.out]; exact hK⟩
structure NBook (w : World) (bb ob X : Nat) (S : Nat → Prop) (vb : Value) (rows : List Value) : Prop where
 from_ : ∀ i, S i → X ≤ i ∧ i < w.heap.size ∧ i ≠ bb
 lt : bb < w.heap.size
 cell : w.cell? ⟨bb, ob + 2, none⟩ = some vb
 free : w.frozen? ⟨bb, ob + 2, none⟩ = false
 nil : ∀ o, o = ob ∨ o = ob + 1 ∨ o = ob + 3 → w.cell? ⟨bb, o, none⟩ = some (.slice none 0 0)
 row : w.ownsRow X 50 1 vb rows.length rows
 own : ∀ g, vb.ownBlock = some g → S g
 four : rows.length % 4 = 0
 marks : ∀ (i : Nat) (u : Value), rows[i]? = some u → ∃ n, n ≤ 100003 ∧ Reads w u 2 n (entCells (List.replicate n (mkEnt (i / 4)))) ∧ ∀ g, u.ownBlock = some g → S g ∧ vb.ownBlock ≠ some g
theorem NBook.keep {w w' : World} {bb ob X : Nat} {S : Nat → Prop} {vb : Value} {rows : List Value} (h : NBook w bb ob X S vb rows) (hs : w.heap.size ≤ w'.heap.size) (hb : ∀ i, S i → w'.heap[i]? = w.heap[i]?) (hc : ∀ o, ob ≤ o → o ≤ ob + 3 → w'.cell? ⟨bb, o, none⟩ = w.cell? ⟨bb, o, none⟩) (hf : w'.frozen? ⟨bb, ob + 2, none⟩ = w.frozen? ⟨bb, ob + 2, none⟩) : NBook w' bb ob X S vb rows := by
 refine ⟨fun i hi => ⟨(h.from_ i hi).1, Nat.lt_of_lt_of_le (h.from_ i hi).2.1 hs, (h.from_ i hi).2.2⟩, Nat.lt_of_lt_of_le h.lt hs, ?_, by rw [hf]; exact h.free, fun o ho => ?_, ownsRow_same h.row (fun g hg => hb g (h.own g hg)), h.own, h.four, fun i u hu => ?_⟩
 ·rw [hc _ (by omega) (by omega)]; exact h.cell
 ·rw [hc o (by omega) (by omega)]; exact h.nil o ho
 ·obtain ⟨n, h1, h2, h3⟩ := h.marks i u hu
  exact ⟨n, h1, h2.of_blocks hs (fun g hg => hb g (h3 g hg).1), h3⟩
theorem NBook.foot {w w' : World} {bb ob X : Nat} {S T : Nat → Prop} {vb : Value} {rows : List Value} (h : NBook w bb ob X S vb rows) (hf : Foot T w w') (hd : ∀ i, S i → ¬ T i) (hbb : ¬ T bb) : NBook w' bb ob X S vb rows :=
 h.keep hf.size (fun i hi => hf.block i (h.from_ i hi).2.1 (hd i hi)) (fun o _ _ => hf.cell (p := ⟨bb, o, none⟩) h.lt hbb) (hf.frozen (p := ⟨bb, ob + 2, none⟩) h.lt hbb)
theorem NBook.below {w w' : World} {bb ob X : Nat} {S : Nat → Prop} {vb : Value} {rows : List Value} (h : NBook w bb ob X S vb rows) (hb : Below w.heap.size w w') : NBook w' bb ob X S vb rows :=
 h.foot (Foot.of (S := fun _ => False) hb) (fun _ _ e => e) (fun e => e)
theorem NBook.kept {w0 w w' : World} {bb ob X : Nat} {S : Nat → Prop} {vb vb' v v1 v2 v3 : Value} {rows : List Value} {n : Nat} (h : NBook w0 bb ob X S vb rows) (hX : X ≤ w0.heap.size) (hb : Below w0.heap.size w0 w) (hk : NKept bb ob X w0.heap.size vb v rows n (mkEnt (rows.length / 4)) w w' vb' v1 v2 v3) (hn : n ≤ 100000) :
  ∃ S', NBook w' bb ob X S' vb' (rows ++ [v, v1, v2, v3]) ∧ Foot (fun i => S i ∨ i = bb) w0 w' ∧ ∀ i, S' i → S i ∨ w0.heap.size ≤ i := by
 have h1 := h.below hb
 have hz := hb.size
 have hz' := hk.size
 have hlt := h.lt
 have hin : ∀ u ∈ [v, v1, v2, v3], ∀ g, u.ownBlock = some g → g < w'.heap.size := by
  intro u hu g hg
  simp only [List.mem_cons, List.not_mem_nil, or_false] at hu
  rcases hu with rfl | rfl | rfl | rfl
  ·exact hk.r0.2.1 g hg
  ·exact hk.r1.2.1 g hg
  ·exact hk.r2.2.1 g hg
  ·exact hk.r3.2.1 g hg
 refine ⟨fun i => S i ∨ (w0.heap.size ≤ i ∧ i < w'.heap.size), ⟨?_, by omega, hk.cell, hk.free, fun o ho => ?_, by simpa using hk.row, ?_, by simp; have := h.four; omega, ?_⟩, ⟨hk.os.trans hb.os, hk.tape.trans hb.tape, hk.output.trans hb.output, by omega, fun k hk1 hk2 => ?_⟩, fun i hi => hi.imp id (fun e => e.1)⟩
 ·rintro i (hi | hi)
  ·exact ⟨(h.from_ i hi).1, by have := (h.from_ i hi).2.1; omega, (h.from_ i hi).2.2⟩
  ·exact ⟨by omega, hi.2, by omega⟩
 ·rw [hk.rest o (by omega)]; exact h1.nil o ho
 ·intro g hg
  rcases hk.at' g hg with h2 | h2
  ·exact .inl (h.own g h2)
  ·exact .inr ⟨by omega, (hk.row.lt g hg).2⟩
 ·intro i u hu
  by_cases hi : i < rows.length
  ·rw [List.getElem?_append_left hi] at hu
   obtain ⟨m, m1, m2, m3⟩ := h1.marks i u hu
   refine ⟨m, m1, m2.of_blocks hz' (fun g hg => hk.block g (h.from_ g (m3 g hg).1).2.1 (h.from_ g (m3 g hg).1).2.2 (m3 g hg).2), fun g hg => ⟨.inl (m3 g hg).1, fun hv => ?_⟩⟩
   rcases hk.at' g hv with h2 | h2
   ·exact (m3 g hg).2 h2
   ·have := (h.from_ g (m3 g hg).1).2.1; omega
  ·rw [List.getElem?_append_right (by omega)] at hu
   obtain ⟨j, hj⟩ : ∃ j, i - rows.length = j := ⟨_, rfl⟩
   rw [hj] at hu
   have hj4 : j < 4 := by have := (List.getElem?_eq_some_iff.1 hu).1; simpa using this
   have he : i / 4 = rows.length / 4 := by have := h.four; omega
   rw [he]
   have hfar : ∀ g, u.ownBlock = some g → (S g ∨ (w0.heap.size ≤ g ∧ g < w'.heap.size)) ∧ vb'.ownBlock ≠ some g := fun g hg => by
    have h2 := hk.far u (List.mem_of_getElem? hu) g hg
    exact ⟨.inr ⟨h2.1, hin u (List.mem_of_getElem? hu) g hg⟩, h2.2⟩
   match j, hj4, hu with
   | 0, _, hu => simp at hu; subst hu; exact ⟨n, by omega, hk.r0, hfar⟩
   | 1, _, hu => simp at hu; subst hu; exact ⟨n + 1, by omega, hk.r1, hfar⟩
   | 2, _, hu => simp at hu; subst hu; exact ⟨n + 2, by omega, hk.r2, hfar⟩
   | 3, _, hu => simp at hu; subst hu; exact ⟨n + 3, by omega, hk.r3, hfar⟩
 ·rw [hk.block k hk1 (fun e => hk2 (.inr e)) (fun e => hk2 (.inl (h.own k e)))]
  exact hb.block k hk1
theorem NBook.at {w : World} {bb ob X R capb : Nat} {S : Nat → Prop} {ab : Option Addr} {rows : List Value} (h : NBook w bb ob X S (.slice ab R capb) rows) {k : Nat} (hk : k < rows.length) :
  ∃ gb off n a c, ab = some ⟨gb, off, none⟩ ∧ gb < w.heap.size ∧ w.cell? ⟨gb, off + k, none⟩ = some (.slice a n c) ∧ n ≤ 100003 ∧ ∀ j, j < n → ∃ g o, a = some ⟨g, o, none⟩ ∧ g < w.heap.size ∧ w.cell? ⟨g, o + j * 2, none⟩ = some (.string (mkTxt (k / 4))) ∧ w.cell? ⟨g, o + j * 2 + 1, none⟩ = some (.string ⟨#[120]⟩) := by
 have hrd := Reads.of_owns h.row
 obtain ⟨gb, off, cap, he, hgb, hc⟩ := hrd.form (by omega)
 cases he
 obtain ⟨n, hn, hr, _⟩ := h.marks k rows[k] (by simp [hk])
 obtain ⟨a, c, hs⟩ := hr.shape
 have hcu := hc k rows[k] (by simp [hk])
 rw [hs] at hcu hr
 refine ⟨gb, off, n, a, c, rfl, hgb, hcu, hn, fun j hj => ?_⟩
 have hl : (List.replicate n (mkEnt (k / 4))).length = n := List.length_replicate
 obtain ⟨g, o, he', hg, c0, c1⟩ := ents_at (es := List.replicate n (mkEnt (k / 4))) (k := j) (by rw [hl]; exact hr) (by rw [hl]; exact hj)
 rw [List.getElem_replicate] at c0 c1
 exact ⟨g, o, he', hg, c0, c1⟩
set_option maxRecDepth 100000 in
set_option maxHeartbeats 4000000 in
theorem wholeN_any (bb ob X : Nat) (S : Nat → Prop) (vb : Value) (rows : List Value) (w : World) (h : NBook w bb ob X S vb rows) (hr : rows.length ≤ 100000000) :
  Calls Tryz.prog 16 #[.pointer (some ⟨bb, ob, none⟩)] w fun e w' => e = .returned (.bool true) ∧ Below w.heap.size w w' := by
 obtain ⟨ab, capb, rfl⟩ := (Reads.of_owns h.row).shape
 have HB := hide h
 have hbb := h.lt
 obtain ⟨R, hR⟩ : ∃ R, rows.length = R := ⟨_, rfl⟩
 rw [hR] at hr HB
 have HR := hide hR
 have HCE : Hid (∀ w', Below w.heap.size w w' → w'.cell? ⟨bb, ob, none⟩ = some (.slice none 0 0) ∧ w'.cell? ⟨bb, ob + 1, none⟩ = some (.slice none 0 0) ∧ w'.cell? ⟨bb, ob + 2, none⟩ = some (.slice ab R capb) ∧ w'.cell? ⟨bb, ob + 3, none⟩ = some (.slice none 0 0)) := fun w' hb => by
  have h' := HB.out.below hb
  exact ⟨h'.nil ob (by omega), h'.nil (ob + 1) (by omega), h'.cell, h'.nil (ob + 3) (by omega)⟩
 obtain ⟨c0, c1, c2, c3⟩ := HCE.out w (Below.refl _ _)
 clear h hR
 go_enter Tryz.func16, Tryz.ntmps16
 go_wp2_with fail
 go_loop [3] (fun i => i = .int .i64 0) (fun _ => 0)
 case atStart => rfl
 case round =>
  subst hrel
  go_wp2_with fail
  go_loop [5] (fun i => i = .int .i64 0) (fun _ => 0)
  case atStart => rfl
  case round =>
   subst hrel
   go_wp2_with fail
   go_loopw [7] (fun i wr => ∃ k : Nat, k ≤ R ∧ i = .int .i64 k ∧ Below w.heap.size w wr) (fun i _ => R - (intOf i).toNat)
   case atStart => exact ⟨0, Nat.zero_le _, rfl, Below.refl _ _⟩
   case round =>
    clear c0 c1 c2 c3
    obtain ⟨k, hk, rfl, hb⟩ := hrel
    obtain ⟨c0, c1, c2, c3⟩ := HCE.out wr hb
    have hbbr : bb < wr.heap.size := by have := hb.size; omega
    have HBR := hide hb
    by_cases hlt : k < R
    ·obtain ⟨gb, off, n, a, c, rfl, hgb, cu, hn, hc⟩ := HB.out.at (k := k) (by rw [HR.out]; exact hlt)
     have HC := hide hc
     have HCU : Hid (∀ w', Below w.heap.size w w' → w'.cell? ⟨gb, off + k, none⟩ = some (.slice a n c)) := fun w' hb' => by rw [hb'.cell (p := ⟨gb, off + k, none⟩) hgb]; exact cu
     have q2 : k / 4 ≤ 1000000000 := by omega
     have i1 : (0 : Int) ≤ (k : Int) := by omega
     have i2 : (k : Int) < (R : Int) := by omega
     have HM := hide (fun w => markEntry_any (k / 4) w q2)
     obtain ⟨mk, hmk⟩ : ∃ mk : ByteArray, mkTxt (k / 4) = mk := ⟨_, rfl⟩
     rw [hmk] at HC HM
     clear hc hb cu hmk
     go_wp2_with fail
     refine (HM.out _).mono ?_
     rintro e w1 ⟨rfl, hb1⟩
     have HB1 : Hid (Below w.heap.size w w1) := HBR.out.trans (hb1.mono HBR.out.size)
     have hz1 := HB1.out.size
     obtain ⟨W, hW⟩ : ∃ W, w1.alloc (.cells #[.string mk, .string ⟨#[120]⟩] 67) = W := ⟨_, rfl⟩
     have HBW : Hid (Below w.heap.size w W) := by unfold Hid; rw [← hW]; exact HB1.out.alloc hz1 _
     have hzW : W.heap.size = w1.heap.size + 1 := by rw [← hW]; simp
     have HM0 : Hid (∀ w', Below (w1.heap.size + 1) W w' → w'.cell? ⟨w1.heap.size, 0, none⟩ = some (.string mk) ∧ w'.cell? ⟨w1.heap.size, 1, none⟩ = some (.string ⟨#[120]⟩)) := fun w' h => by
      rw [h.cell (p := ⟨w1.heap.size, 0, none⟩) (by simp), h.cell (p := ⟨w1.heap.size, 1, none⟩) (by simp), ← hW, cell_new rfl, cell_new rfl]
      exact ⟨rfl, rfl⟩
     have HW := hide hW
     clear hW hb1 c0 c1 c2 c3
     go_wp2_with fail
     rw [HW.out]
     obtain ⟨wo, rfl⟩ : ∃ wo : World, wo = wr := ⟨_, rfl⟩
     go_loopw [9] (fun i wi => ∃ j : Nat, j ≤ n ∧ i = .int .i64 j ∧ ∃ q, wi = W.drewN q) (fun i _ => n - (intOf i).toNat)
     case atStart => exact ⟨0, Nat.zero_le _, rfl, 0, rfl⟩
     case round =>
      obtain ⟨j, hj, rfl, q, rfl⟩ := hrel
      have HBI : Hid (Below w.heap.size w (W.drewN q)) := ⟨HBW.out.os, HBW.out.tape, HBW.out.output, HBW.out.size, HBW.out.block⟩
      obtain ⟨c0, c1, c2, c3⟩ := HCE.out W HBW.out
      have cur := HCU.out W HBW.out
      obtain ⟨m0, m1⟩ := HM0.out W (Below.refl _ _)
      have hbbq : bb < W.heap.size := by have := HBW.out.size; omega
      by_cases hjl : j < n
      ·obtain ⟨g, o, rfl, hg, d0, d1⟩ := HC.out j hjl
       have e0 : W.cell? ⟨g, o + j * 2, none⟩ = some (.string mk) := by rw [HBW.out.cell (p := ⟨g, o + j * 2, none⟩) hg]; exact d0
       have e1 : W.cell? ⟨g, o + j * 2 + 1, none⟩ = some (.string ⟨#[120]⟩) := by rw [HBW.out.cell (p := ⟨g, o + j * 2 + 1, none⟩) hg]; exact d1
       clear d0 d1
       have i3 : (0 : Int) ≤ (j : Int) := by omega
       have i4 : (j : Int) < (n : Int) := by omega
       go_wp2
       go_quiet (fail)
       go_wp2
       go_roundw
       case rel => exact ⟨j + 1, by omega, by go_num, _, rfl⟩
       case measure => simp [intOf]; omega
      ·go_wp2
       go_roundw
       case rel => exact ⟨k + 1, by omega, by go_num, HBI.out⟩
       case measure => simp [intOf]; omega
    ·clear hb
     go_wp2_with fail
     go_loop [10] (fun i => i = .int .i64 0) (fun _ => 0)
     case atStart => rfl
     case round =>
      subst hrel
      go_wp2
      go_ret
      exact ⟨rfl, HBR.out⟩
theorem VRow.from_ {w : World} {K : ByteArray → ByteArray} {B : Nat → Nat} {g off cap : Nat} {l : Tm.Vers} (h : VRow w K B (.slice (some ⟨g, off, none⟩) l.length cap) l) {j : Nat} (hj : j ≤ l.length) : VRow w K B (.slice (some ⟨g, off + j, none⟩) (l.length - j) (cap - j)) (l.drop j) := by
 refine ⟨?_, fun x hx => h.at_ x (List.mem_of_mem_drop hx)⟩
 have h1 := h.reads.from_ (j := j) hj
 rw [Nat.mul_one] at h1
 rw [List.length_drop, show ptrs B (l.drop j) = (ptrs B l).drop j from List.map_drop]
 exact h1
theorem VRow.upTo {w : World} {K : ByteArray → ByteArray} {B : Nat → Nat} {a : Option Addr} {n cap : Nat} {l : Tm.Vers} (h : VRow w K B (.slice a n cap) l) (hn : n = l.length) {j : Nat} (hj : j ≤ l.length) : VRow w K B (.slice a j cap) (l.take j) := by
 subst hn
 refine ⟨?_, fun x hx => h.at_ x (List.mem_of_mem_take hx)⟩
 have h1 := h.reads.upTo (j := j) hj
 rw [Nat.mul_one] at h1
 rw [List.length_take, Nat.min_eq_left hj, show ptrs B (l.take j) = (ptrs B l).take j from List.map_take]
 exact h1
theorem VRow.none_ {w : World} {K : ByteArray → ByteArray} {B : Nat → Nat} {g off cap : Nat} (hg : g < w.heap.size) (hc : cap ≤ maxLen) : VRow w K B (.slice (some ⟨g, off, none⟩) 0 cap) [] := ⟨Reads.none_ hg hc, fun x hx => by cases hx⟩
theorem entsOf_take (l : Tm.Vers) (n : Nat) : Tm.entsOf (l.take n) = (Tm.entsOf l).take n := List.map_take
theorem entsOf_dropN (l : Tm.Vers) (n : Nat) : Tm.entsOf (l.drop n) = (Tm.entsOf l).drop n := List.map_drop
def withinAns (c : ByteArray → ByteArray → Int) (K : ByteArray → ByteArray) (es : Tm.Vers) (B : Nat → Nat) (lo hi : ByteArray) (w : World) (e : Ending) (w' : World) : Prop :=
 Below w.heap.size w w' ∧
 if 64 < lo.size ∨ 64 < hi.size then e = .returned (.tuple #[.slice none 0 0, .int .i64 7])
 else ∃ v l, e = .returned (.tuple #[v, .int .i64 0]) ∧ Tm.entsOf l = Tm.ixScan c (Tm.entsOf es) lo hi ∧ VRow w' K B v l
set_option maxRecDepth 100000 in
set_option maxHeartbeats 4000000 in
theorem within_any (lns : List Tm.Ln) (bc bm : Nat) (st : Int) (sh : Bool) (bx : Nat) (es : Tm.Vers) (B : Nat → Nat) (v : Value) (lo hi : ByteArray) (w : World) (hc : Coll w bc bm st sh lns) (hok : TableOk st lns) (c0 : w.cell? ⟨bx, 0, none⟩ = some (.pointer (some ⟨bc, 0, none⟩))) (hbx : bx < w.heap.size) (hrs : Tm.Rises (Tm.ByKey (cmpOf lns st sh)) (Tm.entsOf es)) (hrd : VRow w (placeOf lns st sh) B v es) (hv : v = .slice none 0 0 ∨ ∃ g off cap, v = .slice (some ⟨g, off, none⟩) es.length cap) (hfew : es.length ≤ 64) :
  Calls Tryz.prog 62 #[.pointer (some ⟨bx, 0, none⟩), v, .string lo, .string hi] w fun e w' => withinAns (cmpOf lns st sh) (placeOf lns st sh) es B lo hi w e w' := by
 have hT := told_cmpOf lns st sh
 have hK := keyed_place hc.fit (sh := sh) hok.st
 have HC := hide hc
 have HOK := hide hok
 have HRD := hide hrd
 have HSC := hide (Tm.ixScan_cut hT (lo := lo) (hi := hi) hrs)
 have hle := Tm.below_le (cmpOf lns st sh) (Tm.entsOf es) lo
 rw [Tm.entsOf_length] at hle
 obtain ⟨a, cap, rfl⟩ := hrd.reads.shape
 have hcap := hrd.reads.fits
 obtain ⟨_, hcap1, hcap2⟩ := hcap
 unfold maxLen at hcap2
 have HV := hide hv
 clear hc hok hrd hv
 by_cases hlo : lo.size ≤ 64
 ·by_cases hhi : hi.size ≤ 64
  ·go_enter Tryz.func62, Tryz.ntmps62
   go_wp2_with fail
   refine (CodeKey_any lns bc bm st sh lo _ HC.out HOK.out).mono ?_
   rw [if_pos hlo]
   rintro e w1 ⟨rfl, hb1⟩
   have HB1 := hide hb1
   have hz1 := hb1.size
   have hbx1 : bx < w1.heap.size := by omega
   have c01 : w1.cell? ⟨bx, 0, none⟩ = some (.pointer (some ⟨bc, 0, none⟩)) := by rw [hb1.cell (p := ⟨bx, 0, none⟩) hbx]; exact c0
   have HRD1 := hide (HRD.out.below hb1)
   have HC1 := hide (HC.out.below hb1)
   clear hb1 c0
   go_wp2_with fail
   refine (CodeKey_any lns bc bm st sh hi _ HC1.out HOK.out).mono ?_
   rw [if_pos hhi]
   rintro e w2 ⟨rfl, hb2⟩
   have HB2 := hide (HB1.out.trans (hb2.mono hz1))
   have hz2 := hb2.size
   have HRD2 := hide (HRD1.out.below hb2)
   clear hb2 c01
   go_wp2_with fail
   refine (countBelow_any (placeOf lns st sh) (cmpOf lns st sh) hK hT es hrs B _ lo _ HRD2.out (by omega)).mono ?_
   rintro e w3 ⟨rfl, hb3⟩
   have HB3 := hide (HB2.out.trans (hb3.mono (by omega)))
   have hz3 := hb3.size
   have HRD3 := hide (HRD2.out.below hb3)
   clear hb3
   have hrs2 : Tm.Rises (Tm.ByKey (cmpOf lns st sh)) (Tm.entsOf (es.drop (Tm.below (cmpOf lns st sh) (Tm.entsOf es) lo))) := by rw [entsOf_dropN]; exact List.Pairwise.drop hrs
   obtain ⟨j, hj⟩ : ∃ j, Tm.below (cmpOf lns st sh) (Tm.entsOf es) lo = j := ⟨_, rfl⟩
   rw [← entsOf_dropN] at HSC
   rw [hj] at HSC hle hrs2 ⊢
   clear hj
   have i1 : (0 : Int) ≤ (j : Int) := by omega
   have i2 : (j : Int) ≤ (es.length : Int) := by omega
   have hdl : (es.drop j).length = es.length - j := by simp
   have hle2 := Tm.below_le (cmpOf lns st sh) (Tm.entsOf (es.drop j)) hi
   rw [Tm.entsOf_length, hdl] at hle2
   by_cases h0 : hi.size = 0
   ·have he : hi = ⟨#[]⟩ := by
     obtain ⟨⟨l⟩⟩ := hi
     simp [ByteArray.size] at h0
     subst h0
     rfl
    rw [if_pos h0] at HSC
    rcases HV.out with he2 | ⟨g, off, cap', he2⟩
    ·simp only [Value.slice.injEq] at he2
     obtain ⟨rfl, hl0, rfl⟩ := he2
     have HANS : Hid (VRow w3 (placeOf lns st sh) B (.slice none 0 0) (es.drop j)) := by
      have h1 := HRD3.out
      have h2 : es = [] := List.eq_nil_of_length_eq_zero hl0
      rw [h2] at h1 ⊢
      unfold Hid
      simpa using h1
     have hj0 : j = 0 := by omega
     subst hj0
     subst he
     rw [hl0] at *
     go_wp2
     go_ret2
     refine ⟨HB3.out, ?_⟩
     rw [if_neg (by omega)]
     exact ⟨_, _, rfl, HSC.out.symm, HANS.out⟩
    ·simp only [Value.slice.injEq] at he2
     obtain ⟨rfl, _, rfl⟩ := he2
     subst he
     by_cases hcj : cap = j
     ·have HANS : Hid (VRow w3 (placeOf lns st sh) B (.slice (some ⟨g, off, none⟩) (es.length - j) (cap - j)) (es.drop j)) := by
       unfold Hid
       have hnj : es.length - j = 0 := by omega
       rw [hnj, List.drop_of_length_le (by omega)]
       exact VRow.none_ (HRD3.out.reads.2.1 g rfl) (by unfold maxLen; omega)
      go_wp2
      go_ret2
      refine ⟨HB3.out, ?_⟩
      rw [if_neg (by omega)]
      exact ⟨_, _, rfl, HSC.out.symm, by first | exact HANS.out | simpa [hcj] using HANS.out⟩
     ·have HANS : Hid (VRow w3 (placeOf lns st sh) B (.slice (some ⟨g, off + j, none⟩) (es.length - j) (cap - j)) (es.drop j)) := by
       exact HRD3.out.from_ hle
      go_wp2
      go_ret2
      refine ⟨HB3.out, ?_⟩
      rw [if_neg (by omega)]
      exact ⟨_, _, rfl, HSC.out.symm, HANS.out⟩
   ·rw [if_neg h0] at HSC
    have hne : (hi.toList == []) = false := by
     obtain ⟨⟨l⟩⟩ := hi
     rw [Go.ByteArray.toList_eq]
     cases l with
     | nil => simp [ByteArray.size] at h0
     | cons x r => rfl
    rw [← entsOf_take] at HSC
    rcases HV.out with he2 | ⟨g, off, cap', he2⟩
    ·simp only [Value.slice.injEq] at he2
     obtain ⟨rfl, hl0, rfl⟩ := he2
     have HANS : Hid (∀ w4, Below w3.heap.size w3 w4 → VRow w4 (placeOf lns st sh) B (.slice none 0 0) (es.drop j)) := fun w4 hb4 => by
      have h1 := HRD3.out.below hb4
      have h2 : es = [] := List.eq_nil_of_length_eq_zero hl0
      rw [h2] at h1 ⊢
      simpa using h1
     have hj0 : j = 0 := by omega
     have HNIL : Hid (es = []) := List.eq_nil_of_length_eq_zero hl0
     subst hj0
     rw [hl0] at *
     go_wp2_with fail
     refine (countBelow_any (placeOf lns st sh) (cmpOf lns st sh) hK hT (es.drop 0) hrs2 B _ hi _ (HANS.out _ (Below.refl _ _)) (by rw [hdl]; omega)).mono ?_
     rintro e w4 ⟨rfl, hb4⟩
     have HR4 := hide (HANS.out w4 hb4)
     have HB4 := hide (HB3.out.trans (hb4.mono (by omega)))
     have hb0 : Tm.below (cmpOf lns st sh) (Tm.entsOf (es.drop 0)) hi = 0 := by omega
     have HSC' : Hid (Tm.ixScan (cmpOf lns st sh) (Tm.entsOf es) lo hi = Tm.entsOf (es.drop 0)) := by
      unfold Hid
      rw [HSC.out, hb0]
      rw [HNIL.out]; rfl
     rw [hb0]
     clear hb4
     go_wp2
     go_ret2
     refine ⟨HB4.out, ?_⟩
     rw [if_neg (by omega)]
     exact ⟨_, _, rfl, HSC'.out.symm, HR4.out⟩
    ·simp only [Value.slice.injEq] at he2
     obtain ⟨rfl, _, rfl⟩ := he2
     by_cases hcj : cap = j
     ·have HANS : Hid (VRow w3 (placeOf lns st sh) B (.slice (some ⟨g, off, none⟩) (es.length - j) (cap - j)) (es.drop j)) := by
       unfold Hid
       have hnj : es.length - j = 0 := by omega
       rw [hnj, List.drop_of_length_le (by omega)]
       exact VRow.none_ (HRD3.out.reads.2.1 g rfl) (by unfold maxLen; omega)
      go_wp2_with fail
      refine (countBelow_any (placeOf lns st sh) (cmpOf lns st sh) hK hT (es.drop j) hrs2 B _ hi _ (by first | exact HANS.out | simpa [hcj] using HANS.out) (by rw [hdl]; omega)).mono ?_
      rintro e w4 ⟨rfl, hb4⟩
      have HB4 := hide (HB3.out.trans (hb4.mono (by omega)))
      have hg4 : g < w4.heap.size := by have := HANS.out.reads.2.1 g rfl; have := hb4.size; omega
      have hb0 : Tm.below (cmpOf lns st sh) (Tm.entsOf (es.drop j)) hi = 0 := by omega
      have HSC' : Hid (Tm.ixScan (cmpOf lns st sh) (Tm.entsOf es) lo hi = Tm.entsOf []) := by
       unfold Hid
       rw [HSC.out, hb0]; rfl
      rw [hb0]
      clear hb4
      go_wp2
      go_ret2
      refine ⟨HB4.out, ?_⟩
      rw [if_neg (by omega)]
      exact ⟨_, _, rfl, HSC'.out.symm, VRow.none_ hg4 (by unfold maxLen; omega)⟩
     ·have HANS : Hid (VRow w3 (placeOf lns st sh) B (.slice (some ⟨g, off + j, none⟩) (es.length - j) (cap - j)) (es.drop j)) := by
       exact HRD3.out.from_ hle
      go_wp2_with fail
      refine (countBelow_any (placeOf lns st sh) (cmpOf lns st sh) hK hT (es.drop j) hrs2 B _ hi _ HANS.out (by rw [hdl]; omega)).mono ?_
      rintro e w4 ⟨rfl, hb4⟩
      have HR4 := hide (HANS.out.below hb4)
      have HB4 := hide (HB3.out.trans (hb4.mono (by omega)))
      obtain ⟨q, hq⟩ : ∃ q, Tm.below (cmpOf lns st sh) (Tm.entsOf (es.drop j)) hi = q := ⟨_, rfl⟩
      rw [hq] at HSC hle2 ⊢
      have HFIN : Hid (VRow w4 (placeOf lns st sh) B (.slice (some ⟨g, off + j, none⟩) q (cap - j)) ((es.drop j).take q)) := by
       exact HR4.out.upTo hdl.symm (by rw [hdl]; exact hle2)
      have i3 : (0 : Int) ≤ (q : Int) := by omega
      have i4 : (q : Int) ≤ ((cap - j : Nat) : Int) := by omega
      clear hb4 hq
      go_wp2
      go_ret2
      refine ⟨HB4.out, ?_⟩
      rw [if_neg (by omega)]
      exact ⟨_, _, rfl, HSC.out.symm, HFIN.out⟩
  ·go_enter Tryz.func62, Tryz.ntmps62
   go_wp2_with fail
   refine (CodeKey_any lns bc bm st sh lo _ HC.out HOK.out).mono ?_
   rw [if_pos hlo]
   rintro e w1 ⟨rfl, hb1⟩
   have HB1 := hide hb1
   have hz1 := hb1.size
   have hbx1 : bx < w1.heap.size := by omega
   have c01 : w1.cell? ⟨bx, 0, none⟩ = some (.pointer (some ⟨bc, 0, none⟩)) := by rw [hb1.cell (p := ⟨bx, 0, none⟩) hbx]; exact c0
   have HC1 := hide (HC.out.below hb1)
   clear hb1 c0
   go_wp2_with fail
   refine (CodeKey_any lns bc bm st sh hi _ HC1.out HOK.out).mono ?_
   rw [if_neg hhi]
   rintro e w2 ⟨rfl, hb2⟩
   have HB2 := hide (HB1.out.trans (hb2.mono hz1))
   clear hb2 c01
   go_wp2
   go_ret2
   refine ⟨HB2.out, ?_⟩
   rw [if_pos (by omega)]
   rfl
 ·go_enter Tryz.func62, Tryz.ntmps62
  go_wp2_with fail
  refine (CodeKey_any lns bc bm st sh lo _ HC.out HOK.out).mono ?_
  rw [if_neg hlo]
  rintro e w1 ⟨rfl, hb1⟩
  have HB1 := hide hb1
  clear hb1
  go_wp2
  go_ret2
  refine ⟨HB1.out, ?_⟩
  rw [if_pos (by omega)]
  rfl
set_option maxRecDepth 100000 in
set_option maxHeartbeats 1000000 in
theorem shownBy_zero (bx : Nat) (v : Value) (w : World) (hc : w.cell? ⟨bx, 1, none⟩ = some v) (_hl : bx < w.heap.size) (hv : ∃ a n cap, v = .slice a n cap) :
  Calls Tryz.prog 61 #[.pointer (some ⟨bx, 0, none⟩), .int .i64 0] w fun e w' => e = .returned (.tuple #[v, .int .i64 0]) ∧ w' = w := by
 obtain ⟨a, n, cap, rfl⟩ := hv
 go_enter Tryz.func61, Tryz.ntmps61
 go_wp2
 go_ret2
 exact ⟨rfl, rfl⟩
set_option maxRecDepth 100000 in
set_option maxHeartbeats 4000000 in
theorem scanRow_any (lns : List Tm.Ln) (bc bm : Nat) (st : Int) (sh : Bool) (bx : Nat) (handle : Int) (s : Tm.Vers) (B : Nat → Nat) (v : Value) (lo hi : ByteArray) (limit : Int) (w : World) (hc : Coll w bc bm st sh lns) (hok : TableOk st lns) (c0 : w.cell? ⟨bx, 0, none⟩ = some (.pointer (some ⟨bc, 0, none⟩))) (hbl : bx < w.heap.size)
  (hshown : Calls Tryz.prog 61 #[.pointer (some ⟨bx, 0, none⟩), .int .i64 handle] w fun e w' => e = .returned (.tuple #[v, .int .i64 0]) ∧ Below w.heap.size w w')
  (hrs : Tm.Rises (Tm.ByKey (cmpOf lns st sh)) (Tm.entsOf s)) (hfew : s.length ≤ 64) (hrd : VRow w (placeOf lns st sh) B v s) (hv : v = .slice none 0 0 ∨ ∃ g off cap, v = .slice (some ⟨g, off, none⟩) s.length cap) (hl : -9223372036854775808 ≤ limit ∧ limit ≤ 9223372036854775807) :
  Calls Tryz.prog 21 #[.pointer (some ⟨bx, 0, none⟩), .int .i64 handle, .string lo, .string hi, .int .i64 limit] w fun e w' => scanOf (cmpOf lns st sh) (Tm.entsOf s) lo hi limit w e w' := by
 obtain ⟨hl1, hl2⟩ := hl
 have HC := hide hc
 have HOK := hide hok
 have HRD := hide hrd
 have HV := hide hv
 have HSH := hide hshown
 have hle : (Tm.ixScan (cmpOf lns st sh) (Tm.entsOf s) lo hi).length ≤ s.length := by
  have := List.length_filter_le (Tm.within (cmpOf lns st sh) lo hi) (Tm.entsOf s)
  rwa [Tm.entsOf_length] at this
 obtain ⟨a, cap, rfl⟩ := hrd.reads.shape
 clear hc hok hrd hv hshown
 go_enter Tryz.func21, Tryz.ntmps21
 go_wp2_with fail
 refine HSH.out.mono ?_
 rintro e w0 ⟨rfl, hb0⟩
 have HB0 := hide hb0
 have hz0 := hb0.size
 have c00 : w0.cell? ⟨bx, 0, none⟩ = some (.pointer (some ⟨bc, 0, none⟩)) := by rw [hb0.cell (p := ⟨bx, 0, none⟩) hbl]; exact c0
 have hbl0 : bx < w0.heap.size := by omega
 have HC0 := hide (HC.out.below hb0)
 have HRD0 := hide (HRD.out.below hb0)
 clear hb0 c0
 go_wp2_with fail
 refine (within_any lns bc bm st sh bx s B _ lo hi _ HC0.out HOK.out c00 hbl0 hrs HRD0.out HV.out hfew).mono ?_
 rintro e w1 ⟨hb1, hans⟩
 have HB1 := hide (HB0.out.trans (hb1.mono hz0))
 have hz1 : w.heap.size ≤ w1.heap.size := by have := hb1.size; omega
 clear hb1 c00
 by_cases hlong : 64 < lo.size ∨ 64 < hi.size
 ·rw [if_pos hlong] at hans
  subst hans
  go_wp2
  go_ret2
  refine ⟨HB1.out, ?_⟩
  rw [if_pos hlong]
  rfl
 ·rw [if_neg hlong] at hans
  obtain ⟨v1, l1, rfl, hl1e, hrd1⟩ := hans
  have HL1 := hide hl1e
  rw [← hl1e, Tm.entsOf_length] at hle
  have HRD1 := hide hrd1
  obtain ⟨a1, cap1, rfl⟩ := hrd1.reads.shape
  obtain ⟨_, hf1, hf2⟩ := hrd1.reads.fits
  unfold maxLen at hf2
  clear hrd1
  by_cases hneg : limit < 0
  ·go_wp2
   go_ret2
   refine ⟨HB1.out, ?_⟩
   rw [if_neg hlong, if_pos hneg]
   rfl
  ·obtain ⟨l, rfl⟩ : ∃ l : Nat, limit = l := ⟨limit.toNat, by omega⟩
   have HTK : Hid (VRow w1 (placeOf lns st sh) B (.slice a1 (min l l1.length) cap1) (l1.take l)) := by
    unfold Hid
    by_cases h1 : l ≤ l1.length
    ·rw [Nat.min_eq_left h1]
     exact HRD1.out.upTo rfl h1
    ·rw [Nat.min_eq_right (by omega), List.take_of_length_le (by omega)]
     exact HRD1.out
   have htl : (l1.take l).length ≤ 64 := by rw [List.length_take]; omega
   have HEQ : Hid ((l : Int).toNat = l) := by unfold Hid; omega
   obtain ⟨tk, htk⟩ : ∃ tk, l1.take l = tk := ⟨_, rfl⟩
   have HTKE : Hid ((Tm.ixScan (cmpOf lns st sh) (Tm.entsOf s) lo hi).take l = Tm.entsOf tk) := by unfold Hid; rw [← HL1.out, ← entsOf_take, htk]
   rw [htk] at HTK htl
   clear htk
   have hl1e := hl1e
   clear hl1e
   generalize hm : l1.length = m at *
   have HM := hide hm
   clear hm
   by_cases h1 : l ≤ m
   ·have hmin : min l m = l := Nat.min_eq_left h1
    rw [hmin] at HTK
    have i0 : (0 : Int) ≤ (l : Int) := by omega
    have i1 : ((l : Int) ≤ (m : Int)) := by omega
    have i2 : (l : Int) ≤ (cap1 : Int) := by omega
    have hmi : min (l : Int) (m : Int) = (l : Int) := by omega
    go_wp2_with fail
    refine (entries_any (placeOf lns st sh) tk B _ _ HTK.out (by omega)).mono ?_
    rintro e w2 ⟨v2, rfl, hown2, hb2⟩
    have HANS : Hid (scanOf (cmpOf lns st sh) (Tm.entsOf s) lo hi l w (.returned (.tuple #[v2, .int .i64 0])) w2) := by
     refine ⟨HB1.out.trans (hb2.mono hz1), ?_⟩
     rw [if_neg hlong, if_neg (by omega), HEQ.out]
     rw [HTKE.out, Tm.entsOf_length]
     exact ⟨v2, rfl, owns_mono hown2 hz1⟩
    obtain ⟨a2, cap2, rfl⟩ := (Reads.of_owns hown2).shape
    clear hown2 hb2
    go_wp2
    go_ret2
    exact HANS.out
   ·have hmin : min l m = m := Nat.min_eq_right (by omega)
    rw [hmin] at HTK
    have i0 : (0 : Int) ≤ (m : Int) := by omega
    have i1 : ¬ ((l : Int) ≤ (m : Int)) := by omega
    have i2 : (m : Int) ≤ (cap1 : Int) := by omega
    have hmi : min (l : Int) (m : Int) = (m : Int) := by omega
    go_wp2_with fail
    refine (entries_any (placeOf lns st sh) tk B _ _ HTK.out (by omega)).mono ?_
    rintro e w2 ⟨v2, rfl, hown2, hb2⟩
    have HANS : Hid (scanOf (cmpOf lns st sh) (Tm.entsOf s) lo hi l w (.returned (.tuple #[v2, .int .i64 0])) w2) := by
     refine ⟨HB1.out.trans (hb2.mono hz1), ?_⟩
     rw [if_neg hlong, if_neg (by omega), HEQ.out]
     rw [HTKE.out, Tm.entsOf_length]
     exact ⟨v2, rfl, owns_mono hown2 hz1⟩
    obtain ⟨a2, cap2, rfl⟩ := (Reads.of_owns hown2).shape
    clear hown2 hb2
    go_wp2
    go_ret2
    exact HANS.out
theorem IxScan_any (lns : List Tm.Ln) (bc bm : Nat) (st : Int) (sh : Bool) (X : Nat) (S : Nat → Prop) (bx : Nat) (s : IxSt) (lo hi : ByteArray) (limit : Int) (w : World) (hc : Coll w bc bm st sh lns) (hok : TableOk st lns) (hx : Ix w X S bx bc st sh lns s) (hl : -9223372036854775808 ≤ limit ∧ limit ≤ 9223372036854775807) :
  Calls Tryz.prog 21 #[.pointer (some ⟨bx, 0, none⟩), .int .i64 0, .string lo, .string hi, .int .i64 limit] w fun e w' => scanAns (cmpOf lns st sh) s lo hi limit w e w' := by
 obtain ⟨F, B, V, v, h, hi'⟩ := hx.mem
 have hbl := (hx.from_ bx hx.own).2
 refine scanRow_any lns bc bm st sh bx 0 s.now B v lo hi limit w hc hok hx.c0 hbl ?_ hx.rises (by rw [← nowOf_length]; exact hx.few) hi'.nowRow (owns_slice hi'.now) hl
 obtain ⟨a, cap, rfl⟩ := hi'.nowRow.reads.shape
 refine (shownBy_zero bx _ w hi'.c1 hbl ⟨_, _, _, rfl⟩).mono ?_
 rintro e w' ⟨rfl, rfl⟩
 exact ⟨rfl, Below.refl _ _⟩
set_option maxRecDepth 100000 in
set_option maxHeartbeats 2000000 in
theorem with_any (base : Nat) (xs : List Value) (n : Nat) (v : Value) (i b : Nat) (w : World) (hown : w.ownsRow base 138 1 v n xs) (h1 : ∀ u ∈ xs, u.oneCell' = true) (hi : i ≤ n) (hn : n ≤ 1000) (hbase : base ≤ w.heap.size) :
  Calls Tryz.prog 117 #[v, .int .i64 i, .pointer (some ⟨b, 0, none⟩)] w fun r w' =>
   ∃ v', r = .returned v' ∧ w'.ownsRow base 138 1 v' (n + 1) (xs.take i ++ .pointer (some ⟨b, 0, none⟩) :: xs.drop i) ∧ w.grownBy w' v.ownBlock ∧ ∀ g, v'.ownBlock = some g → v.ownBlock = some g ∨ w.heap.size ≤ g := by
 have HO := hide hown
 have HLT := hide hown.lt
 obtain ⟨a, cap, rfl⟩ := (Reads.of_owns hown).shape
 clear hown
 go_enter Tryz.func117, Tryz.ntmps117
 go_wp2_with fail
 refine (Insert_any base _ n i w.heap.size xs [.pointer (some ⟨b, 0, none⟩)] _ (HO.out.alloc _) hi rfl hn ?_ ?_ h1 (by intro u hu; simp at hu; subst hu; rfl) (by simp; omega)).mono ?_
 ·have := heap_alloc_new w (.cells #[.pointer (some ⟨b, 0, none⟩)] 138)
  simpa using this
 ·intro h
  have := (HLT.out _ h).2
  omega
 ·rintro r w1 ⟨v1, rfl, hown1, hgr1, hat1⟩
  have HANS : Hid (w1.ownsRow base 138 1 v1 (n + 1) (xs.take i ++ .pointer (some ⟨b, 0, none⟩) :: xs.drop i) ∧ w.grownBy w1 (Value.slice a n cap).ownBlock ∧ ∀ g, v1.ownBlock = some g → (Value.slice a n cap).ownBlock = some g ∨ w.heap.size ≤ g) := by
   refine ⟨by rw [List.append_cons]; exact hown1, ⟨hgr1.os, hgr1.tape, hgr1.output, by have := hgr1.size; simp at this; omega, fun k hk hne => ?_⟩, fun g hg => ?_⟩
   ·rw [hgr1.block k (by simp; omega) hne, Below.heap_alloc _ _ _ hk]
   ·rcases hat1 with h | h
    ·exact .inl (by rw [← h]; exact hg)
    ·rw [h] at hg; simp at hg; exact .inr (by omega)
  obtain ⟨a1, cap1, rfl⟩ := (Reads.of_owns hown1).shape
  clear hown1 hgr1 hat1
  go_wp2
  go_ret
  exact ⟨_, rfl, HANS.out⟩
set_option maxRecDepth 100000 in
set_option maxHeartbeats 2000000 in
theorem without_any (base : Nat) (xs : List Value) (n : Nat) (v : Value) (i : Nat) (w : World) (hown : w.ownsRow base 138 1 v n xs) (h1 : ∀ u ∈ xs, u.oneCell' = true) (hi : i < n) (hn : n ≤ 1000) :
  Calls Tryz.prog 106 #[v, .int .i64 i] w fun r w' =>
   ∃ v', r = .returned v' ∧ w'.ownsRow base 138 1 v' (n - 1) (xs.eraseIdx i) ∧ w.grownBy w' v.ownBlock ∧ v'.ownBlock = v.ownBlock := by
 have HO := hide hown
 obtain ⟨a, cap, rfl⟩ := (Reads.of_owns hown).shape
 clear hown
 go_enter Tryz.func106, Tryz.ntmps106
 go_wp2_with fail
 refine (Delete_any base _ n i xs _ HO.out hi hn h1).mono ?_
 rintro r w1 ⟨v1, rfl, hown1, hgr1, hat1⟩
 have HANS : Hid (w1.ownsRow base 138 1 v1 (n - 1) (xs.eraseIdx i) ∧ w.grownBy w1 (Value.slice a n cap).ownBlock ∧ v1.ownBlock = (Value.slice a n cap).ownBlock) := ⟨by rw [List.eraseIdx_eq_take_drop_succ]; exact hown1, hgr1, hat1⟩
 obtain ⟨a1, cap1, rfl⟩ := (Reads.of_owns hown1).shape
 clear hown1 hgr1 hat1
 go_wp2
 go_ret
 exact ⟨_, rfl, HANS.out⟩
theorem Ix.newRow {w w1 w2 : World} {X : Nat} {S F : Nat → Prop} {bx bc : Nat} {st : Int} {sh : Bool} {lns : List Tm.Ln} {s : IxSt} {B : Nat → Nat} {V : Nat → Value} {v h v' : Value} (hx : Ix w X S bx bc st sh lns s) (hi : IxIn w X S F bx (placeOf lns st sh) s B V v h) (hb : Below w.heap.size w w1) (hgr : w1.grownBy w2 v.ownBlock) (hat : ∀ g, v'.ownBlock = some g → v.ownBlock = some g ∨ w1.heap.size ≤ g)
  (l : Tm.Vers) (M : Nat) (B' : Nat → Nat) (N : Nat → Prop) (hB : ∀ n, n < s.next → B' n = B n) (hown : w2.ownsRow X 138 1 v' l.length (ptrs B' l)) (hN : ∀ i, N i → w.heap.size ≤ i ∧ i < w1.heap.size) (hnew : ∀ x ∈ l, x ∈ s.now ∨ (N (B' x.1) ∧ VerAt w1 (placeOf lns st sh) B' x ∧ x.1 = s.next))
  (hok : StOk (cmpOf lns st sh) { s with now := l, next := M }) : IxStep w (w2.setCell ⟨bx, 1, none⟩ v') X S bx bc st sh lns { s with now := l, next := M } := by
 have hl := (hx.from_ bx hx.own).2
 have hz := hb.size
 have hz2 := hgr.size
 have hne : v.ownBlock ≠ some bx := fun e => (hi.vS bx e).2.1 rfl
 have hvlt : ∀ g, v.ownBlock = some g → g < w.heap.size := fun g e => (hx.from_ g (hi.vS g e).1).2
 have hbk : w2.heap[bx]? = w.heap[bx]? := by rw [hgr.block bx (by omega) (fun e => hne e.symm), hb.block bx hl]
 have hne' : v'.ownBlock ≠ some bx := fun e => by
  rcases hat bx e with e | e
  ·exact hne e
  ·omega
 refine hx.turn hi (v' := v') (Foot.setCell (p := ⟨bx, 1, none⟩) ((Foot.of hb).grown hgr (fun k e => .inl (.inr e))) (.inl (.inl rfl)) _) ?_ ?_ ?_ ?_ (fun o => ?_) l M B' N hB (ownsRow_same hown (fun g e => Below.heap_setCell _ _ _ _ (by rintro rfl; exact hne' e))) (fun g e => ?_) (fun i e => ?_) (fun x hxl => ?_) hok
 ·rw [World.cell?_setCell_other _ _ _ _ (by simp)]
  exact World.cell?_of_block (a := ⟨bx, 0, none⟩) hbk
 ·exact World.cell?_setCell_same _ _ _ ((World.cell?_of_block (a := ⟨bx, 1, none⟩) hbk).trans hi.c1)
 ·rw [World.cell?_setCell_other _ _ _ _ (by simp)]
  exact World.cell?_of_block (a := ⟨bx, 2, none⟩) hbk
 ·rw [World.cell?_setCell_other _ _ _ _ (by simp)]
  exact World.cell?_of_block (a := ⟨bx, 3, none⟩) hbk
 ·rw [World.frozen?_setCell]
  exact World.frozen?_of_block (a := ⟨bx, o, none⟩) hbk
 ·rcases hat g e with e1 | e1
  ·exact .inl e1
  ·exact .inr ⟨by omega, fun e2 => by have := (hN g e2).2; omega⟩
 ·have := hN i e
  exact ⟨this.1, by simp [World.setCell]; omega⟩
 ·refine (hnew x hxl).imp id (fun ⟨h1, h2, h3⟩ => ⟨h1, ?_, h3⟩)
  have h4 := hN _ h1
  refine h2.of_block (by simp [World.setCell]; omega) ?_ rfl
  rw [Below.heap_setCell _ _ _ _ (by show B' x.1 ≠ bx; omega), hgr.block _ h4.2 (fun e => by have := hvlt _ e.symm; omega)]
def plusAt (B : Nat → Nat) (n b : Nat) : Nat → Nat := fun i => if i = n then b else B i
theorem plusAt_old {B : Nat → Nat} {n b i : Nat} (h : i < n) : plusAt B n b i = B i := by unfold plusAt; rw [if_neg (by omega)]
theorem plusAt_new {B : Nat → Nat} {n b : Nat} : plusAt B n b n = b := by unfold plusAt; rw [if_pos rfl]
theorem ptrs_plus {B : Nat → Nat} {s : IxSt} {c : ByteArray → ByteArray → Int} (hok : StOk c s) {b : Nat} {l : Tm.Vers} (hl : ∀ x ∈ l, x ∈ s.now) : ptrs (plusAt B s.next b) l = ptrs B l := ptrs_congr fun x hx => plusAt_old (hok.less x (mem_now (hl x hx)))
abbrev verObj (p k v : ByteArray) : Obj := .cells #[.string p, .string k, .string v] 137
theorem verAt_new {w : World} {K : ByteArray → ByteArray} {k v : ByteArray} {B : Nat → Nat} {n : Nat} : VerAt (w.alloc (verObj (K k) k v)) K (plusAt B n w.heap.size) (n, (k, v)) := by
 unfold VerAt
 rw [plusAt_new]
 refine ⟨by simp, ?_, ?_, ?_, heap_alloc_new w _⟩
 ·rw [cell_new rfl]; rfl
 ·rw [cell_new rfl]; rfl
 ·rw [cell_new rfl]; rfl
theorem Ix.setVer {w W : World} {X : Nat} {S F : Nat → Prop} {bx bc g n cap : Nat} {st : Int} {sh : Bool} {lns : List Tm.Ln} {s : IxSt} {B : Nat → Nat} {V : Nat → Value} {h : Value} (hx : Ix w X S bx bc st sh lns s) (hi : IxIn w X S F bx (placeOf lns st sh) s B V (.slice (some ⟨g, 0, none⟩) n cap) h) (hb : Below w.heap.size w W) {i : Nat} (k v : ByteArray)
  (hok : StOk (cmpOf lns st sh) { s with now := s.now.set i (s.next, (k, v)), next := s.next + 1 }) : IxStep w ((W.alloc (verObj (placeOf lns st sh k) k v)).setCell ⟨g, i, none⟩ (.pointer (some ⟨W.heap.size, 0, none⟩))) X S bx bc st sh lns { s with now := s.now.set i (s.next, (k, v)), next := s.next + 1 } := by
 have hl := (hx.from_ bx hx.own).2
 have hgS := hi.vS g rfl
 have hlg := (hx.from_ g hgS.1).2
 have hz := hb.size
 have hn : n = s.now.length := ((Reads.of_owns hi.now).fits).1
 subst hn
 have hb1 : Below w.heap.size w (W.alloc (verObj (placeOf lns st sh k) k v)) := hb.alloc hz _
 have hbk : ((W.alloc (verObj (placeOf lns st sh k) k v)).setCell ⟨g, i, none⟩ (.pointer (some ⟨W.heap.size, 0, none⟩))).heap[bx]? = w.heap[bx]? := by
  rw [Below.heap_setCell _ _ _ _ (fun e => hgS.2.1 e.symm), hb1.block bx hl]
 have hown1 := ownsRow_same hi.now (w' := W.alloc (verObj (placeOf lns st sh k) k v)) (fun g' hg' => by simp [Value.ownBlock] at hg'; subst hg'; exact hb1.block _ hlg)
 refine hx.turn hi (v' := .slice (some ⟨g, 0, none⟩) s.now.length cap) (Foot.setCell (p := ⟨g, i, none⟩) (Foot.of hb1) (.inl (.inr rfl)) _) (World.cell?_of_block (a := ⟨bx, 0, none⟩) hbk) ((World.cell?_of_block (a := ⟨bx, 1, none⟩) hbk).trans hi.c1) (World.cell?_of_block (a := ⟨bx, 2, none⟩) hbk) (World.cell?_of_block (a := ⟨bx, 3, none⟩) hbk) (fun o => World.frozen?_of_block (a := ⟨bx, o, none⟩) hbk) _ _ (plusAt B s.next W.heap.size) (fun i => i = W.heap.size) (fun n hn => plusAt_old hn) ?_ (fun g' hg' => .inl hg') (fun i e => ⟨by omega, by simp [World.setCell]; omega⟩) (fun x hxl => ?_) hok
 ·have e : ptrs (plusAt B s.next W.heap.size) (s.now.set i (s.next, (k, v))) = (ptrs B s.now).set i (.pointer (some ⟨W.heap.size, 0, none⟩)) := by
   rw [← ptrs_plus hx.ok (b := W.heap.size) (l := s.now) (fun x hx => hx)]
   unfold ptrs
   rw [List.map_set]
   simp only [plusAt_new]
  rw [e, List.length_set]
  exact owns_setAt hown1 _ _
 ·rcases List.mem_or_eq_of_mem_set hxl with e1 | e1
  ·exact .inl e1
  ·subst e1
   refine .inr ⟨plusAt_new, ?_, rfl⟩
   refine (verAt_new (w := W) (K := placeOf lns st sh) (k := k) (v := v) (B := B) (n := s.next)).of_block (by simp [World.setCell]) ?_ rfl
   show (World.setCell _ _ _).heap[plusAt B s.next W.heap.size s.next]? = _
   rw [plusAt_new, Below.heap_setCell _ _ _ _ (by show W.heap.size ≠ g; omega)]
set_option maxRecDepth 100000 in
set_option maxHeartbeats 4000000 in
theorem put_any (lns : List Tm.Ln) (bc : Nat) (st : Int) (sh : Bool) (X : Nat) (S : Nat → Prop) (bx : Nat) (s : IxSt) (k v : ByteArray) (w : World) (hfit : ∀ o ∈ lns, Tm.Fit o) (hok : TableOk st lns) (hx : Ix w X S bx bc st sh lns s) (hX : X ≤ w.heap.size) (hk : k.size ≤ 64) :
  Calls Tryz.prog 74 #[.pointer (some ⟨bx, 0, none⟩), .agg #[.string k, .string v], .agg #[.string (placeOf lns st sh k), .int .i64 0]] w fun e w' => e = .returned (.int .i64 (putErr (cmpOf lns st sh) s k v)) ∧ IxStep w w' X S bx bc st sh lns (putSt (cmpOf lns st sh) s k v) := by
 have hT := told_cmpOf lns st sh
 have hK := keyed_place hfit (sh := sh) hok.st
 have hrs : Tm.Rises (Tm.ByKey (cmpOf lns st sh)) (Tm.entsOf s.now) := hx.rises
 have hfew : s.now.length ≤ 64 := by rw [← nowOf_length]; exact hx.few
 have HOKP := hide (hx.ok.put hT k v)
 obtain ⟨F, B, V, vn, vh, hi⟩ := hx.mem
 have c1 := hi.c1
 have hl := (hx.from_ bx hx.own).2
 obtain ⟨a, cap, rfl⟩ := (Reads.of_owns hi.now).shape
 have HX := hide hx
 have HI := hide hi
 have HC1 := hide c1
 clear hx hi
 obtain ⟨W0, hW0⟩ : ∃ W0, (w.alloc (.cells #[.string k, .string v] 67)).alloc (.cells #[.string (placeOf lns st sh k), .int .i64 0] 149) = W0 := ⟨_, rfl⟩
 have HB0 : Hid (Below w.heap.size w W0) := by unfold Hid; rw [← hW0]; exact ((Below.refl _ _).alloc (Nat.le_refl _) _).alloc (by simp) _
 have hA : ∀ o, W0.cell? ⟨w.heap.size, o, none⟩ = (#[.string k, .string v] : Array Value)[o]? := fun o => by rw [← hW0, cell_old (W := w.alloc (.cells #[.string k, .string v] 67)) (by simp), cell_new rfl]
 have hP : ∀ o, W0.cell? ⟨w.heap.size + 1, o, none⟩ = (#[.string (placeOf lns st sh k), .int .i64 0] : Array Value)[o]? := fun o => by rw [← hW0, cell_new (by simp)]
 have HP0 : Hid (∀ W : World, Below W0.heap.size W0 W → W.cell? ⟨w.heap.size, 0, none⟩ = some (.string k) ∧ W.cell? ⟨w.heap.size, 1, none⟩ = some (.string v) ∧ W.cell? ⟨w.heap.size + 1, 0, none⟩ = some (.string (placeOf lns st sh k)) ∧ W.cell? ⟨w.heap.size + 1, 1, none⟩ = some (.int .i64 0)) := fun W hW => by
  have hz : W0.heap.size = w.heap.size + 2 := by rw [← hW0]; simp
  rw [hW.cell (p := ⟨w.heap.size, 0, none⟩) (by show w.heap.size < _; omega), hW.cell (p := ⟨w.heap.size, 1, none⟩) (by show w.heap.size < _; omega), hW.cell (p := ⟨w.heap.size + 1, 0, none⟩) (by show w.heap.size + 1 < _; omega), hW.cell (p := ⟨w.heap.size + 1, 1, none⟩) (by show w.heap.size + 1 < _; omega), hA, hA, hP, hP]
  exact ⟨rfl, rfl, rfl, rfl⟩
 clear hA hP
 obtain ⟨p0, p1, p2, p3⟩ := HP0.out W0 (Below.refl _ _)
 have c10 : W0.cell? ⟨bx, 1, none⟩ = some (.slice a s.now.length cap) := by rw [HB0.out.cell (p := ⟨bx, 1, none⟩) hl]; exact c1
 have HRD0 : Hid (VRow W0.drew (placeOf lns st sh) B (.slice a s.now.length cap) s.now) := HI.out.nowRow.below HB0.out.drew
 have hz0 : W0.heap.size = w.heap.size + 2 := by rw [← hW0]; simp
 have HW0 := hide hW0
 clear c1 hW0
 by_cases hv : v.size ≤ 64
 ·have HPE : Hid (putErr (cmpOf lns st sh) s k v = if Tm.ixHas (cmpOf lns st sh) (Tm.entsOf s.now) k = false ∧ 64 ≤ s.now.length then 8 else 0) := by unfold Hid putErr; rw [if_neg (by omega), nowOf_length]; rfl
  have iv : ¬ (64 : Int) < (v.size : Int) := by omega
  go_enter Tryz.func74, Tryz.ntmps74
  go_upto_region 1 with fail
  rw [HW0.out]
  go_wp2_with fail
  go_region_with (go_at_call 66; refine (find_any (placeOf lns st sh) (cmpOf lns st sh) hK hT s.now hrs B _ k _ HRD0.out (by omega)).mono ?_; rintro e w2 ⟨rfl, hb2⟩)
  all_goals
   have hz2 : W0.heap.size ≤ w2.heap.size := hb2.size
   have hb20 : Below W0.heap.size W0 w2 := (Below.refl _ _).drew.trans hb2
   have hb2w : Below w.heap.size w w2 := HB0.out.trans (hb20.mono (by omega))
   have HB2 := hide hb2w
   clear p0 p1 p2 p3
   obtain ⟨p0, p1, p2, p3⟩ := HP0.out w2 hb20
   have c12 : w2.cell? ⟨bx, 1, none⟩ = some (.slice a s.now.length cap) := by rw [hb2w.cell (p := ⟨bx, 1, none⟩) hl]; exact HC1.out
   have f12 : w2.frozen? ⟨bx, 1, none⟩ = false := by rw [hb2w.frozen (p := ⟨bx, 1, none⟩) hl]; exact HX.out.free 1
   have k12 : (w2.alloc (.cells #[.string (placeOf lns st sh k), .string k, .string v] 137)).cell? ⟨bx, 1, none⟩ = some (.slice a s.now.length cap) := by rw [cell_old (by omega)]; exact c12
   clear hb2 hb20 hb2w c10
   cases hh : Tm.ixHas (cmpOf lns st sh) (Tm.entsOf s.now) k
   ·by_cases hfull : 64 ≤ s.now.length
    ·have HANS : Hid (putErr (cmpOf lns st sh) s k v = 8 ∧ IxStep w w2 X S bx bc st sh lns (putSt (cmpOf lns st sh) s k v)) := by
      have h1 : putErr (cmpOf lns st sh) s k v = 8 := by rw [HPE.out, if_pos ⟨hh, hfull⟩]
      refine ⟨h1, ?_⟩
      rw [putSt_no (by omega)]
      exact IxStep.of_below HX.out HB2.out
     have i1 : (64 : Int) ≤ (s.now.length : Int) := by omega
     go_wp2
     go_ret
     exact ⟨by rw [HANS.out.1]; rfl, HANS.out.2⟩
    ·have h1 : putErr (cmpOf lns st sh) s k v = 0 := by rw [HPE.out, if_neg (fun e => hfull e.2)]
     have h2 : putSt (cmpOf lns st sh) s k v = { s with now := s.now.take (Tm.below (cmpOf lns st sh) (Tm.entsOf s.now) k) ++ (s.next, (k, v)) :: s.now.drop (Tm.below (cmpOf lns st sh) (Tm.entsOf s.now) k), next := s.next + 1 } := by
      unfold putSt
      rw [if_pos h1, Tm.verPut_new hT hrs hh]
     have hle := Tm.below_le (cmpOf lns st sh) (Tm.entsOf s.now) k
     rw [Tm.entsOf_length] at hle
     have HE := hide h1
     have HS := hide h2
     have i1 : ¬ (64 : Int) ≤ (s.now.length : Int) := by omega
     clear h1 h2
     have HW : Hid (∀ W, Below w.heap.size w W → Calls Tryz.prog 117 #[.slice a s.now.length cap, .int .i64 (Tm.below (cmpOf lns st sh) (Tm.entsOf s.now) k : Nat), .pointer (some ⟨W.heap.size, 0, none⟩)] (W.alloc (verObj (placeOf lns st sh k) k v)) fun e w3 => ∃ a3 n3 cap3, e = .returned (.slice a3 n3 cap3) ∧ bx < w3.heap.size ∧ w3.cell? ⟨bx, 1, none⟩ = some (.slice a s.now.length cap) ∧ w3.frozen? ⟨bx, 1, none⟩ = false ∧ IxStep w (w3.setCell ⟨bx, 1, none⟩ (.slice a3 n3 cap3)) X S bx bc st sh lns (putSt (cmpOf lns st sh) s k v)) := fun W hW => by
      have hzW := hW.size
      have hb1 : Below w.heap.size w (W.alloc (verObj (placeOf lns st sh k) k v)) := hW.alloc hzW _
      have hown1 := ownsRow_same HI.out.now (w' := W.alloc (verObj (placeOf lns st sh k) k v)) (fun g hg => hb1.block g (HI.out.now.lt g hg).2)
      refine (with_any X (ptrs B s.now) s.now.length _ (Tm.below (cmpOf lns st sh) (Tm.entsOf s.now) k) W.heap.size _ hown1 (ptrs_one B s.now) hle (by omega) (by simp; omega)).mono ?_
      rintro e w3 ⟨v3, rfl, hown3, hgr3, hat3⟩
      have hz3 := hgr3.size
      have hbk : w3.heap[bx]? = w.heap[bx]? := (hgr3.block bx (by simp; omega) (fun e => (HI.out.vS bx e.symm).2.1 rfl)).trans (hb1.block bx hl)
      have hans := HX.out.newRow HI.out hb1 hgr3 (v' := v3) (fun g hg => (hat3 g hg)) (s.now.take (Tm.below (cmpOf lns st sh) (Tm.entsOf s.now) k) ++ (s.next, (k, v)) :: s.now.drop (Tm.below (cmpOf lns st sh) (Tm.entsOf s.now) k)) (s.next + 1) (plusAt B s.next W.heap.size) (fun i => i = W.heap.size) (fun n hn => plusAt_old hn) ?_ (fun i e => by subst e; exact ⟨hzW, by simp⟩) (fun x hx => ?_) (by have := HOKP.out; rw [HS.out] at this; exact this)
      ·obtain ⟨a3, cap3, rfl⟩ := (Reads.of_owns hown3).shape
       exact ⟨a3, _, cap3, rfl, by simp at hz3; omega, by rw [World.cell?_of_block (a := ⟨bx, 1, none⟩) hbk]; exact HC1.out, by rw [World.frozen?_of_block (a := ⟨bx, 1, none⟩) hbk]; exact HX.out.free 1, by rw [HS.out]; exact hans⟩
      ·have e1 : ptrs (plusAt B s.next W.heap.size) (s.now.take (Tm.below (cmpOf lns st sh) (Tm.entsOf s.now) k) ++ (s.next, (k, v)) :: s.now.drop (Tm.below (cmpOf lns st sh) (Tm.entsOf s.now) k)) = (ptrs B s.now).take (Tm.below (cmpOf lns st sh) (Tm.entsOf s.now) k) ++ .pointer (some ⟨W.heap.size, 0, none⟩) :: (ptrs B s.now).drop (Tm.below (cmpOf lns st sh) (Tm.entsOf s.now) k) := by
        rw [← ptrs_plus HX.out.ok (b := W.heap.size) (l := s.now) (fun x hx => hx)]
        unfold ptrs
        rw [List.map_append, List.map_cons, List.map_take, List.map_drop]
        simp only [plusAt_new]
       rw [e1, show (s.now.take (Tm.below (cmpOf lns st sh) (Tm.entsOf s.now) k) ++ (s.next, (k, v)) :: s.now.drop (Tm.below (cmpOf lns st sh) (Tm.entsOf s.now) k)).length = s.now.length + 1 by simp; omega]
       exact hown3
      ·rcases List.mem_append.1 hx with e | e
       ·exact .inl (List.mem_of_mem_take e)
       ·rcases List.mem_cons.1 e with e | e
        ·subst e
         exact .inr ⟨plusAt_new, verAt_new, rfl⟩
        ·exact .inl (List.mem_of_mem_drop e)
     go_wp2_with fail
     go_region_with (go_at_call 117; refine (HW.out _ (by first | exact HB2.out.drew | exact HB2.out)).mono ?_; rintro e w3 ⟨a3, n3, cap3, rfl, hl3, c13, f13, hans⟩; have HANS := hide hans; clear hans)
     all_goals
      go_wp2
      go_ret
      exact ⟨by rw [HE.out]; rfl, HANS.out⟩
   ·have h1 : putErr (cmpOf lns st sh) s k v = 0 := by rw [HPE.out, if_neg (fun e => by rw [hh] at e; cases e.1)]
    obtain ⟨hi, _⟩ := (Tm.ixHas_at hT hrs).1 hh
    rw [Tm.entsOf_length] at hi
    have h2 : putSt (cmpOf lns st sh) s k v = { s with now := s.now.set (Tm.below (cmpOf lns st sh) (Tm.entsOf s.now) k) (s.next, (k, v)), next := s.next + 1 } := by
     unfold putSt
     rw [if_pos h1, Tm.verPut_there hT hrs hh]
    have HE := hide h1
    have HS := hide h2
    obtain ⟨g, off, rfl, hg, x0, hva⟩ := (HI.out.nowRow.below HB2.out).get hi
    rcases HI.out.now.2 with ⟨h9, _⟩ | ⟨g', cap', cur, h9, _, hgb, _⟩
    ·cases h9
    ·cases h9
     rw [Nat.zero_add] at x0
     have hgl : g < w.heap.size := (Reads.of_owns HI.out.now).2.1 g rfl
     have hgb2 : w2.heap[g]? = some (.cells cur 138) := by rw [HB2.out.block g hgl]; exact hgb
     have f0 : w2.frozen? ⟨g, Tm.below (cmpOf lns st sh) (Tm.entsOf s.now) k, none⟩ = false := by simp [World.frozen?, hgb2]
     have HANS : Hid (∀ W, Below w.heap.size w W → IxStep w ((W.setCell ⟨g, Tm.below (cmpOf lns st sh) (Tm.entsOf s.now) k, none⟩ (.pointer (some ⟨W.heap.size, 0, none⟩))).alloc (verObj (placeOf lns st sh k) k v)) X S bx bc st sh lns (putSt (cmpOf lns st sh) s k v)) := fun W hW => by
      rw [HS.out, ← World.setCell_alloc_past _ _ _ _ (show g < W.heap.size by have := hW.size; omega)]
      exact HX.out.setVer HI.out hW k v (by have := HOKP.out; rw [HS.out] at this; exact this)
     have hbA : Below w2.heap.size w2 (w2.alloc (.cells #[.string (placeOf lns st sh k), .string k, .string v] 137)) := (Below.refl _ _).alloc (Nat.le_refl _) _
     have f0' : (w2.alloc (.cells #[.string (placeOf lns st sh k), .string k, .string v] 137)).frozen? ⟨g, Tm.below (cmpOf lns st sh) (Tm.entsOf s.now) k, none⟩ = false := by rw [hbA.frozen (p := ⟨g, Tm.below (cmpOf lns st sh) (Tm.entsOf s.now) k, none⟩) hg]; exact f0
     have x0' : (w2.alloc (.cells #[.string (placeOf lns st sh k), .string k, .string v] 137)).cell? ⟨g, Tm.below (cmpOf lns st sh) (Tm.entsOf s.now) k, none⟩ = _ := (hbA.cell (p := ⟨g, Tm.below (cmpOf lns st sh) (Tm.entsOf s.now) k, none⟩) hg).trans x0
     clear hbA
     generalize s.now[Tm.below (cmpOf lns st sh) (Tm.entsOf s.now) k] = y at *
     generalize Tm.below (cmpOf lns st sh) (Tm.entsOf s.now) k = i at *
     have i1 : (0 : Int) ≤ (i : Int) := by omega
     have i2 : (i : Int) < (s.now.length : Int) := by omega
     clear hgb hgb2 hva
     go_wp2_with fail
     go_region
     all_goals
      go_wp2
      go_ret
      refine ⟨by rw [HE.out]; rfl, ?_⟩
      exact HANS.out w2.drew HB2.out.drew
 ·have HPE : Hid (putErr (cmpOf lns st sh) s k v = 7) := by unfold Hid putErr; rw [if_pos (by omega)]
  have HANS : Hid (IxStep w W0 X S bx bc st sh lns (putSt (cmpOf lns st sh) s k v)) := by
   unfold Hid
   rw [putSt_no (by rw [HPE.out]; omega)]
   exact IxStep.of_below HX.out HB0.out
  have iv : (64 : Int) < (v.size : Int) := by omega
  go_enter Tryz.func74, Tryz.ntmps74
  go_upto_region 1 with fail
  rw [HW0.out]
  go_wp2
  go_ret
  exact ⟨by rw [HPE.out]; rfl, HANS.out⟩
end Go.Proofs.YtmnjjjhmnhfapaaGreatDoor
