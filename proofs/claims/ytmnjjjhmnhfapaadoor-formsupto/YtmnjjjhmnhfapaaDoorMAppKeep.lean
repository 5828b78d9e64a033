import Derived.Deep.RegionWith
import Derived.Maps.AppendAt
import Derived.Test.YtmnjjjhmnhfapaaDoorMRefTwice
import Derived.Test.YtmnjjjhmnhfapaaDoorMRefParse
namespace Go.Proofs.YtmnjjjhmnhfapaaDoor
open Go.RowKit

theorem stepAll_snoc {lns : List Tm.Ln} {l : List Int} {k : Nat} (hk : k < l.length) : Tm.stepAll lns (l.take (k + 1)) = Tm.stepAll lns (l.take k) ++ Tm.step1 lns l[k] := by
  unfold Tm.stepAll
  rw [List.take_succ_eq_append_getElem hk, List.flatMap_append]
  simp
theorem hasParts_snoc {lns : List Tm.Ln} {l : List Int} {k : Nat} (hk : k < l.length) : Tm.hasParts lns (l.take (k + 1)) = (Tm.hasParts lns (l.take k) || !decide ((Tm.parts lns l[k]).length = 0)) := by
  unfold Tm.hasParts
  rw [List.take_succ_eq_append_getElem hk, List.any_append]
  simp
theorem parts_short {lns : List Tm.Ln} (h : ∀ o ∈ lns, o.runes.length ≤ 3) (r : Int) : (Tm.parts lns r).length ≤ 2 := by
  unfold Tm.parts
  cases hf : lns.find? (Tm.isParts r) with
  | none => simp
  | some o => have := h o (List.mem_of_find?_eq_some hf); simp; omega
theorem stepAll_short {lns : List Tm.Ln} (h : ∀ o ∈ lns, o.runes.length ≤ 3) (l : List Int) : (Tm.stepAll lns l).length ≤ 2 * l.length := by
  unfold Tm.stepAll
  induction l with
  | nil => simp
  | cons a r ih =>
    have h1 : (Tm.step1 lns a).length ≤ 2 := by
      unfold Tm.step1
      split
      · simp
      · exact parts_short h a
    simp only [List.flatMap_cons, List.length_append, List.length_cons]
    omega

theorem news_at {w : World} {g off : Nat} {xs : List Value} (h : ∀ j u, xs[j]? = some u → w.cell? ⟨g, off + j, none⟩ = some u) : ∀ j u, xs[j]? = some u → w.cell? ((⟨g, off, none⟩ : Addr).add j) = some u := by
  intro j u hu
  have hadd : (⟨g, off, none⟩ : Addr).add j = ⟨g, off + j, none⟩ := by unfold Addr.add; split <;> simp_all
  rw [hadd]
  exact h j u hu
theorem ints_one {l : List Int} : ∀ u ∈ ints l, u.oneCell' = true := by
  intro u hu
  obtain ⟨x, _, rfl⟩ := List.mem_map.1 hu
  rfl
theorem owns_mono {w : World} {base base' : Nat} {e : TypeId} {size : Nat} {v : Value} {n : Nat} {xs : List Value} (h : w.ownsRow base e size v n xs) (hb : base' ≤ base) : w.ownsRow base' e size v n xs := by
  refine ⟨h.1, ?_⟩
  rcases h.2 with h2 | ⟨g, cap, cur, hv, hg, r⟩
  · exact .inl h2
  · exact .inr ⟨g, cap, cur, hv, by omega, r⟩

set_option maxRecDepth 100000 in
set_option maxHeartbeats 2000000 in
theorem steps_any (vl : Value) (st : Int) (sh : Bool) (vs : Value) (l : List Int) (lns : List Tm.Ln) (w : World) (ht : TableRd w vl lns) (hs : Reads w vs 1 l.length (ints l)) (hl : lns.length ≤ 1000000) (hl2 : l.length ≤ 1000000) (hl3 : ∀ o ∈ lns, o.runes.length ≤ 3) (hne : ∀ o ∈ lns, o.runes ≠ []) :
    Calls Tryd.prog 51 #[.agg #[vl, .int .i64 st, .bool sh], vs] w fun e w' => ∃ v, e = .returned (.tuple #[v, .bool (Tm.hasParts lns l)]) ∧ w'.ownsRow w.heap.size 3 1 v (Tm.stepAll lns l).length (ints (Tm.stepAll lns l)) ∧ Below w.heap.size w w' := by
  obtain ⟨a, cap, rfl⟩ := ht.shape
  obtain ⟨i0, hi, hz0, hz1, hz2⟩ := info_parts Tryd.infoInt
  have HT := hide ht
  have HS := hide hs
  have HL3 := hide hl3
  have HNE := hide hne
  obtain ⟨as0, caps, rfl⟩ := hs.shape
  clear ht hs hl3 hne
  go_enter Tryd.func51, Tryd.ntmps51
  go_wp2
  go_loopw [6, 7, 8] (fun o y i wr => ∃ k : Nat, k ≤ l.length ∧ i = .int .i64 k ∧ y = .bool (Tm.hasParts lns (l.take k)) ∧ wr.ownsRow (w.heap.size + 1) 3 1 o (Tm.stepAll lns (l.take k)).length (ints (Tm.stepAll lns (l.take k))) ∧ Below (w.heap.size + 1) (w.alloc (.cells #[.slice a lns.length cap, .int .i64 st, .bool sh] 28)) wr) (fun _ _ i _ => l.length - (intOf i).toNat)
  case atStart => exact ⟨0, Nat.zero_le _, rfl, rfl, World.ownsRow_nil _ _ _ _, Below.refl _ _⟩
  case round =>
    obtain ⟨k, hk, rfl, rfl, hown, hb⟩ := hrel
    have hb0 : Below w.heap.size w wr := ((Below.refl _ _).alloc (Nat.le_refl _) _).trans (hb.mono (by omega))
    have HB := hide hb0
    have HBB := hide hb
    have b0 : wr.cell? ⟨w.heap.size, 0, none⟩ = some (.slice a lns.length cap) := by rw [hb.cell (by simp)]; simp
    have b1 : wr.cell? ⟨w.heap.size, 1, none⟩ = some (.int .i64 st) := by rw [hb.cell (by simp)]; simp
    have b2 : wr.cell? ⟨w.heap.size, 2, none⟩ = some (.bool sh) := by rw [hb.cell (by simp)]; simp
    have hzr : w.heap.size + 1 ≤ wr.heap.size := by have := hb.size; simpa using this
    by_cases hlt : k < l.length
    · obtain ⟨gs, offs, rfl, hgs, cs⟩ := (HS.out.below hb0 HS.out.2.1).at hlt
      have HS1 := hide (stepAll_snoc (lns := lns) hlt)
      have HP1 := hide (hasParts_snoc (lns := lns) hlt)
      have hsh := stepAll_short HL3.out (l.take k)
      have hsh2 : (l.take k).length ≤ k := List.length_take_le _ _
      have hps := parts_short HL3.out l[k]
      have htw := HT.out.below hb0
      have i1 : (0 : Int) ≤ (k : Int) := by omega
      have i2 : (k : Int) < (l.length : Int) := by omega
      generalize hx : l[k] = x at *
      clear hb hb0 hx
      go_upto_region 6 with fail
      go_cut [9] from 16 to 21 (fun t wx => Reads wr t 1 (Tm.parts lns x).length (ints (Tm.parts lns x)) ∧ Below wr.heap.size wr wx)
      case first =>
        go_region_with (go_at_call 72; refine (Parts_any _ st sh x lns _ (by exact htw.below (Below.refl _ _).drew) HNE.out hl).mono ?_; rintro e w2 ⟨v, rfl, hrd, hbp⟩)
        all_goals (go_wp2_with fail; go_meet; exact ⟨hrd, ((Below.refl _ _).drew).trans hbp⟩)
      case rest =>
        obtain ⟨hrd, hbp⟩ := hcut
        have hownc := owns_below hown hbp
        have hrdc := hrd.below hbp hrd.2.1
        have HBC : Hid (Below (w.heap.size + 1) (w.alloc (.cells #[.slice a lns.length cap, .int .i64 st, .bool sh] 28)) wc) := HBB.out.trans (hbp.mono hzr)
        have hzc : wr.heap.size ≤ wc.heap.size := hbp.size
        have cs' : wc.cell? ⟨gs, offs + k, none⟩ = some (.int .i64 x) := by rw [hbp.cell (by simpa using hgs)]; exact cs
        obtain ⟨ap, capp, rfl⟩ := hrd.shape
        obtain ⟨ao, capo, rfl⟩ := (Reads.of_owns hownc).shape
        have HST : Hid (Tm.step1 lns x = if (Tm.parts lns x).length = 0 then [x] else Tm.parts lns x) := rfl
        clear hown hbp hrd
        generalize Tm.parts lns x = ps at *
        by_cases hp0 : ps.length = 0
        · have hpb : ((ps.length : Int) == 0) = true := by rw [beq_iff_eq]; omega
          have HSX := hide (HST.out.trans (if_pos hp0))
          clear hp0
          go_wp2_with (at_builtin; refine wpList_append_own _ rfl _ _ 53 rfl (w.heap.size + 1) 3 i0 (.int .i64 0) 1 8 Tryd.underlying53 hi hz0 hz1 hz2 rfl (by decide) _ _ _ rfl (hownc.alloc _) ⟨wc.heap.size, 0, none⟩ 1 1 [.int .i64 x] rfl rfl news_one (by intro u hu; simp at hu; subst hu; rfl) (by unfold maxLen; omega) (by omega) (by simp; omega) ?_)
          intro v' w3 hown' hgrow _
          have hown2 : w3.ownsRow (w.heap.size + 1) 3 1 v' (Tm.stepAll lns (l.take (k + 1))).length (ints (Tm.stepAll lns (l.take (k + 1)))) := by
            rw [HS1.out, HSX.out]; simpa [ints] using hown'
          have hb3 : Hid (Below (w.heap.size + 1) (w.alloc (.cells #[.slice a lns.length cap, .int .i64 st, .bool sh] 28)) w3) := (HBC.out.alloc (by omega) _).grown hgrow (by simp; omega) (fun k hk => (hownc.lt k hk).1)
          have HH : Hid (Tm.hasParts lns (l.take (k + 1)) = Tm.hasParts lns (l.take k)) := by
            unfold Hid
            rw [HP1.out]
            have : decide (ps.length = 0) = true := by simp at hpb; simp [hpb]
            rw [this]; simp
          clear hown' hgrow hownc hrdc
          go_wp2
          go_roundw
          case rel => exact ⟨k + 1, by omega, by go_num, by rw [HH.out], hown2, hb3.out⟩
          case measure => simp [intOf]; omega
        · have hpb : ((ps.length : Int) == 0) = false := by rw [beq_eq_false_iff_ne]; omega
          have HSX := hide (HST.out.trans (if_neg hp0))
          obtain ⟨gp, offp, cp, he, hgp, hcp⟩ := hrdc.form (by rw [ints_length]; omega)
          cases he
          have hpp : 0 < ps.length := by omega
          have HH : Hid (Tm.hasParts lns (l.take (k + 1)) = true) := by
            unfold Hid
            rw [HP1.out]
            simp [hp0]
          clear hp0
          go_wp2_with (at_builtin; go_must (refine wpList_append_own _ rfl _ _ 53 rfl (w.heap.size + 1) 3 i0 (.int .i64 0) 1 8 Tryd.underlying53 hi hz0 hz1 hz2 rfl (by decide) _ _ _ rfl hownc ⟨gp, offp, none⟩ ps.length _ (ints ps) rfl (by simp [ints]) (by exact news_at hcp) ints_one (by unfold maxLen; omega) (by omega) (by omega) ?_))
          intro v' w3 hown' hgrow _
          have hown2 : w3.ownsRow (w.heap.size + 1) 3 1 v' (Tm.stepAll lns (l.take (k + 1))).length (ints (Tm.stepAll lns (l.take (k + 1)))) := by
            rw [HS1.out, HSX.out]; simpa [ints] using hown'
          have hb3 : Hid (Below (w.heap.size + 1) (w.alloc (.cells #[.slice a lns.length cap, .int .i64 st, .bool sh] 28)) w3) := HBC.out.grown hgrow (by omega) (fun k hk => (hownc.lt k hk).1)
          clear hown' hgrow hownc hrdc
          go_wp2
          go_roundw
          case rel => exact ⟨k + 1, by omega, by go_num, by rw [HH.out], hown2, hb3.out⟩
          case measure => simp [intOf]; omega
    · have e1 : l.take k = l := List.take_of_length_le (by omega)
      rw [e1] at hown
      have HE := hide e1
      obtain ⟨ao, capo, rfl⟩ := (Reads.of_owns hown).shape
      have HO := hide hown
      clear e1 hown hb hb0
      go_wp2
      go_ret2
      exact ⟨.slice ao (Tm.stepAll lns l).length capo, by rw [HE.out]; rfl, owns_mono HO.out (by omega), HB.out⟩
end Go.Proofs.YtmnjjjhmnhfapaaDoor
/-
  An append onto a row of one's own, and what the old slice reads as behind it: the same.
-/
namespace Go.Proofs.YtmnjjjhmnhfapaaDoor
open Go.RowKit

theorem run_append_keep {P : Program} (w : World) (base : Nat) (t ty e : TypeId) (i : TypeInfo) (z : Value) (bytes : Nat) (ht : P.underlying t = some (.slice e)) (hi : P.info? e = some i) (hz : i.zero = some z)
    (hsize : i.size = 1) (hby : i.bytes = bytes) (hzs : z.cells.size = 1)
    (v : Value) (n : Nat) (xs : List Value) (hown : w.ownsRow base e 1 v n xs)
    (a : Addr) (m c : Nat) (news : List Value) (hl : news.length = m * 1) (hnews : ∀ j u, news[j]? = some u → w.cell? (a.add j) = some u) (h1 : ∀ u ∈ news, u.oneCell' = true)
    (h63 : n + m ≤ maxLen) (hbytes : (n + m) * bytes ≤ 140737488355328) (hbase : base ≤ w.heap.size) :
    ∃ v' w', (Builtin.append_ #[t, t] ty #[v, .slice (some a) m c]).run P w = .ok v' w' ∧ w'.ownsRow base e 1 v' (n + m) (xs ++ news) ∧ w.grownBy w' v.ownBlock ∧
      (v'.ownBlock = v.ownBlock ∨ v'.ownBlock = some w.heap.size) ∧ Reads w' v 1 n xs := by
  obtain ⟨v', w', hr, h2, h3, h4, h5⟩ := run_append_own_at (P := P) w base t ty e i z 1 bytes ht hi hz hsize hby hzs (by omega) v n xs hown a m c news hl hnews h1 h63 hbytes hbase
  refine ⟨v', w', hr, h2, h3, h5, ?_⟩
  have hrd := Reads.of_owns hown
  rcases hown.2 with ⟨rfl, rfl⟩ | ⟨g, cap, cur, rfl, hbg, hg, hnc, hcm, hcs, htake⟩
  · exact hrd.of_blocks h3.size (fun g hg => by simp [Value.ownBlock] at hg)
  · by_cases hroom : n + m ≤ cap
    · have hfit : n * i.size + news.length ≤ cur.size := by rw [hl, hcs, hsize]; omega
      have hr' := run_append_room (P := P) w t ty e i ht hi g n cap cur hg a m c news (by rw [hsize]; exact hl) hnews h1 hroom hfit
      rw [hr] at hr'
      have hv : v' = .slice (some ⟨g, 0, none⟩) (n + m) cap := by injection hr'
      subst hv
      have hc := h2.cells (g := g) rfl
      refine ⟨hown.1, fun g' hg' => by simp [Value.ownBlock] at hg'; subst hg'; exact (h2.lt g rfl).2, _, cap, rfl, ⟨hnc, hcm⟩, fun j u hu => ⟨g, 0, rfl, ?_⟩⟩
      have hj : (xs ++ news)[j]? = some u := by
        rw [List.getElem?_append_left (List.getElem?_eq_some_iff.1 hu).1]; exact hu
      have := hc j u hj
      have hadd : (⟨g, 0, none⟩ : Addr).add j = ⟨g, 0 + j, none⟩ := by unfold Addr.add; split <;> simp_all
      rw [hadd] at this
      exact this
    · have holds : ∀ j u, xs[j]? = some u → w.cell? ((⟨g, 0, none⟩ : Addr).add j) = some u := hown.cells (g := g) rfl
      have hr' := run_append_grow (P := P) w t ty e i z ht hi hz ⟨g, 0, none⟩ n cap xs (by rw [hsize]; exact hown.1) holds a m c news (by rw [hsize]; exact hl) hnews (by omega) (by unfold maxLen at h63; omega) (growslice_fits (by omega) (by rw [hby]; exact hbytes))
      rw [hr] at hr'
      have hw : w' = w.drew.alloc (.cells (xs.toArray ++ news.toArray ++ Builtin.zeroCells z.cells (grownCap w (n + m) cap e - (n + m))) e) := by injection hr'
      refine hrd.of_blocks h3.size (fun g' hg' => ?_)
      have hlt := hrd.2.1 g' hg'
      rw [hw]
      exact heap_alloc_old w.drew _ hlt

/-- At the operation, for the walk. -/
theorem wpList_append_keep {P : Program} {w : World} {ops : Array Oper} {rest : List Oper} {o : Oper} {a : Act} {Q : Exit → Act → World → Prop} (hgd : o.guard = none) (s x : Operand) (t : TypeId)
    (ho : o.op = .call { callee := .builtin .append, args := #[s, x], argTypes := #[t, t] })
    (base : Nat) (e : TypeId) (i : TypeInfo) (z : Value) (bytes : Nat) (ht : P.underlying t = some (.slice e)) (hi : P.info? e = some i) (hz : i.zero = some z)
    (hsize : i.size = 1) (hby : i.bytes = bytes) (hzs : z.cells.size = 1)
    (v : Value) (n : Nat) (xs : List Value) (hs : a.eval s = v) (hown : w.ownsRow base e 1 v n xs)
    (ad : Addr) (m c : Nat) (news : List Value) (hx : a.eval x = .slice (some ad) m c) (hl : news.length = m * 1) (hnews : ∀ j u, news[j]? = some u → w.cell? (ad.add j) = some u) (h1 : ∀ u ∈ news, u.oneCell' = true)
    (h63 : n + m ≤ maxLen) (hbytes : (n + m) * bytes ≤ 140737488355328) (hbase : base ≤ w.heap.size)
    (h : ∀ v' w', w'.ownsRow base e 1 v' (n + m) (xs ++ news) → w.grownBy w' v.ownBlock → (v'.ownBlock = v.ownBlock ∨ v'.ownBlock = some w.heap.size) → Reads w' v 1 n xs → wpList P ops Q rest (a.put o.dst v') w') :
    wpList P ops Q (o :: rest) a w := by
  refine wpList_plain hgd fun K hK => ?_
  obtain ⟨v', w', hr, h2, h3, h4, h5⟩ := run_append_keep (P := P) w base t o.type e i z bytes ht hi hz hsize hby hzs v n xs hown ad m c news hl hnews h1 h63 hbytes hbase
  unfold Oper.wp execOp
  simp only [ho, resolve, invoke, builtin, Sem.run_bind, Sem.run_pure, Result.andThen_ok, List.map_toArray, List.map_cons, List.map_nil, hs, hx, hr]
  exact hK _ _ (h v' w' h2 h3 h4 h5)
end Go.Proofs.YtmnjjjhmnhfapaaDoor
