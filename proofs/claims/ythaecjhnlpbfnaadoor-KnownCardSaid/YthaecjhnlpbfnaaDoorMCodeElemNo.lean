import Derived.RegionDies
import Derived.Test.YthaecjhnlpbfnaaDoorMSortMem
import Derived.Test.YthaecjhnlpbfnaaDoorMMapFn
import Derived.Test.YthaecjhnlpbfnaaDoorMRefNew
namespace Go.Proofs.YthaecjhnlpbfnaaDoor
open Go.RowKit

/-- The row of lines w has grown, and the draft has its new slice. -/
theorem Rep.weigh {w w4 : World} {o : Obj} {col : Nat → Int} {base bd bm : Nat} {line : Int} {vp vw v' : Value} {lns : List Tm.Ln} {l : Tm.Ln} {xs : List (Value × Value)} {x : Value × Value} (hdr : Dr w col base bd bm line vp vw) (hnd : Nd w col base bm (lns ++ [l])) (hpt : Pt w col base vp lns)
    (hxl : xs.length = (Tm.wLines lns).length) (hrow : Row w col base 155 3 (-5) vw (Tm.wLines lns).length (seqCells true xs (Tm.wLines lns))) (hok : ∀ k (h : k < (Tm.wLines lns).length) (h' : k < xs.length), SeqOk w col xs[k] (Tm.wLines lns)[k]) (hx : SeqOk w col x l)
    (hfit : ∀ o ∈ lns, Tm.Fit o) (hlow : ∀ g, g < base → col g ≠ -1) (hl : Tm.Fit l) (hk : l.kind = [119])
    (hown : w4.ownsRow base 155 3 v' ((Tm.wLines lns).length + 1) (seqCells true xs (Tm.wLines lns) ++ [.int .i64 l.num, x.1, x.2])) (hg : (w.drew.alloc o).grownBy w4 vw.ownBlock) (hat : v'.ownBlock = vw.ownBlock ∨ v'.ownBlock = some (w.drew.alloc o).heap.size) :
    Rep (w4.setCell ⟨bd, 3, none⟩ v') (recol col (w.drew.alloc o).heap.size (-5)) base bd bm line vp v' (lns ++ [l]) := by
  have hsz : (w.drew.alloc o).heap.size = w.heap.size + 1 := by simp
  have hbl : ∀ g, g < w.heap.size → (w.drew.alloc o).heap[g]? = w.heap[g]? := fun g hg => Below.heap_alloc w.drew o g hg
  have hlt := hdr.lt
  have hw4 : w.heap.size + 1 ≤ w4.heap.size := by have := hg.size; omega
  have hneb : vw.ownBlock ≠ some bd := fun e => by have := hrow.2 bd e; rw [hdr.hue] at this; omega
  have hneb' : v'.ownBlock ≠ some bd := by
    rcases hat with e | e
    · rw [e]; exact hneb
    · rw [e, hsz]; simp; omega
  have k0 : Keeps w w4 col (recol col (w.drew.alloc o).heap.size (-5)) (· ≠ -5) := by
    refine ⟨by omega, fun g hg' hc => ?_, fun g hg' => by unfold recol; rw [if_neg (by omega)]⟩
    rw [hg.block g (by omega) (fun e => hc (hrow.2 g e.symm)), hbl g hg']
  have k : Keeps w (w4.setCell ⟨bd, 3, none⟩ v') col (recol col (w.drew.alloc o).heap.size (-5)) (fun c => c ≠ -5 ∧ c ≠ -3) := by
    refine ⟨by simp [World.setCell]; omega, fun g hg' hc => ?_, k0.same⟩
    rw [Below.heap_setCell _ _ _ _ (by simp only; intro e; subst e; exact hc.2 hdr.hue)]
    exact k0.block g hg' hc.1
  have d0 := hdr.keep k0 (by decide)
  refine ⟨⟨d0.hue, d0.from_, by simpa [World.setCell] using d0.lt, ?_, ?_, ?_, ?_, fun q => ?_⟩, ?_, ?_, ?_, fit_snoc hfit hl, fun q hq => by rw [k0.same q (by have := hdr.from_; omega)]; exact hlow q hq⟩
  · rw [World.cell?_setCell_other _ _ _ _ (by simp)]; exact d0.c0
  · rw [World.cell?_setCell_other _ _ _ _ (by simp)]; exact d0.c1
  · rw [World.cell?_setCell_other _ _ _ _ (by simp)]; exact d0.c2
  · exact World.cell?_setCell_same _ _ _ d0.c3
  · rw [World.frozen?_setCell]; exact d0.free q
  · exact hnd.keep k (by decide) (by decide) (fun r hr => by omega)
  · unfold Pt
    rw [Tm.dLines_snoc, if_neg (by rw [hk]; simp)]
    exact hpt.keep k (by decide)
  · unfold Wt
    rw [Tm.wLines_snoc, if_pos hk]
    refine SeqRow.snoc hxl hok hx k (by decide) ?_ ?_
    · exact ownsRow_same hown (fun g hg' => Below.heap_setCell _ _ _ _ (by simp only; intro e; subst e; exact hneb' hg'))
    · intro g hg'
      rcases hat with e | e
      · rw [e] at hg'
        have h1 := hrow.2 g hg'
        unfold recol
        split
        · rfl
        · exact h1
      · rw [e] at hg'; cases hg'
        unfold recol; rw [if_pos rfl]

/-- The sequences of a rune have grown, and the map has its new node. -/
theorem Nd.grown {w wD w5 w6 w7 : World} {o : Obj} {col : Nat → Int} {base bm nb : Nat} {lns : List Tm.Ln} {f : Int → Value} {r : Int} {l : Tm.Ln} {pv sv sv' : Value} {xs : List (Value × Value)} {x : Value × Value}
    (hnd : Nd w col base bm lns) (hall : ∀ y, 0 ≤ y → NodeOk w col base lns y (f y)) (hk : l.kind = [119]) (hr1 : l.runes.getD 0 0 = r) (hr : 0 ≤ r) (hp : Data w col pv 1 (Tm.parts lns r).length (ints (Tm.parts lns r)))
    (hxl : xs.length = (Tm.seqsAt lns r).length) (hrow : Row w col base 153 2 r sv (Tm.seqsAt lns r).length (seqCells false xs (Tm.seqsAt lns r))) (hok : ∀ k (h : k < (Tm.seqsAt lns r).length) (h' : k < xs.length), SeqOk w col xs[k] (Tm.seqsAt lns r)[k]) (hx : SeqOk w col x l)
    (hD : Below w.heap.size w wD) (hnb : w.heap.size ≤ nb ∧ nb < wD.heap.size)
    (hown : w5.ownsRow base 153 2 sv' ((Tm.seqsAt lns r).length + 1) (seqCells false xs (Tm.seqsAt lns r) ++ [x.1, x.2])) (hg : (wD.alloc o).grownBy w5 sv.ownBlock) (hat : sv'.ownBlock = sv.ownBlock ∨ sv'.ownBlock = some (wD.alloc o).heap.size)
    (h6 : w6 = (w5.setCell ⟨nb, 2, none⟩ sv').drew) (hg7 : w6.grownBy w7 (some bm)) (hm : MapIs w7 bm (lns.length + 1) (upd f r (.agg #[.int .i64 (Tm.classOf lns r), pv, sv']))) :
    Nd w7 (recol col (wD.alloc o).heap.size r) base bm (lns ++ [l]) ∧ Keeps w w7 col (recol col (wD.alloc o).heap.size r) (fun c => c ≠ -2 ∧ c ≠ r) := by
  subst h6
  have hsz : (wD.alloc o).heap.size = wD.heap.size + 1 := by simp
  have hDs := hD.size
  have hbml : bm < w.heap.size := by obtain ⟨_, _, f0, hf0, _⟩ := hnd; exact hf0.lt
  have h5 : wD.heap.size + 1 ≤ w5.heap.size := by have := hg.size; omega
  have h6s : ((w5.setCell ⟨nb, 2, none⟩ sv').drew).heap.size = w5.heap.size := by simp [World.setCell, World.drew]
  have h7 := hg7.size
  have hnbm : sv'.ownBlock ≠ some bm := by
    rcases hat with e | e
    · rw [e]; intro e2; have := hrow.2 bm e2; rw [hnd.hue] at this; omega
    · rw [e, hsz]; simp; omega
  have hnnb : sv'.ownBlock ≠ some nb := by
    rcases hat with e | e
    · rw [e]; intro e2; have := (hrow.1.lt nb e2).2; omega
    · rw [e, hsz]; simp; omega
  have e6 : ∀ g, g ≠ nb → ((w5.setCell ⟨nb, 2, none⟩ sv').drew).heap[g]? = w5.heap[g]? := fun g hne => Below.heap_setCell w5 ⟨nb, 2, none⟩ sv' g hne
  have k : Keeps w w7 col (recol col (wD.alloc o).heap.size r) (fun c => c ≠ -2 ∧ c ≠ r) := by
    refine ⟨by omega, fun g hg' hc => ?_, fun g hg' => by unfold recol; rw [if_neg (by omega)]⟩
    rw [hg7.block g (by omega) (fun e => by cases e; exact hc.1 hnd.hue), e6 g (by omega), hg.block g (by omega) (fun e => hc.2 (hrow.2 g e.symm)), Below.heap_alloc wD o g (by omega), hD.block g hg']
  refine ⟨?_, k⟩
  refine hnd.weigh hall hk hr1 hp ?_ hr hm k
  refine SeqRow.snoc hxl hok hx k (by omega) ?_ ?_
  · refine ownsRow_same hown (fun g hg' => ?_)
    have hlt : g < w5.heap.size := (hown.lt g hg').2
    rw [hg7.block g (by omega) (fun e => by cases e; exact hnbm hg'), e6 g (fun e => by subst e; exact hnnb hg')]
  · intro g hg'
    rcases hat with e | e
    · rw [e] at hg'
      have h1 := hrow.2 g hg'
      unfold recol
      split
      · rfl
      · exact h1
    · rw [e] at hg'; cases hg'
      unfold recol; rw [if_pos rfl]
end Go.Proofs.YthaecjhnlpbfnaaDoor
namespace Go.Proofs.YthaecjhnlpbfnaaDoor
open Go.RowKit

/-- What readElement answers. -/
def elAns (r : Option Tm.El) (e : Ending) : Prop := match r with
  | some x => e = .returned (.agg #[.int .i64 x.p, .int .i64 x.s, .int .i64 x.t, .bool x.v])
  | none => tells e 1
theorem elAns_none {r : Option Tm.El} {e : Ending} (h : r = none) (he : tells e 1) : elAns r e := by subst h; exact he
theorem elAns_some {r : Option Tm.El} {x : Tm.El} {e : Ending} (h : r = some x) (he : e = .returned (.agg #[.int .i64 x.p, .int .i64 x.s, .int .i64 x.t, .bool x.v])) : elAns r e := by subst h; exact he

theorem reads3 {w : World} {v : Value} {b0 b1 b2 : ByteArray} (h : Reads w v 1 3 [.string b0, .string b1, .string b2]) :
    ∃ g off cap, v = .slice (some ⟨g, off, none⟩) 3 cap ∧ g < w.heap.size ∧ w.cell? ⟨g, off, none⟩ = some (.string b0) ∧ w.cell? ⟨g, off + 1, none⟩ = some (.string b1) ∧ w.cell? ⟨g, off + 2, none⟩ = some (.string b2) := by
  obtain ⟨g, off, cap, rfl, hg, hc⟩ := h.form (by simp)
  exact ⟨g, off, cap, rfl, hg, by simpa using hc 0 _ rfl, hc 1 _ rfl, hc 2 _ rfl⟩

set_option maxRecDepth 100000 in
set_option maxHeartbeats 2000000 in
theorem readElement_some (s : ByteArray) (w : World) (hs : s.size ≤ 8192) (hsome : (Tm.elem s.data.toList).isSome = true) :
    Calls Tryd.prog 130 #[.string s] w fun e w' => elAns (Tm.elem s.data.toList) e ∧ Below w.heap.size w w' := by
  have HSOME := hide hsome
  clear hsome
  have hbs := bare_size s
  have HE := hide (elem_star s)
  go_enter Tryd.func130, Tryd.ntmps130
  go_wp2_with fail
  refine (CutPrefix_star s _).mono ?_
  rintro e w1 ⟨rfl, rfl⟩
  generalize star s = vb at *
  generalize bare s = sv at *
  go_wp2_with fail
  refine (Split_one sv 46 _ (by omega)).mono ?_
  rintro e w1 ⟨v, bs, rfl, hrd, hsp, hbl, hb⟩
  have hc := (bcell hb).1
  have hf := (bcell hb).2
  have hz := hb.size
  simp at hz
  have y0 : w1.cell? ⟨w.heap.size, 0, none⟩ = some (.int .i64 0) := by rw [hc _ _ (by simp), cell_new rfl]; rfl
  have y1 : w1.cell? ⟨w.heap.size, 1, none⟩ = some (.int .i64 0) := by rw [hc _ _ (by simp), cell_new rfl]; rfl
  have y2 : w1.cell? ⟨w.heap.size, 2, none⟩ = some (.int .i64 0) := by rw [hc _ _ (by simp), cell_new rfl]; rfl
  have y3 : w1.cell? ⟨w.heap.size, 3, none⟩ = some (.bool false) := by rw [hc _ _ (by simp), cell_new rfl]; rfl
  have fy : ∀ o, w1.frozen? ⟨w.heap.size, o, none⟩ = false := fun o => by rw [hf _ _ (by simp), frozen_new rfl]
  have HB : Hid (Below w.heap.size w w1) := ((Below.refl _ _).alloc (Nat.le_refl _) _).trans (hb.mono (by simp))
  clear hc hf hb
  by_cases h3 : bs.length = 3
  · obtain ⟨b0, b1, b2, rfl⟩ := three_of h3
    obtain ⟨g, off, cap, rfl, hg, c0, c1, c2⟩ := reads3 (by simpa using hrd)
    have hgl := hbl g rfl
    simp at hgl
    have g1 : ¬ g = w.heap.size := by omega
    have g2 : ¬ w.heap.size = g := by omega
    have hsz := word_sizes hsp (by omega)
    have hs0 := hsz b0 (by simp)
    have hs1 := hsz b1 (by simp)
    have hs2 := hsz b2 (by simp)
    have HS := hide hsp
    have hE3 : Tm.elem s.data.toList = Tm.elem3 vb [b0.data.toList, b1.data.toList, b2.data.toList] := by rw [HE.out, ← hsp]; rfl
    have HE3 := hide hE3
    clear hrd hsp hsz h3 hbl hE3 HE
    have hway : (numOk 65535 b0.data.toList = false) ∨ (numOk 65535 b0.data.toList = true ∧ numOk 65535 b1.data.toList = false) ∨ (numOk 65535 b0.data.toList = true ∧ numOk 65535 b1.data.toList = true ∧ numOk 65535 b2.data.toList = false) ∨ (numOk 65535 b0.data.toList = true ∧ numOk 65535 b1.data.toList = true ∧ numOk 65535 b2.data.toList = true) := by
      cases numOk 65535 b0.data.toList <;> cases numOk 65535 b1.data.toList <;> cases numOk 65535 b2.data.toList <;> simp
    have HBAD : Hid (¬ (numOk 65535 b0.data.toList = true ∧ numOk 65535 b1.data.toList = true ∧ numOk 65535 b2.data.toList = true) → Tm.elem s.data.toList = none) := by
      intro h
      rw [HE3.out]
      refine elem3_ways (fun h' => h ?_)
      simp only [numOk, decide_eq_true_eq]
      omega
    have hl3 : (([b0, b1, b2].length : Int) != 3) = false := rfl
    rcases hway with h0 | ⟨h0, h1⟩ | ⟨h0, h1, h2⟩ | ⟨h0, h1, h2⟩
    · have h := HSOME.out
      rw [HBAD.out (by rw [h0]; simp)] at h
      cases h
    · have h := HSOME.out
      rw [HBAD.out (by rw [h1]; simp)] at h
      cases h
    · have h := HSOME.out
      rw [HBAD.out (by rw [h2]; simp)] at h
      cases h
    · have HN : Hid (Tm.elem s.data.toList = some ⟨Tm.num b0.data.toList, Tm.num b1.data.toList, Tm.num b2.data.toList, vb⟩) := by
        unfold Hid
        rw [HE3.out]
        simp only [numOk, decide_eq_true_eq] at h0 h1 h2
        exact elem3_good ⟨⟨h0.1, h1.1, h2.1⟩, h0.2, h1.2, h2.2⟩
      clear HBAD
      go_wp2_with fail
      refine (refuse_no 1 _).mono ?_
      rintro e w' ⟨rfl, rfl⟩
      go_wp2_with fail
      go_region_held3 (fun wx => wx.cell? ⟨g, off, none⟩ = some (.string b0) ∧ wx.cell? ⟨g, off + 1, none⟩ = some (.string b1) ∧ wx.cell? ⟨g, off + 2, none⟩ = some (.string b2)) (go_keep)
        (first | (go_at_call_of 119 (Value.string b0); refine (readNumber_yes b0 _ _ (by unfold maxLen; omega) h0).mono ?_; rintro e w' ⟨rfl, rfl⟩) | (go_at_call_of 119 (Value.string b1); refine (readNumber_yes b1 _ _ (by unfold maxLen; omega) h1).mono ?_; rintro e w' ⟨rfl, rfl⟩) | (go_at_call_of 119 (Value.string b2); refine (readNumber_yes b2 _ _ (by unfold maxLen; omega) h2).mono ?_; rintro e w' ⟨rfl, rfl⟩))
      all_goals go_wp2
      all_goals
        refine bodyPost_ret (v := .agg #[.int .i64 (Tm.num b0.data.toList), .int .i64 (Tm.num b1.data.toList), .int .i64 (Tm.num b2.data.toList), .bool vb]) (by simp [results, Tryd.results130, go_sem, y0, y1, y2, y3]) rfl ⟨elAns_some HN.out rfl, ?_⟩
        (repeat (first | with_reducible exact HB.out | with_reducible refine Below.drew ?_ | with_reducible refine Below.setCell ?_ (by simp) _))
  · have h := HSOME.out
    rw [HE.out, Tm.elem3_short (by rw [← hsp, List.length_map]; exact h3)] at h
    cases h
end Go.Proofs.YthaecjhnlpbfnaaDoor
namespace Go.Proofs.YthaecjhnlpbfnaaDoor
open Go.RowKit

set_option maxRecDepth 100000 in
set_option maxHeartbeats 8000000 in
theorem readElement_none (s : ByteArray) (w : World) (hs : s.size ≤ 8192) (hnone : Tm.elem s.data.toList = none) :
    Calls Tryd.prog 130 #[.string s] w fun e w' => tells e 1 ∧ Below w.heap.size w w' := by
  have hbs := bare_size s
  have HE := hide ((elem_star s).symm.trans hnone)
  clear hnone
  go_enter Tryd.func130, Tryd.ntmps130
  go_wp2_with fail
  refine (CutPrefix_star s _).mono ?_
  rintro e w1 ⟨rfl, rfl⟩
  generalize star s = vb at *
  generalize bare s = sv at *
  go_wp2_with fail
  refine (Split_one sv 46 _ (by omega)).mono ?_
  rintro e w1 ⟨v, bs, rfl, hrd, hsp, hbl, hb⟩
  have HB : Hid (Below w.heap.size w w1) := ((Below.refl _ _).alloc (Nat.le_refl _) _).trans (hb.mono (by simp))
  clear hb
  by_cases h3 : bs.length = 3
  · obtain ⟨b0, b1, b2, rfl⟩ := three_of h3
    obtain ⟨g, off, cap, rfl, hg, c0, c1, c2⟩ := reads3 (by simpa using hrd)
    have hsz := word_sizes hsp (by omega)
    have hs0 := hsz b0 (by simp)
    have hs1 := hsz b1 (by simp)
    have hs2 := hsz b2 (by simp)
    have hE3 : Tm.elem3 vb [b0.data.toList, b1.data.toList, b2.data.toList] = none := by rw [← HE.out, ← hsp]; rfl
    have hway : (numOk 65535 b0.data.toList = false) ∨ (numOk 65535 b0.data.toList = true ∧ numOk 65535 b1.data.toList = false) ∨ (numOk 65535 b0.data.toList = true ∧ numOk 65535 b1.data.toList = true ∧ numOk 65535 b2.data.toList = false) := by
      cases h0 : numOk 65535 b0.data.toList
      · exact .inl rfl
      · cases h1 : numOk 65535 b1.data.toList
        · exact .inr (.inl ⟨rfl, rfl⟩)
        · cases h2 : numOk 65535 b2.data.toList
          · exact .inr (.inr ⟨rfl, rfl, rfl⟩)
          · exfalso
            simp only [numOk, decide_eq_true_eq] at h0 h1 h2
            rw [elem3_good ⟨⟨h0.1, h1.1, h2.1⟩, h0.2, h1.2, h2.2⟩] at hE3
            cases hE3
    have hl3 : (([b0, b1, b2].length : Int) != 3) = false := rfl
    clear hrd hsp hsz h3 hbl hE3 HE
    rcases hway with h0 | ⟨h0, h1⟩ | ⟨h0, h1, h2⟩
    · go_wp2_with fail
      refine (refuse_no 1 _).mono ?_
      rintro e w' ⟨rfl, rfl⟩
      go_wp2_with fail
      go_region_dies
      all_goals (go_at_call_of 119 (Value.string b0); refine (readNumber_no b0 _ _ (by unfold maxLen; omega) h0).mono ?_; rintro e w' ⟨rfl, rfl⟩; exact ⟨rfl, rfl, HB.out.drew⟩)
    · go_wp2_with fail
      refine (refuse_no 1 _).mono ?_
      rintro e w' ⟨rfl, rfl⟩
      go_wp2_with fail
      go_region_dies
      all_goals go_wp2_with (go_at_call_of 119 (Value.string b0); refine (readNumber_yes b0 _ _ (by unfold maxLen; omega) h0).mono ?_; rintro e w' ⟨rfl, rfl⟩)
      all_goals (try (first | (refine wpAny_ready (rs := [7]) (by decide +kernel) (by simp) ?_; refine AllReady.cons rfl (fun K hK => ?_) ?_; go_simp; rotate_left; exact AllReady.nil) | (refine wpAny_ready (rs := [7, 10]) (by decide +kernel) (by simp) ?_; refine AllReady.cons rfl (fun K hK => ?_) ?_; go_simp; rotate_left; refine AllReady.cons rfl (fun K hK => ?_) ?_; go_simp; refine hK _ _ ?_; clear hK K; rotate_left; exact AllReady.nil) | (refine wpAny_ready (rs := [6]) (by decide +kernel) (by simp) ?_; refine AllReady.cons rfl (fun K hK => ?_) ?_; go_simp; refine hK _ _ ?_; clear hK K; rotate_left; exact AllReady.nil) | (refine wpAny_ready (rs := [6, 10]) (by decide +kernel) (by simp) ?_; refine AllReady.cons rfl (fun K hK => ?_) ?_; go_simp; refine hK _ _ ?_; clear hK K; rotate_left; refine AllReady.cons rfl (fun K hK => ?_) ?_; go_simp; refine hK _ _ ?_; clear hK K; rotate_left; exact AllReady.nil)))
      all_goals (try (go_at_call_of 119 (Value.string b1); refine (readNumber_no b1 _ _ (by unfold maxLen; omega) h1).mono ?_; rintro e w' ⟨rfl, rfl⟩; exact ⟨rfl, rfl, HB.out.drew⟩))
      all_goals (try (first | (refine wpAny_ready (rs := [7]) (by decide +kernel) (by simp) ?_; refine AllReady.cons rfl (fun K hK => ?_) ?_; go_simp; rotate_left; exact AllReady.nil) | (refine wpAny_ready (rs := [7, 10]) (by decide +kernel) (by simp) ?_; refine AllReady.cons rfl (fun K hK => ?_) ?_; go_simp; rotate_left; refine AllReady.cons rfl (fun K hK => ?_) ?_; go_simp; refine hK _ _ ?_; clear hK K; rotate_left; exact AllReady.nil) | (refine wpAny_ready (rs := [6]) (by decide +kernel) (by simp) ?_; refine AllReady.cons rfl (fun K hK => ?_) ?_; go_simp; refine hK _ _ ?_; clear hK K; rotate_left; exact AllReady.nil) | (refine wpAny_ready (rs := [6, 10]) (by decide +kernel) (by simp) ?_; refine AllReady.cons rfl (fun K hK => ?_) ?_; go_simp; refine hK _ _ ?_; clear hK K; rotate_left; refine AllReady.cons rfl (fun K hK => ?_) ?_; go_simp; refine hK _ _ ?_; clear hK K; rotate_left; exact AllReady.nil)))
      all_goals (try (go_at_call_of 119 (Value.string b1); refine (readNumber_no b1 _ _ (by unfold maxLen; omega) h1).mono ?_; rintro e w' ⟨rfl, rfl⟩; exact ⟨rfl, rfl, HB.out.drew⟩))
      all_goals (try (first | (refine wpAny_ready (rs := [7]) (by decide +kernel) (by simp) ?_; refine AllReady.cons rfl (fun K hK => ?_) ?_; go_simp; rotate_left; exact AllReady.nil) | (refine wpAny_ready (rs := [7, 10]) (by decide +kernel) (by simp) ?_; refine AllReady.cons rfl (fun K hK => ?_) ?_; go_simp; rotate_left; refine AllReady.cons rfl (fun K hK => ?_) ?_; go_simp; refine hK _ _ ?_; clear hK K; rotate_left; exact AllReady.nil) | (refine wpAny_ready (rs := [6]) (by decide +kernel) (by simp) ?_; refine AllReady.cons rfl (fun K hK => ?_) ?_; go_simp; refine hK _ _ ?_; clear hK K; rotate_left; exact AllReady.nil) | (refine wpAny_ready (rs := [6, 10]) (by decide +kernel) (by simp) ?_; refine AllReady.cons rfl (fun K hK => ?_) ?_; go_simp; refine hK _ _ ?_; clear hK K; rotate_left; refine AllReady.cons rfl (fun K hK => ?_) ?_; go_simp; refine hK _ _ ?_; clear hK K; rotate_left; exact AllReady.nil)))
      all_goals (try (go_at_call_of 119 (Value.string b1); refine (readNumber_no b1 _ _ (by unfold maxLen; omega) h1).mono ?_; rintro e w' ⟨rfl, rfl⟩; exact ⟨rfl, rfl, HB.out.drew⟩))
    · go_wp2_with fail
      refine (refuse_no 1 _).mono ?_
      rintro e w' ⟨rfl, rfl⟩
      go_wp2_with fail
      go_region_dies
      all_goals go_wp2_with (go_at_call_of 119 (Value.string b0); refine (readNumber_yes b0 _ _ (by unfold maxLen; omega) h0).mono ?_; rintro e w' ⟨rfl, rfl⟩)
      all_goals (try (first | (refine wpAny_ready (rs := [11]) (by decide +kernel) (by simp) ?_; refine AllReady.cons rfl (fun K hK => ?_) ?_; go_simp; rotate_left; exact AllReady.nil) | (refine wpAny_ready (rs := [10]) (by decide +kernel) (by simp) ?_; refine AllReady.cons rfl (fun K hK => ?_) ?_; go_simp; refine hK _ _ ?_; clear hK K; rotate_left; exact AllReady.nil) | (refine wpAny_ready (rs := [7]) (by decide +kernel) (by simp) ?_; refine AllReady.cons rfl (fun K hK => ?_) ?_; go_simp; rotate_left; exact AllReady.nil) | (refine wpAny_ready (rs := [7, 10]) (by decide +kernel) (by simp) ?_; refine AllReady.cons rfl (fun K hK => ?_) ?_; go_simp; rotate_left; refine AllReady.cons rfl (fun K hK => ?_) ?_; go_simp; refine hK _ _ ?_; clear hK K; rotate_left; exact AllReady.nil) | (refine wpAny_ready (rs := [6]) (by decide +kernel) (by simp) ?_; refine AllReady.cons rfl (fun K hK => ?_) ?_; go_simp; refine hK _ _ ?_; clear hK K; rotate_left; exact AllReady.nil) | (refine wpAny_ready (rs := [6, 10]) (by decide +kernel) (by simp) ?_; refine AllReady.cons rfl (fun K hK => ?_) ?_; go_simp; refine hK _ _ ?_; clear hK K; rotate_left; refine AllReady.cons rfl (fun K hK => ?_) ?_; go_simp; refine hK _ _ ?_; clear hK K; rotate_left; exact AllReady.nil)))
      all_goals (try (go_at_call_of 119 (Value.string b2); refine (readNumber_no b2 _ _ (by unfold maxLen; omega) h2).mono ?_; rintro e w' ⟨rfl, rfl⟩; exact ⟨rfl, rfl, HB.out.drew⟩))
      all_goals (try (go_wp2_with (go_at_call_of 119 (Value.string b1); refine (readNumber_yes b1 _ _ (by unfold maxLen; omega) h1).mono ?_; rintro e w' ⟨rfl, rfl⟩)))
      all_goals (try (first | (refine wpAny_ready (rs := [11]) (by decide +kernel) (by simp) ?_; refine AllReady.cons rfl (fun K hK => ?_) ?_; go_simp; rotate_left; exact AllReady.nil) | (refine wpAny_ready (rs := [10]) (by decide +kernel) (by simp) ?_; refine AllReady.cons rfl (fun K hK => ?_) ?_; go_simp; refine hK _ _ ?_; clear hK K; rotate_left; exact AllReady.nil) | (refine wpAny_ready (rs := [7]) (by decide +kernel) (by simp) ?_; refine AllReady.cons rfl (fun K hK => ?_) ?_; go_simp; rotate_left; exact AllReady.nil) | (refine wpAny_ready (rs := [7, 10]) (by decide +kernel) (by simp) ?_; refine AllReady.cons rfl (fun K hK => ?_) ?_; go_simp; rotate_left; refine AllReady.cons rfl (fun K hK => ?_) ?_; go_simp; refine hK _ _ ?_; clear hK K; rotate_left; exact AllReady.nil) | (refine wpAny_ready (rs := [6]) (by decide +kernel) (by simp) ?_; refine AllReady.cons rfl (fun K hK => ?_) ?_; go_simp; refine hK _ _ ?_; clear hK K; rotate_left; exact AllReady.nil) | (refine wpAny_ready (rs := [6, 10]) (by decide +kernel) (by simp) ?_; refine AllReady.cons rfl (fun K hK => ?_) ?_; go_simp; refine hK _ _ ?_; clear hK K; rotate_left; refine AllReady.cons rfl (fun K hK => ?_) ?_; go_simp; refine hK _ _ ?_; clear hK K; rotate_left; exact AllReady.nil)))
      all_goals (try (go_at_call_of 119 (Value.string b2); refine (readNumber_no b2 _ _ (by unfold maxLen; omega) h2).mono ?_; rintro e w' ⟨rfl, rfl⟩; exact ⟨rfl, rfl, HB.out.drew⟩))
      all_goals (try (go_wp2_with (go_at_call_of 119 (Value.string b1); refine (readNumber_yes b1 _ _ (by unfold maxLen; omega) h1).mono ?_; rintro e w' ⟨rfl, rfl⟩)))
      all_goals (try (first | (refine wpAny_ready (rs := [11]) (by decide +kernel) (by simp) ?_; refine AllReady.cons rfl (fun K hK => ?_) ?_; go_simp; rotate_left; exact AllReady.nil) | (refine wpAny_ready (rs := [10]) (by decide +kernel) (by simp) ?_; refine AllReady.cons rfl (fun K hK => ?_) ?_; go_simp; refine hK _ _ ?_; clear hK K; rotate_left; exact AllReady.nil) | (refine wpAny_ready (rs := [7]) (by decide +kernel) (by simp) ?_; refine AllReady.cons rfl (fun K hK => ?_) ?_; go_simp; rotate_left; exact AllReady.nil) | (refine wpAny_ready (rs := [7, 10]) (by decide +kernel) (by simp) ?_; refine AllReady.cons rfl (fun K hK => ?_) ?_; go_simp; rotate_left; refine AllReady.cons rfl (fun K hK => ?_) ?_; go_simp; refine hK _ _ ?_; clear hK K; rotate_left; exact AllReady.nil) | (refine wpAny_ready (rs := [6]) (by decide +kernel) (by simp) ?_; refine AllReady.cons rfl (fun K hK => ?_) ?_; go_simp; refine hK _ _ ?_; clear hK K; rotate_left; exact AllReady.nil) | (refine wpAny_ready (rs := [6, 10]) (by decide +kernel) (by simp) ?_; refine AllReady.cons rfl (fun K hK => ?_) ?_; go_simp; refine hK _ _ ?_; clear hK K; rotate_left; refine AllReady.cons rfl (fun K hK => ?_) ?_; go_simp; refine hK _ _ ?_; clear hK K; rotate_left; exact AllReady.nil)))
      all_goals (try (go_at_call_of 119 (Value.string b2); refine (readNumber_no b2 _ _ (by unfold maxLen; omega) h2).mono ?_; rintro e w' ⟨rfl, rfl⟩; exact ⟨rfl, rfl, HB.out.drew⟩))
      all_goals (try (go_wp2_with (go_at_call_of 119 (Value.string b1); refine (readNumber_yes b1 _ _ (by unfold maxLen; omega) h1).mono ?_; rintro e w' ⟨rfl, rfl⟩)))
      all_goals (try (first | (refine wpAny_ready (rs := [11]) (by decide +kernel) (by simp) ?_; refine AllReady.cons rfl (fun K hK => ?_) ?_; go_simp; rotate_left; exact AllReady.nil) | (refine wpAny_ready (rs := [10]) (by decide +kernel) (by simp) ?_; refine AllReady.cons rfl (fun K hK => ?_) ?_; go_simp; refine hK _ _ ?_; clear hK K; rotate_left; exact AllReady.nil) | (refine wpAny_ready (rs := [7]) (by decide +kernel) (by simp) ?_; refine AllReady.cons rfl (fun K hK => ?_) ?_; go_simp; rotate_left; exact AllReady.nil) | (refine wpAny_ready (rs := [7, 10]) (by decide +kernel) (by simp) ?_; refine AllReady.cons rfl (fun K hK => ?_) ?_; go_simp; rotate_left; refine AllReady.cons rfl (fun K hK => ?_) ?_; go_simp; refine hK _ _ ?_; clear hK K; rotate_left; exact AllReady.nil) | (refine wpAny_ready (rs := [6]) (by decide +kernel) (by simp) ?_; refine AllReady.cons rfl (fun K hK => ?_) ?_; go_simp; refine hK _ _ ?_; clear hK K; rotate_left; exact AllReady.nil) | (refine wpAny_ready (rs := [6, 10]) (by decide +kernel) (by simp) ?_; refine AllReady.cons rfl (fun K hK => ?_) ?_; go_simp; refine hK _ _ ?_; clear hK K; rotate_left; refine AllReady.cons rfl (fun K hK => ?_) ?_; go_simp; refine hK _ _ ?_; clear hK K; rotate_left; exact AllReady.nil)))
      all_goals (try (go_at_call_of 119 (Value.string b2); refine (readNumber_no b2 _ _ (by unfold maxLen; omega) h2).mono ?_; rintro e w' ⟨rfl, rfl⟩; exact ⟨rfl, rfl, HB.out.drew⟩))
      all_goals (try (go_wp2_with (go_at_call_of 119 (Value.string b1); refine (readNumber_yes b1 _ _ (by unfold maxLen; omega) h1).mono ?_; rintro e w' ⟨rfl, rfl⟩)))
  · have hl3 : ((bs.length : Int) != 3) = true := by rw [bne_iff_ne]; omega
    obtain ⟨a, cap, rfl⟩ := hrd.shape
    clear hrd hsp hbl HE
    go_wp2_with fail
    refine (refuse_yes 1 _).mono ?_
    rintro e w' ⟨rfl, rfl⟩
    go_wp2
    exact ⟨rfl, rfl, HB.out⟩
end Go.Proofs.YthaecjhnlpbfnaaDoor
