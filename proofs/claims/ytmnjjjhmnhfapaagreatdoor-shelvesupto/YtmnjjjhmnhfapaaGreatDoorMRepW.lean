import Derived.Test.YtmnjjjhmnhfapaaGreatDoorMCodeSeqs
namespace Go.Proofs.YtmnjjjhmnhfapaaGreatDoor
open Go.RowKit
theorem Rep.weigh {w w4 : World} {o : Obj} {col : Nat → Int} {base bd bm : Nat} {line : Int} {vp vw v' : Value} {lns : List Tm.Ln} {l : Tm.Ln} {xs : List (Value × Value)} {x : Value × Value} (hdr : Dr w col base bd bm line vp vw) (hnd : Nd w col base bm (lns ++ [l])) (hpt : Pt w col base vp lns)
  (hxl : xs.length = (Tm.wLines lns).length) (hrow : Row w col base 240 3 (-5) vw (Tm.wLines lns).length (seqCells true xs (Tm.wLines lns))) (hok : ∀ k (h : k < (Tm.wLines lns).length) (h' : k < xs.length), SeqOk w col xs[k] (Tm.wLines lns)[k]) (hx : SeqOk w col x l)
  (hfit : ∀ o ∈ lns, Tm.Fit o) (hlow : ∀ g, g < base → col g ≠ -1) (hl : Tm.Fit l) (hk : l.kind = [119])
  (hown : w4.ownsRow base 240 3 v' ((Tm.wLines lns).length + 1) (seqCells true xs (Tm.wLines lns) ++ [.int .i64 l.num, x.1, x.2])) (hg : (w.drew.alloc o).grownBy w4 vw.ownBlock) (hat : v'.ownBlock = vw.ownBlock ∨ v'.ownBlock = some (w.drew.alloc o).heap.size) :
  Rep (w4.setCell ⟨bd, 3, none⟩ v') (recol col (w.drew.alloc o).heap.size (-5)) base bd bm line vp v' (lns ++ [l]) := by
 have hsz : (w.drew.alloc o).heap.size = w.heap.size + 1 := by simp
 have hbl : ∀ g, g < w.heap.size → (w.drew.alloc o).heap[g]? = w.heap[g]? := fun g hg => Below.heap_alloc w.drew o g hg
 have hlt := hdr.lt
 have hw4 : w.heap.size + 1 ≤ w4.heap.size := by have := hg.size; omega
 have hneb : vw.ownBlock ≠ some bd := fun e => by have := hrow.2 bd e; rw [hdr.hue] at this; omega
 have hneb' : v'.ownBlock ≠ some bd := by
  rcases hat with e | e
  ·rw [e]; exact hneb
  ·rw [e, hsz]; simp; omega
 have k0 : Keeps w w4 col (recol col (w.drew.alloc o).heap.size (-5)) (· ≠ -5) := by
  refine ⟨by omega, fun g hg' hc => ?_, fun g hg' => by unfold recol; rw [if_neg (by omega)]⟩
  rw [hg.block g (by omega) (fun e => hc (hrow.2 g e.symm)), hbl g hg']
 have k : Keeps w (w4.setCell ⟨bd, 3, none⟩ v') col (recol col (w.drew.alloc o).heap.size (-5)) (fun c => c ≠ -5 ∧ c ≠ -3) := by
  refine ⟨by simp [World.setCell]; omega, fun g hg' hc => ?_, k0.same⟩
  rw [Below.heap_setCell _ _ _ _ (by simp only; intro e; subst e; exact hc.2 hdr.hue)]
  exact k0.block g hg' hc.1
 have d0 := hdr.keep k0 (by decide)
 refine ⟨⟨d0.hue, d0.from_, by simpa [World.setCell] using d0.lt, ?_, ?_, ?_, ?_, fun q => ?_⟩, ?_, ?_, ?_, fit_snoc hfit hl, fun q hq => by rw [k0.same q (by have := hdr.from_; omega)]; exact hlow q hq⟩
 ·rw [World.cell?_setCell_other _ _ _ _ (by simp)]; exact d0.c0
 ·rw [World.cell?_setCell_other _ _ _ _ (by simp)]; exact d0.c1
 ·rw [World.cell?_setCell_other _ _ _ _ (by simp)]; exact d0.c2
 ·exact World.cell?_setCell_same _ _ _ d0.c3
 ·rw [World.frozen?_setCell]; exact d0.free q
 ·exact hnd.keep k (by decide) (by decide) (fun r hr => by omega)
 ·unfold Pt
  rw [Tm.dLines_snoc, if_neg (by rw [hk]; simp)]
  exact hpt.keep k (by decide)
 ·unfold Wt
  rw [Tm.wLines_snoc, if_pos hk]
  refine SeqRow.snoc hxl hok hx k (by decide) ?_ ?_
  ·exact ownsRow_same hown (fun g hg' => Below.heap_setCell _ _ _ _ (by simp only; intro e; subst e; exact hneb' hg'))
  ·intro g hg'
   rcases hat with e | e
   ·rw [e] at hg'
    have h1 := hrow.2 g hg'
    unfold recol
    split
    ·rfl
    ·exact h1
   ·rw [e] at hg'; cases hg'
    unfold recol; rw [if_pos rfl]
theorem Nd.grown {w wD w5 w6 w7 : World} {o : Obj} {col : Nat → Int} {base bm nb : Nat} {lns : List Tm.Ln} {f : Int → Value} {r : Int} {l : Tm.Ln} {pv sv sv' : Value} {xs : List (Value × Value)} {x : Value × Value}
  (hnd : Nd w col base bm lns) (hall : ∀ y, 0 ≤ y → NodeOk w col base lns y (f y)) (hk : l.kind = [119]) (hr1 : l.runes.getD 0 0 = r) (hr : 0 ≤ r) (hp : Data w col pv 1 (Tm.parts lns r).length (ints (Tm.parts lns r)))
  (hxl : xs.length = (Tm.seqsAt lns r).length) (hrow : Row w col base 238 2 r sv (Tm.seqsAt lns r).length (seqCells false xs (Tm.seqsAt lns r))) (hok : ∀ k (h : k < (Tm.seqsAt lns r).length) (h' : k < xs.length), SeqOk w col xs[k] (Tm.seqsAt lns r)[k]) (hx : SeqOk w col x l)
  (hD : Below w.heap.size w wD) (hnb : w.heap.size ≤ nb ∧ nb < wD.heap.size)
  (hown : w5.ownsRow base 238 2 sv' ((Tm.seqsAt lns r).length + 1) (seqCells false xs (Tm.seqsAt lns r) ++ [x.1, x.2])) (hg : (wD.alloc o).grownBy w5 sv.ownBlock) (hat : sv'.ownBlock = sv.ownBlock ∨ sv'.ownBlock = some (wD.alloc o).heap.size)
  (h6 : w6 = (w5.setCell ⟨nb, 2, none⟩ sv').drew) (hg7 : w6.grownBy w7 (some bm)) (hm : MapIs w7 bm (lns.length + 1) (upd f r (.agg #[.int .i64 (Tm.classOf lns r), pv, sv']))) :
  Nd w7 (recol col (wD.alloc o).heap.size r) base bm (lns ++ [l]) ∧ Keeps w w7 col (recol col (wD.alloc o).heap.size r) (fun c => c ≠ -2 ∧ c ≠ r) := by
 subst h6
 have hsz : (wD.alloc o).heap.size = wD.heap.size + 1 := by simp
 have hDs := hD.size
 have hbml : bm < w.heap.size := by obtain ⟨_, _, f0, hf0, _⟩ := hnd; exact hf0.lt
 have h5 : wD.heap.size + 1 ≤ w5.heap.size := by have := hg.size; omega
 have h6s : ((w5.setCell ⟨nb, 2, none⟩ sv').drew).heap.size = w5.heap.size := by simp [World.setCell, World.drew]
 have h7 := hg7.size
 have hnbm : sv'.ownBlock ≠ some bm := by
  rcases hat with e | e
  ·rw [e]; intro e2; have := hrow.2 bm e2; rw [hnd.hue] at this; omega
  ·rw [e, hsz]; simp; omega
 have hnnb : sv'.ownBlock ≠ some nb := by
  rcases hat with e | e
  ·rw [e]; intro e2; have := (hrow.1.lt nb e2).2; omega
  ·rw [e, hsz]; simp; omega
 have e6 : ∀ g, g ≠ nb → ((w5.setCell ⟨nb, 2, none⟩ sv').drew).heap[g]? = w5.heap[g]? := fun g hne => Below.heap_setCell w5 ⟨nb, 2, none⟩ sv' g hne
 have k : Keeps w w7 col (recol col (wD.alloc o).heap.size r) (fun c => c ≠ -2 ∧ c ≠ r) := by
  refine ⟨by omega, fun g hg' hc => ?_, fun g hg' => by unfold recol; rw [if_neg (by omega)]⟩
  rw [hg7.block g (by omega) (fun e => by cases e; exact hc.1 hnd.hue), e6 g (by omega), hg.block g (by omega) (fun e => hc.2 (hrow.2 g e.symm)), Below.heap_alloc wD o g (by omega), hD.block g hg']
 refine ⟨?_, k⟩
 refine hnd.weigh hall hk hr1 hp ?_ hr hm k
 refine SeqRow.snoc hxl hok hx k (by omega) ?_ ?_
 ·refine ownsRow_same hown (fun g hg' => ?_)
  have hlt : g < w5.heap.size := (hown.lt g hg').2
  rw [hg7.block g (by omega) (fun e => by cases e; exact hnbm hg'), e6 g (fun e => by subst e; exact hnnb hg')]
 ·intro g hg'
  rcases hat with e | e
  ·rw [e] at hg'
   have h1 := hrow.2 g hg'
   unfold recol
   split
   ·rfl
   ·exact h1
  ·rw [e] at hg'; cases hg'
   unfold recol; rw [if_pos rfl]
end Go.Proofs.YtmnjjjhmnhfapaaGreatDoor
