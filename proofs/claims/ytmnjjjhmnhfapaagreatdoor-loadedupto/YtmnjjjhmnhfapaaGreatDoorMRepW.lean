import Derived.Test.YtmnjjjhmnhfapaaGreatDoorMCodeSeqs
namespace Go.Proofs.YtmnjjjhmnhfapaaGreatDoor
open Go.RowKit
variable {lns:List Tm.Ln}{xs:List (Value×Value)}{x:Value×Value}
theorem Rep.yX{w w4:World}{o:Obj}{col:Nat->Int}{base bd bm:Nat}{line:Int}{vp vw v':Value}{l:Tm.Ln}{xs:List (Value×Value)}{x:Value×Value}(hdr:Dr w col base bd bm line vp vw)(hnd:Nd w col base bm (lns++[l]))(hpt:Pt w col base vp lns)
  (hxl:xs.length=(Tm.zi lns).length) (jV:Row w col base 240 3 (-5) vw (Tm.zi lns).length (zV true xs (Tm.zi lns))) (hok:∀k (h:k<(Tm.zi lns).length) (h':k<xs.length),Qce w col xs[k] (Tm.zi lns)[k]) (hx:Qce w col x l)
  (qR:∀o∈lns,Tm.Fit o) (zU:∀g,g<base->col g≠-1) (hl:Tm.Fit l) (hk:l.kind=[119])
  (qp:w4.ownsRow base 240 3 v' ((Tm.zi lns).length+1) (zV true xs (Tm.zi lns)++[.int .i64 l.num,x.1,x.2])) (hg:(w.drew.alloc o).grownBy w4 vw.ownBlock) (hat:v'.ownBlock=vw.ownBlock\/v'.ownBlock=some (w.drew.alloc o).heap.size) :
  Rep (w4.setCell ⟨bd,3,none⟩ v') (jB col (w.drew.alloc o).heap.size (-5)) base bd bm line vp v' (lns++[l]):=by
 have hsz:(w.drew.alloc o).heap.size=w.heap.size+1:=by simp
 have hbl:∀g,g<w.heap.size->(w.drew.alloc o).heap[g]?=w.heap[g]?:=fun g hg=>Below.heap_alloc w.drew o g hg;have hlt:=hdr.lt
 have hw4:w.heap.size+1<=w4.heap.size:=by have:=hg.size;omega
 have qmo:vw.ownBlock≠some bd:=fun e=>by have:=jV.2 bd e;rw[hdr.hue]at this;omega
 have qqn:v'.ownBlock≠some bd:=by
  rcases hat with e|e
  ·rw[e];exact qmo
  ·rw[e,hsz];simp;omega
 have k0:ZS w w4 col (jB col (w.drew.alloc o).heap.size (-5)) (· ≠-5):=by
  refine⟨by omega,fun g hg' hc=>?_,fun g hg'=>by unfold jB;rw[if_neg (by omega)]⟩;rw[hg.block g (by omega) (fun e=>hc (jV.2 g e.symm)),hbl g hg']
 have k:ZS w (w4.setCell ⟨bd,3,none⟩ v') col (jB col (w.drew.alloc o).heap.size (-5)) (fun c=>c≠-5/\c≠-3):=by
  refine⟨by simp[World.setCell];omega,fun g hg' hc=>?_,k0.same⟩;rw[Below.heap_setCell _ _ _ _ (by simp only;intro e;subst e;exact hc.2 hdr.hue)];exact k0.block g hg' hc.1
 have d0:=hdr.zc k0 (by decide);refine⟨⟨d0.hue,d0.from_,by simpa[World.setCell]using d0.lt,?_,?_,?_,?_,fun q=>?_⟩,?_,?_,?_,qhR qR hl,fun q hq=>by rw[k0.same q (by have:=hdr.from_;omega)];exact zU q hq⟩
 ·rw[World.cell?_setCell_other _ _ _ _ (by simp)];exact d0.c0
 ·rw[World.cell?_setCell_other _ _ _ _ (by simp)];exact d0.c1
 ·rw[World.cell?_setCell_other _ _ _ _ (by simp)];exact d0.c2
 ·exact World.cell?_setCell_same _ _ _ d0.c3
 ·rw[World.frozen?_setCell];exact d0.free q
 ·exact hnd.zc k (by decide) (by decide) (fun r hr=>by omega)
 ·unfold Pt;rw[Tm.qd9,if_neg (by rw[hk];simp)];exact hpt.zc k (by decide)
 ·unfold Wt;rw[Tm.qea,if_pos hk];refine Ji.snoc hxl hok hx k (by decide) ?_ ?_
  ·exact qO qp (fun g hg'=>Below.heap_setCell _ _ _ _ (by simp only;intro e;subst e;exact qqn hg'))
  ·intro g hg';rcases hat with e|e
   ·rw[e]at hg';have h1:=jV.2 g hg';unfold jB;split
    ·rfl
    ·exact h1
   ·rw[e]at hg';cases hg';unfold jB;rw[if_pos rfl]
theorem Nd.grown{w wD w5 w6 w7:World}{o:Obj}{col:Nat->Int}{base bm nb:Nat}{lns:List Tm.Ln}{f:Int->Value}{r:Int}{l:Tm.Ln}{pv sv sv':Value}{xs:List (Value×Value)}{x:Value×Value}
  (hnd:Nd w col base bm lns) (qQ:∀y,0<=y->Xz w col base lns y (f y)) (hk:l.kind=[119]) (hr1:l.qh.getD 0 0=r) (hr:0<=r) (hp:Data w col pv 1 (Tm.parts lns r).length (ints (Tm.parts lns r)))
  (hxl:xs.length=(Tm.qI lns r).length) (jV:Row w col base 238 2 r sv (Tm.qI lns r).length (zV false xs (Tm.qI lns r))) (hok:∀k (h:k<(Tm.qI lns r).length) (h':k<xs.length),Qce w col xs[k] (Tm.qI lns r)[k]) (hx:Qce w col x l)
  (hD:Below w.heap.size w wD) (hnb:w.heap.size<=nb/\nb<wD.heap.size)
  (qp:w5.ownsRow base 238 2 sv' ((Tm.qI lns r).length+1) (zV false xs (Tm.qI lns r)++[x.1,x.2])) (hg:(wD.alloc o).grownBy w5 sv.ownBlock) (hat:sv'.ownBlock=sv.ownBlock\/sv'.ownBlock=some (wD.alloc o).heap.size)
  (h6:w6=(w5.setCell ⟨nb,2,none⟩ sv').drew) (hg7:w6.grownBy w7 (some bm)) (hm:Yi w7 bm (lns.length+1) (upd f r (.agg #[.int .i64 (Tm.qd lns r),pv,sv']))) :
  Nd w7 (jB col (wD.alloc o).heap.size r) base bm (lns++[l])/\ZS w w7 col (jB col (wD.alloc o).heap.size r) (fun c=>c≠-2/\c≠r):=by
 subst h6
 have hsz:(wD.alloc o).heap.size=wD.heap.size+1:=by simp
 have hDs:=hD.size
 have qBu:bm<w.heap.size:=by obtain⟨_,_,f0,hf0,_⟩:=hnd;exact hf0.lt
 have h5:wD.heap.size+1<=w5.heap.size:=by have:=hg.size;omega
 have h6s:((w5.setCell ⟨nb,2,none⟩ sv').drew).heap.size=w5.heap.size:=by simp[World.setCell,World.drew]
 have h7:=hg7.size
 have qAA:sv'.ownBlock≠some bm:=by
  rcases hat with e|e
  ·rw[e];intro e2;have:=jV.2 bm e2;rw[hnd.hue]at this;omega
  ·rw[e,hsz];simp;omega
 have qAB:sv'.ownBlock≠some nb:=by
  rcases hat with e|e
  ·rw[e];intro e2;have:=(jV.1.lt nb e2).2;omega
  ·rw[e,hsz];simp;omega
 have e6:∀g,g≠nb->((w5.setCell ⟨nb,2,none⟩ sv').drew).heap[g]?=w5.heap[g]?:=fun g hne=>Below.heap_setCell w5 ⟨nb,2,none⟩ sv' g hne
 have k:ZS w w7 col (jB col (wD.alloc o).heap.size r) (fun c=>c≠-2/\c≠r):=by
  refine⟨by omega,fun g hg' hc=>?_,fun g hg'=>by unfold jB;rw[if_neg (by omega)]⟩;rw[hg7.block g (by omega) (fun e=>by cases e;exact hc.1 hnd.hue),e6 g (by omega),hg.block g (by omega) (fun e=>hc.2 (jV.2 g e.symm)),Below.heap_alloc wD o g (by omega),hD.block g hg']
 refine⟨?_,k⟩;refine hnd.yX qQ hk hr1 hp ?_ hr hm k;refine Ji.snoc hxl hok hx k (by omega) ?_ ?_
 ·refine qO qp (fun g hg'=>?_);have hlt:g<w5.heap.size:=(qp.lt g hg').2;rw[hg7.block g (by omega) (fun e=>by cases e;exact qAA hg'),e6 g (fun e=>by subst e;exact qAB hg')]
 ·intro g hg';rcases hat with e|e
  ·rw[e]at hg';have h1:=jV.2 g hg';unfold jB;split
   ·rfl
   ·exact h1
  ·rw[e]at hg';cases hg';unfold jB;rw[if_pos rfl]
