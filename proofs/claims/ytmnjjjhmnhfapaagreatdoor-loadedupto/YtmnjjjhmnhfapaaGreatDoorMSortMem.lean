import Derived.Test.YtmnjjjhmnhfapaaGreatDoorMCodeEnds
namespace Go.Proofs.YtmnjjjhmnhfapaaGreatDoor
set_option maxRecDepth 100000
set_option maxHeartbeats 1000000
open Go.RowKit
variable {g off n j:Nat}{w w':World}{a b c:List Int}
def Qo(w:World)(g off:Nat)(d:List Int):Prop:=∀j x,d[j]?=some x->w.cell? ⟨g,off+j,none⟩=some (.int .i64 x)/\w.frozen? ⟨g,off+j,none⟩=false
structure Zv(g off n:Nat)(w w':World):Prop where
 os:w'.os=w.os
 tape:w'.tape=w.tape
 output:w'.output=w.output
 size:w'.heap.size=w.heap.size
 other:∀k,k≠g->w'.heap[k]?=w.heap[k]?
 cells:∀cur e p,w.heap[g]?=some (.cells cur e p)->∃qaT,w'.heap[g]?=some (.cells qaT e p)/\qaT.size=cur.size/\∀o,o<off\/off+n<=o->qaT[o]?=cur[o]?
theorem Zv.refl(g off n:Nat)(w:World):Zv g off n w w:=⟨rfl,rfl,rfl,rfl,fun _ _=>rfl,fun cur _ _ h=>⟨cur,h,rfl,fun _ _=>rfl⟩⟩
theorem Zv.drew(h:Zv g off n w w'):Zv g off n w w'.drew:=⟨h.os,h.tape,h.output,h.size,h.other,h.cells⟩
theorem Zv.drewN(h:Zv g off n w w')(m:Nat):Zv g off n w (w'.drewN m):=⟨h.os,h.tape,h.output,h.size,h.other,h.cells⟩
theorem Zv.trans{a b c:World}(h:Zv g off n a b)(k:Zv g off n b c):Zv g off n a c:=by
 refine⟨k.os.trans h.os,k.tape.trans h.tape,k.output.trans h.output,k.size.trans h.size,fun i hi=>(k.other i hi).trans (h.other i hi),fun cur e p hc=>?_⟩;obtain⟨c1,h1,h2,h3⟩:=h.cells cur e p hc;obtain⟨c2,k1,k2,k3⟩:=k.cells c1 e p h1;exact⟨c2,k1,k2.trans h2,fun o ho=>(k3 o ho).trans (h3 o ho)⟩
theorem Zv.setCell(h:Zv g off n w w'){o:Nat}(h1:off<=o)(h2:o<off+n)(v:Value):Zv g off n w (w'.setCell ⟨g,o,none⟩ v):=by
 refine h.trans ⟨rfl,rfl,rfl,by simp[World.setCell],fun k hk=>Below.heap_setCell _ _ _ _ hk,fun cur e p hc=>?_⟩;refine⟨cur.setIfInBounds o v,?_,by simp,fun q hq=>?_⟩
 ·simp only[World.setCell,Array.getElem?_modify,hc];rfl
 ·rw[Array.getElem?_setIfInBounds,if_neg (by omega)]
theorem Zv.below{B:Nat}{w0:World}(h:Zv g off n w w')(hb:Below B w0 w)(hg:B<=g):Below B w0 w' :=
 hb.trans ⟨h.os,h.tape,h.output,by rw[h.size];exact Nat.le_refl _,fun k hk=>h.other k (by omega)⟩
theorem Qo.at{d:List Int}(h:Qo w g off d)(hj:j<d.length):w.cell? ⟨g,off+j,none⟩=some (.int .i64 d[j])/\w.frozen? ⟨g,off+j,none⟩=false:=h j d[j] (by simp[hj])
theorem Qo.swap{x y:Int}{i:Nat}(h:Qo w g off (a++x::(b++y::c)))(hi:i=a.length)(hj:j=a.length+1+b.length) :
  Qo ((w.setCell ⟨g,off+i,none⟩ (.int .i64 y)).setCell ⟨g,off+j,none⟩ (.int .i64 x)) g off (a++y::(b++x::c)):=by
 subst hi hj;have hx:=h a.length x (by simp);have hy:=h (a.length+1+b.length) y (by rw[List.getElem?_append_right (by omega),show a.length+1+b.length-a.length=b.length+1 from by omega];simp);intro q u hu;rw[World.frozen?_setCell,World.frozen?_setCell];by_cases e1:q=a.length+1+b.length
 ·subst e1;rw[List.getElem?_append_right (by omega),show a.length+1+b.length-a.length=b.length+1 from by omega]at hu;simp at hu;subst hu;exact⟨World.cell?_setCell_same _ _ _ ((World.cell?_setCell_other _ _ _ _ (by simp<;>omega)).trans hy.1),hy.2⟩
 ·rw[World.cell?_setCell_other _ _ _ _ (by simp<;>omega)]
  by_cases e2:q=a.length
  ·subst e2;simp at hu;subst hu;exact⟨World.cell?_setCell_same _ _ _ hx.1,hx.2⟩
  ·rw[World.cell?_setCell_other _ _ _ _ (by simp<;>omega)]
   refine h q u ?_;rw[<-hu];by_cases e3:q<a.length
   ·rw[List.getElem?_append_left e3,List.getElem?_append_left e3]
   ·rw[List.getElem?_append_right (by omega),List.getElem?_append_right (by omega)];obtain⟨t,ht⟩:∃t,q-a.length=t+1:=⟨q-a.length-1,by omega⟩
    rw[ht,List.getElem?_cons_succ,List.getElem?_cons_succ];by_cases e4:t<b.length
    ·rw[List.getElem?_append_left e4,List.getElem?_append_left e4]
    ·rw[List.getElem?_append_right (by omega),List.getElem?_append_right (by omega)];obtain⟨s,hs⟩:∃s,t-b.length=s+1:=⟨t-b.length-1,by omega⟩
     rw[hs,List.getElem?_cons_succ,List.getElem?_cons_succ]
theorem Qo.qvR{x y:Int}{i:Nat}(h:Qo w g off (a++x::(b++y::c)))(hi:i=a.length)(hj:j=a.length+1+b.length) :
  Qo ((w.setCell ⟨g,off+j,none⟩ (.int .i64 x)).setCell ⟨g,off+i,none⟩ (.int .i64 y)) g off (a++y::(b++x::c)):=by
 subst hi hj;have hx:=h a.length x (by simp);have hy:=h (a.length+1+b.length) y (by rw[List.getElem?_append_right (by omega),show a.length+1+b.length-a.length=b.length+1 from by omega];simp);intro q u hu;rw[World.frozen?_setCell,World.frozen?_setCell];by_cases e1:q=a.length+1+b.length
 ·subst e1;rw[List.getElem?_append_right (by omega),show a.length+1+b.length-a.length=b.length+1 from by omega]at hu;simp at hu;subst hu;rw[World.cell?_setCell_other _ _ _ _ (by simp<;>omega)]
  exact⟨World.cell?_setCell_same _ _ _ hy.1,hy.2⟩
 ·by_cases e2:q=a.length
  ·subst e2;simp at hu;subst hu;exact⟨World.cell?_setCell_same _ _ _ ((World.cell?_setCell_other _ _ _ _ (by simp<;>omega)).trans hx.1),hx.2⟩
  ·rw[World.cell?_setCell_other _ _ _ _ (by simp<;>omega),World.cell?_setCell_other _ _ _ _ (by simp<;>omega)]
   refine h q u ?_;rw[<-hu];by_cases e3:q<a.length
   ·rw[List.getElem?_append_left e3,List.getElem?_append_left e3]
   ·rw[List.getElem?_append_right (by omega),List.getElem?_append_right (by omega)];obtain⟨t,ht⟩:∃t,q-a.length=t+1:=⟨q-a.length-1,by omega⟩
    rw[ht,List.getElem?_cons_succ,List.getElem?_cons_succ];by_cases e4:t<b.length
    ·rw[List.getElem?_append_left e4,List.getElem?_append_left e4]
    ·rw[List.getElem?_append_right (by omega),List.getElem?_append_right (by omega)];obtain⟨s,hs⟩:∃s,t-b.length=s+1:=⟨t-b.length-1,by omega⟩
     rw[hs,List.getElem?_cons_succ,List.getElem?_cons_succ]
def yh(a b:Int):Int:=if a<b then -1 else if b<a then 1 else 0
theorem qbq{a b:Int}:decide (yh a b<0)=decide (a<b):=by
 unfold yh;by_cases h:a<b
 ·simp[h]
 ·rw[if_neg h];by_cases h2:b<a
  ·simp[h,h2]
  ·simp[h,h2]
theorem qbc(a:Int)(w:World):Calls Tryz.prog 169 #[.int .i64 a] w fun e w'=>e=.returned (.bool false)/\w'=w:=by
 go_enter Tryz.func169,Tryz.ntmps169
 go_wp2;go_ret;refine⟨ja (by simp),rfl⟩
theorem Qhh(a b:Int)(w:World):Calls Tryz.prog 135 #[.int .i64 a,.int .i64 b] w fun e w'=>e=.returned (.int .i64 (yh a b))/\w'=w:=by
 have HC:Hid (yh a b=if a<b then -1 else if b<a then 1 else 0):=rfl;by_cases h1:a<b
 ·have hd:decide (a<b)=true:=by simpa using h1
  go_enter Tryz.func135,Tryz.ntmps135
  go_wp2_with fail
  refine(qbc a _).mono ?_;rintro e w' ⟨rfl,rfl⟩;go_wp2_with fail
  refine(qbc b _).mono ?_;rintro e w' ⟨rfl,rfl⟩;go_wp2;go_ret;exact⟨yf (by rw[HC.out,if_pos (by omega)]),rfl⟩
 ·have hd:decide (a<b)=false:=by simpa using h1
  by_cases h2:b<a
  ·have hd2:decide (b<a)=true:=by simpa using h2
   go_enter Tryz.func135,Tryz.ntmps135
   go_wp2_with fail
   refine(qbc a _).mono ?_;rintro e w' ⟨rfl,rfl⟩;go_wp2_with fail
   refine(qbc b _).mono ?_;rintro e w' ⟨rfl,rfl⟩;go_wp2;go_ret;exact⟨yf (by rw[HC.out,if_neg (by omega),if_pos (by omega)]),rfl⟩
  ·have hd2:decide (b<a)=false:=by simpa using h2
   go_enter Tryz.func135,Tryz.ntmps135
   go_wp2_with fail
   refine(qbc a _).mono ?_;rintro e w' ⟨rfl,rfl⟩;go_wp2_with fail
   refine(qbc b _).mono ?_;rintro e w' ⟨rfl,rfl⟩;go_wp2;go_ret;exact⟨yf (by rw[HC.out,if_neg (by omega),if_neg (by omega)]),rfl⟩
theorem qoR(c:Int)(w:World):(Instr.field 244 (.agg #[.int .i64 c]) 0).run Tryz.prog w=.ok (.int .i64 c) w:=by kernel_rfl
theorem qn4(lns:List Tm.Ln)(bm:Nat)(a b:Int)(w:World)(hrd:ZX w bm lns)(ha:0<=a/\a<=1114111)(hb:0<=b/\b<=1114111) :
  Calls Tryz.prog 166 #[.map (some bm),.int .i64 a,.int .i64 b] w fun e w'=>e=.returned (.int .i64 (yh (Tm.qd lns a) (Tm.qd lns b)))/\w'=w:=by
 obtain⟨f,yq,hok⟩:=hrd;obtain⟨vp,vs,hfa,_,_⟩:=hok a ha.1;obtain⟨vp',vs',hfb,_,_⟩:=hok b hb.1;have YY:=qb yq;have hf1:=qiH;have hf2:=qoR;clear yq hok;go_enter Tryz.func166,Tryz.ntmps166
 go_wp2_with (at_lookup;first|(refine zQ rfl _ _ rfl bm lns.length f rfl YY.out a rfl (yV ha) _ hfa ?_)|(refine zQ rfl _ _ rfl bm lns.length f rfl YY.out b rfl (yV hb) _ hfb ?_))
 refine(Qhh _ _ _).mono ?_;rintro e w' ⟨rfl,rfl⟩;go_wp2;go_ret;exact⟨rfl,rfl⟩
