import Derived.Deep.RegionLaw
import Derived.Test.YtmnjjjhmnhfapaaGreatDoorMCodeRank
namespace Go.Proofs.YtmnjjjhmnhfapaaGreatDoor
set_option maxRecDepth 100000
set_option maxHeartbeats 1000000
open Go.RowKit
variable {w:World}{col:Nat->Int}{lns:List Tm.Ln}
theorem vY{P:Program}{ops:Array Oper}{o:Oper}{a:Act}{w:World}{K:Act->World->Prop}{Q:Exit->Act->World->Prop}{E:Prop}(hgd:o.guard=none)(s x:Operand)(t:TypeId)
  (ho:o.op=.call {callee:=.builtin .append,args:=#[s,x],argTypes:=#[t,t]})
  (base:Nat) (e:TypeId) (i:TypeInfo) (z:Value) (size bytes:Nat) (ht:P.underlying t=some (.slice e)) (hi:P.info? e=some i) (hz:i.zero=some z)
  (xV:i.size=size) (hby:i.bytes=bytes) (hzs:z.cells.size=size) (hsz:0<size)
  (v:Value) (n:Nat) (xs:List Value) (hs:a.eval s=v) (qp:w.ownsRow base e size v n xs)
  (ad:Addr) (m c:Nat) (news:List Value) (hx:a.eval x=.slice (some ad) m c) (hl:news.length=m * size) (qbm:∀j u,news[j]?=some u->w.cell? (ad.add j)=some u) (h1:∀u∈news,u.oneCell'=true)
  (h63:n+m<=maxLen) (qcr:(n+m) * bytes<=140737488355328) (jl:base<=w.heap.size)
  (h:∀v' w',w'.ownsRow base e size v' (n+m) (xs++news)->w.grownBy w' v.ownBlock->(v'.ownBlock=v.ownBlock\/v'.ownBlock=some w.heap.size)->K (a.put o.dst v') w') :
  if Region.wanted o (yielded ops a.tmps)=true then Oper.wp P o a w K Q else E:=by
 have hw:Region.wanted o (yielded ops a.tmps)=true:=by simp[Region.wanted,hgd]
 rw[if_pos hw];obtain⟨v',w',hr,h2,h3,_,h5⟩:=run_append_own_at (P:=P) w base t o.type e i z size bytes ht hi hz xV hby hzs hsz v n xs qp ad m c news hl qbm h1 h63 qcr jl;unfold Oper.wp execOp;simp only[ho,resolve,invoke,builtin,Sem.run_bind,Sem.run_pure,Result.andThen_ok,List.map_toArray,List.map_cons,List.map_nil,hs,hx,hr];exact h v' w' h2 h3 h5
def yA(col:Nat->Int)(B:Nat):Nat->Int:=fun g=>if g<B then col g else -1
theorem Rep.fresh{base bd bm:Nat}{line:Int}{vp vw:Value}(h:Rep w col base bd bm line vp vw lns):Rep w (yA col w.heap.size) base bd bm line vp vw lns :=
 h.zc ⟨Nat.le_refl _,fun _ _ _=>rfl,fun g hg=>by unfold yA;rw[if_pos hg]⟩
theorem qdj{B g:Nat}(h:B<=g):yA col B g=-1:=by unfold yA;rw[if_neg (by omega)]
theorem qko(lns:List Tm.Ln):(Tm.zo lns).length<=lns.length:=List.length_filter_le _ _
theorem qdL(lns:List Tm.Ln):(Tm.zi lns).length<=lns.length:=List.length_filter_le _ _
theorem qf6(lns:List Tm.Ln)(r:Int):(Tm.qI lns r).length<=lns.length:=List.length_filter_le _ _
theorem Rep.parts{w4:World}{o:Obj}{base bd bm:Nat}{line:Int}{vp vw v':Value}{l:Tm.Ln}(hdr:Dr w col base bd bm line vp vw)(hnd:Nd w col base bm (lns++[l]))(hpt:Pt w col base vp lns)(hwt:Wt w col base vw lns)(qR:∀o∈lns,Tm.Fit o)(zU:∀g,g<base->col g≠-1)(hl:Tm.Fit l)(hk:l.kind=[100])
  (qp:w4.ownsRow base 234 2 v' ((Tm.zo lns).length+1) (jJ (Tm.zo lns)++[.int .i64 l.num,.int .i64 (l.qh.getD 0 0)])) (hg:(w.drew.alloc o).grownBy w4 vp.ownBlock) (hat:v'.ownBlock=vp.ownBlock\/v'.ownBlock=some (w.drew.alloc o).heap.size) :
  Rep (w4.setCell ⟨bd,2,none⟩ v') (jB col (w.drew.alloc o).heap.size (-4)) base bd bm line v' vw (lns++[l]):=by
 have hsz:(w.drew.alloc o).heap.size=w.heap.size+1:=by simp
 have hbl:∀g,g<w.heap.size->(w.drew.alloc o).heap[g]?=w.heap[g]?:=fun g hg=>Below.heap_alloc w.drew o g hg;have hlt:=hdr.lt
 have hw4:w.heap.size+1<=w4.heap.size:=by have:=hg.size;omega
 have qmo:vp.ownBlock≠some bd:=fun e=>by have:=hpt.2 bd e;rw[hdr.hue]at this;omega
 have qqn:v'.ownBlock≠some bd:=by
  rcases hat with e|e
  ·rw[e];exact qmo
  ·rw[e,hsz];simp;omega
 have k0:ZS w w4 col (jB col (w.drew.alloc o).heap.size (-4)) (· ≠-4):=by
  refine⟨by omega,fun g hg' hc=>?_,fun g hg'=>by unfold jB;rw[if_neg (by omega)]⟩;rw[hg.block g (by omega) (fun e=>hc (hpt.2 g e.symm)),hbl g hg']
 have k:ZS w (w4.setCell ⟨bd,2,none⟩ v') col (jB col (w.drew.alloc o).heap.size (-4)) (fun c=>c≠-4/\c≠-3):=by
  refine⟨by simp[World.setCell];omega,fun g hg' hc=>?_,k0.same⟩;rw[Below.heap_setCell _ _ _ _ (by simp only;intro e;subst e;exact hc.2 hdr.hue)];exact k0.block g hg' hc.1
 have d0:=hdr.zc k0 (by decide);refine⟨⟨d0.hue,d0.from_,by simpa[World.setCell]using d0.lt,?_,?_,?_,?_,fun q=>?_⟩,?_,?_,?_,qhR qR hl,fun q hq=>by rw[k0.same q (by have:=hdr.from_;omega)];exact zU q hq⟩
 ·rw[World.cell?_setCell_other _ _ _ _ (by simp)];exact d0.c0
 ·rw[World.cell?_setCell_other _ _ _ _ (by simp)];exact d0.c1
 ·exact World.cell?_setCell_same _ _ _ d0.c2
 ·rw[World.cell?_setCell_other _ _ _ _ (by simp)];exact d0.c3
 ·rw[World.frozen?_setCell];exact d0.free q
 ·exact hnd.zc k (by decide) (by decide) (fun r hr=>by omega)
 ·unfold Pt;rw[Tm.qd9,if_pos hk,qjD];refine⟨?_,?_⟩
  ·exact qO (by simpa using qp) (fun g hg'=>Below.heap_setCell _ _ _ _ (by simp only;intro e;subst e;exact qqn hg'))
  ·intro g hg';rcases hat with e|e
   ·rw[e]at hg';have h1:=hpt.2 g hg';unfold jB;split
    ·rfl
    ·exact h1
   ·rw[e]at hg';cases hg';unfold jB;rw[if_pos rfl]
 ·unfold Wt;rw[Tm.qea,if_neg (by rw[hk];simp)];exact hwt.zc k (by decide) (by decide)
theorem qh0{x y:Value}{t:TypeId}{H:Nat}(hH:w.heap.size=H):∀j u,[x,y][j]?=some u->(w.alloc (.cells #[x,y] t)).cell? ((⟨H,0,none⟩:Addr).add j)=some u:=by
 subst hH;intro j u hj
 match j,hj with
 | 0,hj=>simp at hj;subst hj;simp[Addr.add]
 | 1,hj=>simp at hj;subst hj;simp[Addr.add]
theorem qe3{x y z:Value}{t:TypeId}{H:Nat}(hH:w.heap.size=H):∀j u,[x,y,z][j]?=some u->(w.alloc (.cells #[x,y,z] t)).cell? ((⟨H,0,none⟩:Addr).add j)=some u:=by
 subst hH;intro j u hj
 match j,hj with
 | 0,hj=>simp at hj;subst hj;simp[Addr.add]
 | 1,hj=>simp at hj;subst hj;simp[Addr.add]
 | 2,hj=>simp at hj;subst hj;simp[Addr.add]
theorem qqo{q:List Int}:((Tm.qI lns (q.getD 0 0)).any fun o=>decide (o.qh=q))=!(Tm.yD lns q).isNone:=by
 unfold Tm.qI Tm.yD;rw[List.any_filter]
 have e:(fun o=>Tm.xA (q.getD 0 0) o&&decide (o.qh=q))=Tm.vF q:=by
  funext o
  unfold Tm.xA Tm.vF;by_cases h:o.qh=q
  ·subst h;simp
  ·simp[h]
 rw[e]
 cases h:lns.find? (Tm.vF q)with
 | none =>
  have:=List.find?_eq_none.1 h;simp only[Option.map_none,Option.isNone_none,Bool.not_true];rw[List.any_eq_false];exact this
 | some o =>
  simp only[Option.map_some,Option.isNone_some,Bool.not_false];exact List.any_eq_true.2 ⟨o,List.mem_of_find?_eq_some h,List.find?_some h⟩
theorem qbl(lns:List Tm.Ln)(bm:Nat)(vr:Value)(q:List Int)(w:World)(hrd:ZX w bm lns)(hr:Reads w vr 1 q.length (ints q))(hq:0<q.length)(hrg:∀r∈q,0<=r/\r<=1114111)(hl:q.length<=3)(hn:lns.length<=8192)(hf:∀o∈lns,Tm.Fit o) :
  Calls Tryz.prog 158 #[.map (some bm),vr] w fun e w'=>e=.returned (.bool (!(Tm.yD lns q).isNone))/\Below w.heap.size w w':=by
 obtain⟨r,rs,rfl⟩:∃r rs,q=r::rs:=by
  cases q with
  | nil=>simp at hq
  | cons x y=>exact⟨x,y,rfl⟩
 have hr0:=hrg r (by simp);obtain⟨f,vp,vs,yq,hfv,_,hs⟩:=hrd.at hr0.1;obtain⟨a,cap,rfl⟩:=hr.shape;obtain⟨g,off,rfl,hg,c0⟩:=hr.at (k:=0) (by simp)
 rw[Nat.add_zero]at c0;have YY:=qb yq;have HR:=qb hr;have HSQ:=qb hs;have HE:=qb (qqo (lns:=lns) (q:=r::rs));have hf1:=qeF;have hle:=qf6 lns r
 have Qui:Hid (∀o∈Tm.qI lns r,o.qh.length<=1000000):=fun o ho=>by have:=(hf o (List.mem_filter.1 ho).1).few;omega
 have QzU:=qb (qlZ hf (r:=r));clear yq hr hs hrd hf;have c0':w.cell? ⟨g,off,none⟩=some (.int .i64 r):=c0;generalize hln:(r::rs).length=ln at *;have HLN:=qb hln;clear hln c0;go_enter Tryz.func158,Tryz.ntmps158
 go_wp2_with (at_lookup;go_must (refine zQ rfl _ _ rfl bm lns.length f rfl YY.out r rfl (yV hr0) _ hfv ?_))
 refine(qoX vs _ (Tm.qI lns r) (r::rs) _ HSQ.out (by rw[HLN.out];exact HR.out) (by omega) Qui.out (by rw[HLN.out];omega) QzU.out).mono ?_;rintro e w1 ⟨rfl,hb⟩;have HB:=qb hb;clear hb;go_wp2;go_ret;exact⟨ja HE.out,HB.out⟩
theorem Reads.two{g off n cap:Nat}{l:List Int}(h:Reads w (.slice (some ⟨g,off,none⟩) n cap) 1 l.length (ints l)){k:Nat}(hk:k<=l.length) :
  Reads w (.slice (some ⟨g,off,none⟩) k cap) 1 (l.take k).length (ints (l.take k)):=by
 obtain⟨h1,hlt,a,z8,he,qV,hc⟩:=h;cases he
 have hlen:(l.take k).length=k:=by simp;omega
 refine⟨by rw[zw];omega,fun g' hg'=>hlt g' (by simpa[Value.ownBlock]using hg'),_,_,by rw[hlen],⟨by omega,by omega⟩,fun j u hu=>?_⟩
 have hj:(ints l)[j]?=some u:=by
  have:j<(l.take k).length:=by
   by_cases e:j<(l.take k).length
   ·exact e
   ·rw[List.getElem?_eq_none (by rw[zw];omega)]at hu;cases hu
  rw[<-hu];simp only[ints,List.getElem?_map,List.getElem?_take];rw[if_pos (by omega)]
 obtain⟨g',j0,he,zC⟩:=hc j u hj;cases he;exact⟨g,off,rfl,zC⟩
