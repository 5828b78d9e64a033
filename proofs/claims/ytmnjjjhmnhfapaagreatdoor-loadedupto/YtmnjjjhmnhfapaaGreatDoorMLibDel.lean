import Derived.Lib.SliceRun
import Derived.Deep.Upon
import Derived.Test.YtmnjjjhmnhfapaaGreatDoorMSortMem
import Derived.Test.YtmnjjjhmnhfapaaGreatDoorMCodeSeqs
namespace Go.Proofs.YtmnjjjhmnhfapaaGreatDoor
set_option maxRecDepth 100000
set_option maxHeartbeats 2000000
open Go.RowKit
variable {w:World}
theorem qjd{P:Program}(w:World)(base:Nat)(t ty e:TypeId)(i:TypeInfo)(z:Value)(bytes:Nat)(ht:P.underlying t=some (.slice e))(hi:P.info? e=some i)(hz:i.zero=some z)
  (xV:i.size=1) (hby:i.bytes=bytes) (hzs:z.cells.size=1)
  (v:Value) (n:Nat) (xs:List Value) (qp:w.ownsRow base e 1 v n xs)
  (a:Addr) (m c:Nat) (news:List Value) (hl:news.length=m * 1) (qbm:∀j u,news[j]?=some u->w.cell? (a.add j)=some u) (h1:∀u∈news,u.oneCell'=true)
  (h63:n+m<=maxLen) (qcr:(n+m) * bytes<=140737488355328) (jl:base<=w.heap.size) :
  ∃v' w',(Builtin.append_ #[t,t] ty #[v,.slice (some a) m c]).run P w=.ok v' w'/\w'.ownsRow base e 1 v' (n+m) (xs++news)/\w.grownBy w' v.ownBlock /\
   (v'.ownBlock=v.ownBlock\/v'.ownBlock=some w.heap.size)/\Reads w' v 1 n xs:=by
 obtain⟨v',w',hr,h2,h3,h4,h5⟩:=run_append_own_at (P:=P) w base t ty e i z 1 bytes ht hi hz xV hby hzs (by omega) v n xs qp a m c news hl qbm h1 h63 qcr jl;refine⟨v',w',hr,h2,h3,h5,?_⟩;have hrd:=Reads.qn qp;rcases qp.2 with⟨rfl,rfl⟩|⟨g,cap,cur,rfl,hbg,hg,hnc,hcm,hcs,qbt⟩
 ·exact hrd.jI h3.size (fun g hg=>by simp[Value.ownBlock]at hg)
 ·by_cases qaQ:n+m<=cap
  ·have qR:n * i.size+news.length<=cur.size:=by rw[hl,hcs,xV];omega
   have hr':=run_append_room (P:=P) w t ty e i ht hi g n cap cur hg a m c news (by rw[xV];exact hl) qbm h1 qaQ qR;rw[hr]at hr'
   have hv:v'=.slice (some ⟨g,0,none⟩) (n+m) cap:=by injection hr'
   subst hv;have hc:=h2.cells (g:=g) rfl;refine⟨qp.1,fun g' hg'=>by simp[Value.ownBlock]at hg';subst hg';exact(h2.lt g rfl).2,_,cap,rfl,⟨hnc,hcm⟩,fun j u hu=>⟨g,0,rfl,?_⟩⟩
   have hj:(xs++news)[j]?=some u:=by
    rw[List.getElem?_append_left (List.getElem?_eq_some_iff.1 hu).1];exact hu
   have:=hc j u hj
   have qu0:(⟨g,0,none⟩:Addr).add j=⟨g,0+j,none⟩:=by unfold Addr.add;split<;>simp_all
   rw[qu0]at this;exact this
  ·have holds:∀j u,xs[j]?=some u->w.cell? ((⟨g,0,none⟩:Addr).add j)=some u:=qp.cells (g:=g) rfl;have hr':=run_append_grow (P:=P) w t ty e i z ht hi hz ⟨g,0,none⟩ n cap xs (by rw[xV];exact qp.1) holds a m c news (by rw[xV];exact hl) qbm (by omega) (by unfold maxLen at h63;omega) (growslice_fits (by omega) (by rw[hby];exact qcr));rw[hr]at hr'
   have hw:w'=w.drew.alloc (.cells (xs.toArray++news.toArray++Builtin.zeroCells z.cells (grownCap w (n+m) cap e-(n+m))) e):=by injection hr'
   refine hrd.jI h3.size (fun g' hg'=>?_);have hlt:=hrd.2.1 g' hg';rw[hw];exact heap_alloc_old w.drew _ hlt
theorem qcs{P:Program}{w:World}{ops:Array Oper}{rest:List Oper}{o:Oper}{a:Act}{Q:Exit->Act->World->Prop}(hgd:o.guard=none)(s x:Operand)(t:TypeId)
  (ho:o.op=.call {callee:=.builtin .append,args:=#[s,x],argTypes:=#[t,t]})
  (base:Nat) (e:TypeId) (i:TypeInfo) (z:Value) (bytes:Nat) (ht:P.underlying t=some (.slice e)) (hi:P.info? e=some i) (hz:i.zero=some z)
  (xV:i.size=1) (hby:i.bytes=bytes) (hzs:z.cells.size=1)
  (v:Value) (n:Nat) (xs:List Value) (hs:a.eval s=v) (qp:w.ownsRow base e 1 v n xs)
  (ad:Addr) (m c:Nat) (news:List Value) (hx:a.eval x=.slice (some ad) m c) (hl:news.length=m * 1) (qbm:∀j u,news[j]?=some u->w.cell? (ad.add j)=some u) (h1:∀u∈news,u.oneCell'=true)
  (h63:n+m<=maxLen) (qcr:(n+m) * bytes<=140737488355328) (jl:base<=w.heap.size)
  (h:∀v' w',w'.ownsRow base e 1 v' (n+m) (xs++news)->w.grownBy w' v.ownBlock->(v'.ownBlock=v.ownBlock\/v'.ownBlock=some w.heap.size)->Reads w' v 1 n xs->wpList P ops Q rest (a.put o.dst v') w') :
  wpList P ops Q (o::rest) a w:=by
 refine wpList_plain hgd fun K hK=>?_;obtain⟨v',w',hr,h2,h3,h4,h5⟩:=qjd (P:=P) w base t o.type e i z bytes ht hi hz xV hby hzs v n xs qp ad m c news hl qbm h1 h63 qcr jl;unfold Oper.wp execOp;simp only[ho,resolve,invoke,builtin,Sem.run_bind,Sem.run_pure,Result.andThen_ok,List.map_toArray,List.map_cons,List.map_nil,hs,hx,hr];exact hK _ _ (h v' w' h2 h3 h4 h5)
theorem qbV(g off j:Nat):(⟨g,off,none⟩:Addr).add j=⟨g,off+j,none⟩:=by unfold Addr.add;split<;>simp_all
theorem Qp6(v:Value)(l:List Int)(w:World)(hr:Reads w v 1 l.length (ints l))(hl:l.length<=1000000) :
  Calls Tryz.prog 125 #[v] w fun e w'=>∃v',e=.returned v'/\w'.ownsRow w.heap.size 3 1 v' l.length (ints l)/\Below w.heap.size w w':=by
 obtain⟨i0,hi,hz0,hz1,hz2⟩:=info_parts Tryz.qbR;have qt8:=fun(w:World) (a:Option Addr) (n c:Nat)=>Lib.run_eql_slice_nil (P:=Tryz.prog) w 83 3 a n c 0 0 Tryz.underlying83;have hr':=hr;obtain⟨hlen,hlt,a,cap,rfl,qV,hc⟩:=hr'
 cases a with
 | none =>
  have h0:l=[]:=by
   cases l with
   | nil=>rfl
   | cons x r =>
    obtain⟨g,off,he,_⟩:=hc 0 (.int .i64 x) (by simp[ints]);cases he
  subst h0;clear hr hc hlt;go_enter Tryz.func125,Tryz.ntmps125
  go_wp2;go_ret;exact⟨_,rfl,World.ownsRow_nil _ _ _ _,Below.refl _ _⟩
 | some ad =>
  obtain⟨g,off,sp⟩:=ad
  have HC:Hid (∀j u,(ints l)[j]?=some u->(w.alloc (.cells #[] 3)).cell? ((⟨g,off,sp⟩:Addr).add j)=some u):=fun j u hu=>by
   obtain⟨g',j0,he,zC⟩:=hc j u hu;cases he;rw[qbV];rw[qJ (hlt _ rfl)];exact zC
  have HO:Hid ((w.alloc (.cells #[] 3)).ownsRow w.heap.size 3 1 (.slice (some ⟨w.heap.size,0,none⟩) 0 0) 0 []):=World.ownsRow_made w #[] 0 (Nat.le_refl _) (Nat.zero_le _) rfl;clear hr hc hlt;go_enter Tryz.func125,Tryz.ntmps125
  go_wp2_with (at_builtin;go_must (refine qcs rfl _ _ 83 rfl w.heap.size 3 i0 (.int .i64 0) 8 Tryz.underlying83 hi hz0 hz1 hz2 rfl _ _ _ rfl HO.out ⟨g,off,sp⟩ l.length cap (ints l) rfl (by rw[zw];omega) HC.out (fun u hu=>qia u hu) (by unfold maxLen;omega) (by omega) (by simp) ?_))
  intro v' w' qp hgr _ _;have HO':=qb qp;have HB:Hid (Below w.heap.size w w'):=((Below.refl _ _).alloc (Nat.le_refl _) _).grown hgr (by simp) (fun k hk=>by simp[Value.ownBlock]at hk;omega);obtain⟨a',z8,rfl⟩:=(Reads.qn qp).shape;clear qp hgr;go_wp2;go_ret;refine⟨_,rfl,?_,HB.out⟩;have:=HO'.out;simpa using this
theorem Qo.put{g off k:Nat}{l news:List Int}(h:Qo w g off l)(hk:k+news.length<=l.length):Qo (w.setCells g (off+k) (ints news)) g off (l.take k++news++l.drop (k+news.length)):=by
 intro j x hx;rw[World.frozen?_setCells]
 have hjl:j<l.length:=by
  have:=(List.getElem?_eq_some_iff.1 hx).1;simp at this;omega
 refine⟨?_,(h j l[j] (by simp[hjl])).2⟩;by_cases h1:j<k
 ·rw[List.append_assoc,List.getElem?_append_left (by simp;omega)]at hx;rw[World.cell?_setCells_out _ _ _ _ _ (fun _ _=>.inl (by simp only;omega))];refine(h j x ?_).1;rw[List.getElem?_take]at hx;simpa[h1]using hx
 ·by_cases h2:j<k+news.length
  ·rw[List.append_assoc,List.getElem?_append_right (by simp;omega),List.getElem?_append_left (by simp;omega)]at hx
   have hkl:(l.take k).length=k:=by simp;omega
   rw[hkl]at hx
   have hj:off+j=off+k+(j-k):=by omega
   rw[hj,World.cell?_setCells_in g (ints news) (off+k) w (fun t ht=>by
    rw[zw]at ht
    rw[Nat.add_assoc,(h (k+t) (l[k+t]'(by omega)) (by simp)).1];rfl) (j-k) (by rw[zw];omega)]
   have hg:=(List.getElem?_eq_some_iff.1 hx)
   obtain⟨hlt,he⟩:=hg;simp[ints,he]
  ·have hkl:(l.take k++news).length=k+news.length:=by simp;omega
   rw[List.getElem?_append_right (by omega),hkl,List.getElem?_drop]at hx;rw[World.cell?_setCells_out _ _ _ _ _ (fun _ _=>.inr (by rw[zw];simp only;omega))];refine(h j x ?_).1;rw[<-hx];congr 1;omega
theorem qS(b:Nat):∀(vs:List Value) (o:Nat) (w:World),(w.setCells b o vs).heap.size=w.heap.size/\(w.setCells b o vs).tape=w.tape
 | [],_,_=>⟨rfl,rfl⟩
 | v::vs,o,w=>by
  have:=qS b vs (o+1) (w.setCell ⟨b,o,none⟩ v);refine⟨this.1.trans (by simp[World.setCell]),this.2.trans rfl⟩
theorem QB.setCells{B b:Nat}{u:World}(h:QB B b u w)(o:Nat)(vs:List Value)(hB:B<=w.heap.size):QB B b u (w.setCells b o vs):=by
 refine h.trans ⟨World.os_setCells w b o vs,(qS b vs o w).2,World.output_setCells w b o vs,by rw[(qS b vs o w).1];exact Nat.le_refl _,fun k hk hne=>World.heap_setCells_other w b o vs (by omega) hne⟩
theorem QnZ(g off cap i j:Nat)(l:List Int)(w:World)(hI:Qo w g off l)(hi:i<l.length)(hj:i+1=j)(qV:l.length<=cap/\cap<=maxLen)(hl:l.length<=1000000) :
  Calls Tryz.prog 161 #[.slice (some ⟨g,off,none⟩) l.length cap,.int .i64 i,.int .i64 j] w fun e w'=>e=.returned (.slice (some ⟨g,off,none⟩) (l.length-1) cap)/\Qo w' g off (l.eraseIdx i)/\QB w.heap.size g w w'/\w'.heap.size=w.heap.size:=by
 obtain⟨i0,hi0,hz0,hz1,hz2⟩:=info_parts Tryz.qbR;obtain⟨hc1,hc2⟩:=qV;obtain⟨n,hn⟩:∃n,l.length=n:=⟨_,rfl⟩
 rw[hn]at hi hc1 hl;unfold maxLen at hc2
 have s0:(l.drop j).length=n-j:=by simp[hn]
 have s1:Hid ((ints (l.drop j)).length=(n-j) * 1):=by unfold Hid;rw[zw,s0];omega
 obtain⟨A,hA,qmr⟩:∃A:Addr,(if cap=j then some (⟨g,off,none⟩:Addr)else some ⟨g,off+j,none⟩)=some A/\Hid (∀t u,(ints (l.drop j))[t]?=some u->w.drew.cell? (A.add t)=some u):=by
  by_cases h:cap=j
  ·refine⟨⟨g,off,none⟩,by simp[h],fun t u hu=>?_⟩;have:=(List.getElem?_eq_some_iff.1 hu).1;rw[zw,s0]at this;omega
  ·refine⟨⟨g,off+j,none⟩,by simp[h],fun t u hu=>?_⟩;have ht:=(List.getElem?_eq_some_iff.1 hu).1;rw[zw,s0]at ht;rw[qbV,show off+j+t=off+(j+t) by omega];have hx:=(hI (j+t) (l[j+t]'(by omega)) (by simp)).1
   have:u=.int .i64 (l[j+t]'(by omega)):=by
    simp[ints]at hu;obtain⟨y,hy,rfl⟩:=hu
    congr 1
    have:=(List.getElem?_eq_some_iff.1 hy).2;exact this.symm
   rw[this];exact hx
 have s3:Hid (∀t,t<(ints (l.drop j)).length->(w.drew.cell? ⟨g,off+i * 1+t,none⟩).isSome=true/\w.drew.frozen? ⟨g,off+i * 1+t,none⟩=false):=by
  intro t ht;rw[zw,s0]at ht;have hx:=hI (i+t) (l[i+t]'(by omega)) (by simp);rw[Nat.mul_one,Nat.add_assoc];exact⟨by show(w.cell? _).isSome=true;rw[hx.1];rfl,hx.2⟩
 obtain⟨W1,hW1⟩:∃W1,W1=w.drew.setCells g (off+i * 1) (ints (l.drop j)):=⟨_,rfl⟩
 have hI1:Qo W1 g off (l.take i++l.drop j++l.drop (i+(l.drop j).length)):=by
  rw[hW1,Nat.mul_one];exact Qo.put (w:=w.drew) hI (by rw[s0];omega)
 have hz:(l.take i++l.drop j++l.drop (i+(l.drop j).length)).length=n:=by simp[hn];omega
 have qje:=hI1 (n-1) ((l.take i++l.drop j++l.drop (i+(l.drop j).length))[n-1]'(by omega)) (by simp)
 have hcl:∀ty,(Builtin.clear_ #[83] ty #[.slice (some ⟨g,off+(i+(n-j)),none⟩) (n-(i+(n-j))) (cap-(i+(n-j)))]).run Tryz.prog W1=.ok (.tuple #[]) (W1.setCells g (off+(i+(n-j))) (List.replicate (n-(i+(n-j))) (.int .i64 0))) :=
  fun ty=>Lib.run_clear_slice W1 _ _ ty _ Tryz.underlying83 (by intro w;kernel_rfl) rfl rfl g (off+(i+(n-j))) _ _ (by omega) (fun t ht=>by
   rw[show off+(i+(n-j))+t=off+(n-1) by omega,qje.1];rfl) (fun t ht=>by
   rw[show off+(i+(n-j))+t=off+(n-1) by omega];exact qje.2)
 have QN:Hid (Qo (W1.setCells g (off+(i+(n-j))) (List.replicate (n-(i+(n-j))) (.int .i64 0))) g off (l.eraseIdx i)/\QB w.heap.size g w (W1.setCells g (off+(i+(n-j))) (List.replicate (n-(i+(n-j))) (.int .i64 0)))/\(W1.setCells g (off+(i+(n-j))) (List.replicate (n-(i+(n-j))) (.int .i64 0))).heap.size=w.heap.size):=by
  have qmm:W1.heap.size=w.heap.size:=by rw[hW1,(qS _ _ _ _).1];rfl
  refine⟨?_,QB.setCells ?_ _ _ (by omega),by rw[(qS _ _ _ _).1];exact qmm⟩
  ·have hp:=Qo.put (k:=n-1) (news:=[0]) hI1 (by rw[hz];simp;omega);rw[show n-(i+(n-j))=1 by omega,show i+(n-j)=n-1 by omega];intro q x hx;refine hp q x ?_;have hq:=(List.getElem?_eq_some_iff.1 hx).1;rw[List.length_eraseIdx,if_pos (by omega)]at hq;rw[List.append_assoc,List.getElem?_append_left (by simp[hn];omega),List.getElem?_take,if_pos (by omega),List.append_assoc];rw[<-hx,List.eraseIdx_eq_take_drop_succ,hj,<-List.append_assoc,List.getElem?_append_left (by simp;omega)]
  ·rw[hW1];exact(QB.refl _ _ _).drew.setCells _ _ (Nat.le_refl _)
 have HW:Hid (W1=w.drew.setCells g (off+i * 1) (ints (l.drop j))):=hW1
 have hic:i<=cap:=by omega
 have hjc:j<=cap:=by omega
 have HN:=qb hn;have HJ:=qb hj
 have hjn:j<=n:=by omega
 have hin:i<=n:=by omega
 have hij:((i:Int) == (j:Int))=false:=by simp;omega
 rw[hn];clear hW1 hI1 hz qje hI s0 hn;have s2:Hid (∀u∈ints (l.drop j),u.oneCell'=true):=fun u hu=>qia u hu;generalize l.eraseIdx i=le at *;generalize ints (l.drop j)=news at *;go_enter Tryz.func161,Tryz.ntmps161
 go_wp2_with fail
 go_region_law (refine step_append_room rfl (.tmp 22) (.tmp 25) 83 rfl 3 i0 1 Tryz.underlying83 hi0 hz1 g off i cap (by simp[Act.eval,Act.put]) A (n-j) (cap-j) news (by simp[Act.eval,Act.put]) s1.out qmr.out s2.out (by omega) s3.out ?_;rw[<-HW.out])
 go_wp2;go_ret;exact⟨by rw[show n-1=i+(n-j) by omega];rfl,QN.out⟩
