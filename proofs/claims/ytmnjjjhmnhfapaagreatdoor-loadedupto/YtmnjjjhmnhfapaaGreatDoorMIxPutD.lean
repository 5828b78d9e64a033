import Derived.Test.YtmnjjjhmnhfapaaGreatDoorMIxRow
namespace Go.Proofs.YtmnjjjhmnhfapaaGreatDoor
set_option maxRecDepth 100000
set_option maxHeartbeats 4000000
open Go.RowKit
variable {w:World}{g n cap X bx b:Nat}{xs:List Value}{S F:Nat->Prop}{K:ByteArray->ByteArray}{s:Qt}{B:Nat->Nat}{V:Nat->Value}{v h:Value}{lns:List Tm.Ln}
theorem qcG{base:Nat}{e:TypeId}{size:Nat}{cur:Array Value}(hb:base<=g)(hg:w.heap[g]?=some (.cells cur e))(h1:n<=cap)(h2:cap<=maxLen)(h3:cur.size=cap * size)(h4:cur.toList.take (n * size)=xs)(hl:xs.length=n * size):w.ownsRow base e size (.slice (some ⟨g,0,none⟩) n cap) n xs :=
 ⟨hl,.inr ⟨g,cap,cur,rfl,hb,hg,h1,h2,h3,h4⟩⟩
theorem Qqp(base:Nat)(v:Value)(n i vb:Nat)(xs news:List Value)(w:World)(qp:w.ownsRow base 138 1 v n xs)(hi:i<=n)(hnl:news.length=1)(hn:n<=1000)
  (hvb:w.heap[vb]?=some (.cells news.toArray 138)) (hne:v.ownBlock≠some vb) (h1c:∀u∈xs,u.oneCell'=true) (h1v:∀u∈news,u.oneCell'=true) (jl:base<=w.heap.size) :
  Calls Tryz.prog 151 #[v,.int .i64 i,.slice (some ⟨vb,0,none⟩) 1 1] w fun e w' =>
   ∃v',e=.returned v'/\w'.ownsRow base 138 1 v' (n+1) (xs.take (i)++news++xs.drop (i))/\w.grownBy w' v.ownBlock/\(v'.ownBlock=v.ownBlock\/v'.ownBlock=some w.heap.size):=by
 have hvs:∀j u,news[j]?=some u->w.cell? ⟨vb,0+j,none⟩=some u:=fun j u hu=>by
  simp only[World.cell?,hvb,Nat.zero_add];simpa using hu
 have hxl:=qp.1;rw[Nat.mul_one]at hxl;by_cases hin:i=n
 ·subst hin;refine(Qsn base v i vb xs news w qp hnl hn hvs h1v jl).mono ?_;rintro e w' ⟨v',rfl,h1,h2,h3⟩;refine⟨v',rfl,?_,h2,h3⟩;rw[List.take_of_length_le (by omega),List.drop_of_length_le (by omega),List.append_nil];exact h1
 ·have hlt:i<n:=by omega
  rcases qp.2 with⟨_,h0⟩|⟨g,cap,cur,rfl,hb,hg,hnc,hcm,hcs,qbt⟩
  ·omega
  ·rw[Nat.mul_one]at qbt hcs
   have zC:∀j u,xs[j]?=some u->w.cell? ⟨g,0+j,none⟩=some u:=fun j u hu=>by
    have hu':cur.toList[j]?=some u:=by
     rw[<-qbt,List.getElem?_take]at hu;split at hu
     ·exact hu
     ·cases hu
    simp only[World.cell?,hg,Nat.zero_add];simpa using hu'
   have qBh:g<w.heap.size:=by
    have:=(Array.getElem?_eq_some_iff.1 hg).1;exact this
   have qzV:cap<=9223372036854775807:=by unfold maxLen at hcm;omega
   by_cases qaQ:n+1<=cap
   ·refine(Qoc g 0 n cap i vb 0 1 1 xs news w hlt (by omega) qaQ qzV (fun e=>hne (by simp[Value.ownBlock,e])) hxl (by omega) zC (fun j hj=>?_) (fun j _=>?_) hvs h1c h1v 138 138 1 cur.size ?_ ?_ (by omega) ?_ ?_).mono ?_
    ·simp only[World.cell?,hg,Nat.zero_add]
     have:j<cur.size:=by omega
     simp[this]
    ·simp[World.frozen?,hg]
    ·simp[World.shape?,hvb,hnl]
    ·simp[World.shape?,hg]
    ·simp[World.frozen?,hvb]
    ·simp[World.frozen?,hvb]
    ·rintro e w' ⟨rfl,rfl⟩;obtain⟨c1,h1,h2,h3⟩:=qak (g:=g) (e:=138) (xs.drop (i)) (0+(i+1)) cur w.drew hg (by rw[List.length_drop];omega);obtain⟨c2,k1,k2,k3⟩:=qak (g:=g) (e:=138) news (0+i) c1 _ h1 (by omega);refine⟨_,rfl,qcG hb k1 qaQ hcm (by omega) ?_ (by simp;omega),?_,.inl rfl⟩
     ·rw[k3,h3];have:=Tm.qqq (L:=cur.toList) (xs:=xs) (news:=news) (a:=i) (n:=n) (m:=1) qbt hxl (by omega) hnl (by simp;omega);rw[show 0+(i+1)=i+1 by omega,show 0+i=i by omega,Nat.mul_one];exact this
     ·refine⟨by rw[World.os_setCells,World.os_setCells];rfl,by rw[(qS _ _ _ _).2,(qS _ _ _ _).2];rfl,by rw[World.output_setCells,World.output_setCells];rfl,by rw[(qS _ _ _ _).1,(qS _ _ _ _).1];exact Nat.le_refl _,fun k hk qc8=>?_⟩;have hkg:k≠g:=fun e=>qc8 (by simp[Value.ownBlock,e]);rw[World.heap_setCells_other _ _ _ _ (by rw[(qS _ _ _ _).1];exact hk) hkg];exact World.heap_setCells_other w.drew _ _ _ hk hkg
   ·refine(Qqr g 0 n cap i vb 0 1 1 xs news w hlt (by omega) hnc (by omega) (by omega) hxl (by omega) zC hvs h1c h1v).mono ?_;rintro e w' ⟨rfl,rfl⟩;have hGn:n+1<=grownCap w (n+1) cap 138:=grownCap_ge w _ _ _;have hGm:grownCap w (n+1) cap 138<=maxLen:=grownCap_le_maxLen w (n+1) cap 138 (by unfold maxLen;omega);generalize grownCap w (n+1) cap 138=G at hGn hGm⊢;obtain⟨ROW,qii⟩:∃ROW:Array Value,(xs.take (i)).toArray++Builtin.zeroCells #[.pointer none] (n+1-i)++Builtin.zeroCells #[.pointer none] (G-(n+1))=ROW:=⟨_,rfl⟩
    rw[qii]
    have hRs:ROW.size=G:=by
     rw[<-qii];simp[size_zeroCells,hxl];omega
    have hRL:ROW.toList=xs.take (i)++((Builtin.zeroCells #[.pointer none] (n+1-i)).toList++(Builtin.zeroCells #[.pointer none] (G-(n+1))).toList):=by
     rw[<-qii];simp
    have qb0:(w.alloc (.cells ROW 138)).drew.heap[w.heap.size]?=some (.cells ROW 138):=heap_alloc_new w _;obtain⟨c1,h1,h2,h3⟩:=qak (g:=w.heap.size) (e:=138) news (i) ROW _ qb0 (by omega);obtain⟨c2,k1,k2,k3⟩:=qak (g:=w.heap.size) (e:=138) (xs.drop (i)) ((i+1)) c1 (((w.alloc (.cells ROW 138)).drew.setCells w.heap.size (i) news).drew) h1 (by rw[List.length_drop];omega);refine⟨_,rfl,qcG jl k1 hGn hGm (by omega) ?_ (by simp;omega),?_,.inr rfl⟩
    ·rw[k3,h3];have:=Tm.qso (L:=ROW.toList) (xs:=xs) (news:=news) (a:=i) (n:=n) (m:=1) hRL hxl (by omega) hnl;rw[Nat.mul_one];exact this
    ·refine⟨by rw[World.os_setCells];exact World.os_setCells _ _ _ _,by rw[(qS _ _ _ _).2];exact(qS _ _ _ _).2,by rw[World.output_setCells];exact World.output_setCells _ _ _ _,?_,fun k hk _=>?_⟩
     ·rw[(qS _ _ _ _).1];show _<=(World.setCells _ _ _ _).heap.size;rw[(qS _ _ _ _).1];simp
     ·have e1:((w.alloc (.cells ROW 138)).drew.setCells w.heap.size (i) news).heap.size=w.heap.size+1:=by rw[(qS _ _ _ _).1];simp
      rw[World.heap_setCells_other _ _ _ _ (by show k<(World.setCells _ _ _ _).heap.size;omega) (by omega)];show(World.setCells _ _ _ _).heap[k]?=_;rw[World.heap_setCells_other _ _ _ _ (by simp;omega) (by omega)];exact heap_alloc_old w _ hk
theorem qjZ{P:Program}(w:World)(t e ty:TypeId)(z:Value)(ht:P.underlying t=some (.slice e))(hv:∀w,(zeroValue e).run P w=.ok z w)(b o n c:Nat)(zs:List Value)(hzs:(Builtin.zeroCells z.cells n).toList=zs)(h1:∀u∈zs,u.oneCell'=true)(hn:0<n)
  (hc:∀j,j<zs.length->(w.cell? ⟨b,o+j,none⟩).isSome=true) (hf:∀j,j<zs.length->w.frozen? ⟨b,o+j,none⟩=false) :
  (Builtin.clear_ #[t] ty #[.slice (some ⟨b,o,none⟩) n c]).run P w=.ok (.tuple #[]) (w.setCells b o zs):=by
 have hst:=run_storeCells_cells (P:=P) b o zs 0 w (by simpa using hc) (by simpa using hf) h1;simp only[Nat.add_zero]at hst;obtain⟨m,rfl⟩:∃m,n=m+1:=⟨n-1,by omega⟩
 simp[Builtin.clear_,run_underlying ht,hv,hzs,hst]
theorem qww(w:World):(zeroValue 138).run Tryz.prog w=.ok (.pointer none) w:=by kernel_rfl
theorem qod:(Builtin.zeroCells (Value.pointer none).cells 1).toList=[.pointer none]:=by
 simp[Builtin.zeroCells,Value.cells]
theorem Qsp(g off cap i j n:Nat)(xs:List Value)(w:World)(hI:∀t u,xs[t]?=some u->w.cell? ⟨g,off+t,none⟩=some u)(hF:∀o,w.frozen? ⟨g,o,none⟩=false)(h1:∀u∈xs,u.oneCell'=true)(hxl:xs.length=n)(hi:i<n)(hj:i+1=j)(hc1:n<=cap)(hc2:cap<=maxLen)(hl:n<=1000000) :
  Calls Tryz.prog 147 #[.slice (some ⟨g,off,none⟩) n cap,.int .i64 i,.int .i64 j] w fun e w'=>e=.returned (.slice (some ⟨g,off,none⟩) (n-1) cap)/\w'=(w.drew.setCells g (off+i) (xs.drop (j))).setCells g (off+(i+(n-j))) [.pointer none]:=by
 obtain⟨i0,hi0,hz0,hzs,hzb⟩:=info_parts Tryz.qg5
 have qBi:cap<=9223372036854775807:=by unfold maxLen at hc2;exact hc2
 have s0:(xs.drop (j)).length=n-j:=by simp[hxl]
 have s1:Hid ((xs.drop (j)).length=(n-j) * 1):=by unfold Hid;rw[Nat.mul_one];exact s0
 obtain⟨A,hA,qmr⟩:∃A:Addr,(if cap=j then some (⟨g,off,none⟩:Addr)else some ⟨g,off+j,none⟩)=some A/\Hid (∀t u,(xs.drop (j))[t]?=some u->w.drew.cell? (A.add t)=some u):=by
  by_cases h:cap=j
  ·refine⟨⟨g,off,none⟩,by simp[h],fun t u hu=>?_⟩;have:=(List.getElem?_eq_some_iff.1 hu).1;omega
  ·refine⟨⟨g,off+j,none⟩,by simp[h],fun t u hu=>?_⟩;rw[Addr.add_lit,show off+j+t=off+(j+t) by omega];exact hI (j+t) u (by rwa [List.getElem?_drop]at hu)
 have s3:Hid (∀t,t<(xs.drop (j)).length->(w.drew.cell? ⟨g,off+i * 1+t,none⟩).isSome=true/\w.drew.frozen? ⟨g,off+i * 1+t,none⟩=false):=by
  intro t ht;rw[Nat.mul_one];refine⟨?_,hF _⟩;have hx:=hI (i+t) (xs[i+t]'(by omega)) (by simp);rw[Nat.add_assoc];show(w.cell? _).isSome=true;rw[hx];rfl
 obtain⟨W1,hW1⟩:∃W1,W1=w.drew.setCells g (off+i) (xs.drop (j)):=⟨_,rfl⟩
 have qeT:∀k,k<n->(W1.cell? ⟨g,off+k,none⟩).isSome=true:=fun k hk=>by
  rw[hW1];refine qel g _ _ _ (fun t ht=>by have:=(s3.out t ht).1;rwa [Nat.mul_one]at this) _ ?_;show(w.cell? _).isSome=true;rw[hI k (xs[k]'(by omega)) (by simp)];rfl
 have hcl:∀ty,(Builtin.clear_ #[120] ty #[.slice (some ⟨g,off+(i+(n-j)),none⟩) (n-(i+(n-j))) (cap-(i+(n-j)))]).run Tryz.prog W1=.ok (.tuple #[]) (W1.setCells g (off+(i+(n-j))) [.pointer none]):=fun ty=>by
  rw[show n-(i+(n-j))=1 by omega];refine qjZ W1 _ _ ty _ Tryz.underlying120 qww g (off+(i+(n-j))) 1 _ _ qod (by intro u hu;simp at hu;subst hu;rfl) (by omega) (fun t ht=>?_) (fun t ht=>?_)
  ·rw[Nat.add_assoc];exact qeT _ (by simp at ht;omega)
  ·rw[hW1,World.frozen?_setCells];exact hF _
 have HW:Hid (W1=w.drew.setCells g (off+i * 1) (xs.drop (j))):=by unfold Hid;rw[Nat.mul_one];exact hW1
 have HW2:Hid (W1=w.drew.setCells g (off+i) (xs.drop (j))):=hW1
 have hic:i<=cap:=by omega
 have hjc:j<=cap:=by omega
 have HJ:=qb hj
 have hjn:j<=n:=by omega
 have hin:i<=n:=by omega
 have hij:((i:Int) == (j:Int))=false:=by simp;omega
 have s2:Hid (∀u∈xs.drop (j),u.oneCell'=true):=fun u hu=>h1 u (List.mem_of_mem_drop hu);clear hI s0 qeT;generalize xs.drop (j)=news at *;clear hW1;go_enter Tryz.func147,Tryz.ntmps147
 go_wp2_with fail
 go_region_law (refine step_append_room rfl (.tmp 22) (.tmp 25) 120 rfl 138 i0 1 Tryz.underlying120 hi0 hzs g off i cap (by simp[Act.eval,Act.put]) A (n-j) (cap-j) news (by simp[Act.eval,Act.put]) s1.out qmr.out s2.out (by omega) s3.out ?_;rw[<-HW.out])
 go_wp2;go_ret;exact⟨by rw[show n-1=i+(n-j) by omega];rfl,by rw[<-HW2.out]⟩
theorem Qqs(base:Nat)(v:Value)(n i:Nat)(xs:List Value)(w:World)(qp:w.ownsRow base 138 1 v n xs)(hi:i<n)(hn:n<=1000)(h1c:∀u∈xs,u.oneCell'=true) :
  Calls Tryz.prog 147 #[v,.int .i64 i,.int .i64 (i+1:Nat)] w fun e w' =>
   ∃v',e=.returned v'/\w'.ownsRow base 138 1 v' (n-1) (xs.take (i)++xs.drop (i+1))/\w.grownBy w' v.ownBlock/\v'.ownBlock=v.ownBlock:=by
 have hxl:=qp.1;rw[Nat.mul_one]at hxl;rcases qp.2 with⟨_,h0⟩|⟨g,cap,cur,rfl,hb,hg,hnc,hcm,hcs,qbt⟩
 ·omega
 ·rw[Nat.mul_one]at qbt hcs
  have zC:∀j u,xs[j]?=some u->w.cell? ⟨g,0+j,none⟩=some u:=fun j u hu=>by
   have hu':cur.toList[j]?=some u:=by
    rw[<-qbt,List.getElem?_take]at hu;split at hu
    ·exact hu
    ·cases hu
   simp only[World.cell?,hg,Nat.zero_add];simpa using hu'
  refine(Qsp g 0 cap i (i+1) n xs w zC (fun o=>by simp[World.frozen?,hg]) h1c hxl hi rfl hnc hcm (by omega)).mono ?_;rintro e w' ⟨rfl,rfl⟩;obtain⟨c1,h1,h2,h3⟩:=qak (g:=g) (e:=138) (xs.drop ((i+1))) (0+i) cur w.drew hg (by rw[List.length_drop];omega);obtain⟨c2,k1,k2,k3⟩:=qak (g:=g) (e:=138) [.pointer none] (0+(i+(n-(i+1)))) c1 _ h1 (by simp;omega);refine⟨_,rfl,qcG hb k1 (by omega) hcm (by omega) ?_ (by simp;omega),?_,rfl⟩
  ·rw[k3,h3];have:=Tm.quk (L:=cur.toList) (xs:=xs) (a:=i) (n:=n) (m:=1) qbt hxl (by omega) [.pointer none] rfl;rw[Nat.mul_one,show 0+(i+(n-(i+1)))=n-1 by omega,show 0+i=i by omega];exact this
  ·refine⟨by rw[World.os_setCells,World.os_setCells];rfl,by rw[(qS _ _ _ _).2,(qS _ _ _ _).2];rfl,by rw[World.output_setCells,World.output_setCells];rfl,by rw[(qS _ _ _ _).1,(qS _ _ _ _).1];exact Nat.le_refl _,fun k hk qc8=>?_⟩;have hkg:k≠g:=fun e=>qc8 (by simp[Value.ownBlock,e]);rw[World.heap_setCells_other _ _ _ _ (by rw[(qS _ _ _ _).1];exact hk) hkg];exact World.heap_setCells_other w.drew _ _ _ hk hkg
theorem Tryz.qsq:(Tryz.prog.info? 67).map (fun i=>(i.zero,i.size,i.bytes))=some (some (.agg #[.string ⟨#[]⟩,.string ⟨#[]⟩]),2,32):=by kernel_rfl
theorem Qsr(lns:List Tm.Ln)(bc bm:Nat)(st:Int)(sh:Bool)(w:World)(X:Nat)(_hc:Jd w bc bm st sh lns)(hX:X<=w.heap.size) :
  Calls Tryz.prog 57 #[.pointer (some ⟨bc,0,none⟩)] w fun e w'=>∃bx S,e=.returned (.pointer (some ⟨bx,0,none⟩))/\Ix w' X S bx bc st sh lns qab/\Below w.heap.size w w'/\∀i,S i->w.heap.size<=i:=by
 have QN:Hid (Ix (w.alloc (.cells #[.pointer (some ⟨bc,0,none⟩),.slice none 0 0,.slice none 0 0,.int .i64 0] 132)) X (fun i=>i=w.heap.size) w.heap.size bc st sh lns qab/\Below w.heap.size w (w.alloc (.cells #[.pointer (some ⟨bc,0,none⟩),.slice none 0 0,.slice none 0 0,.int .i64 0] 132))/\∀i,i=w.heap.size->w.heap.size<=i):=by
  refine⟨⟨fun i hi=>⟨by omega,by simp;omega⟩,rfl,?_,?_,fun o=>?_,⟨fun _=>False,fun _=>0,fun _=>.slice none 0 0,.slice none 0 0,.slice none 0 0,?_,?_,World.ownsRow_nil _ _ _ _,World.ownsRow_nil _ _ _ _,fun g hg=>(by cases hg),fun g hg=>(by cases hg),fun _ h=>h.elim,fun _ h=>(by cases h),fun _ h=>(by cases h),fun _ h=>(by cases h)⟩,Qal.nil _⟩,(Below.refl _ _).alloc (Nat.le_refl _) _,fun i hi=>by omega⟩
  ·rw[ql rfl];rfl
  ·rw[ql rfl];rfl
  ·rw[zx rfl]
  ·rw[ql rfl];rfl
  ·rw[ql rfl];rfl
 go_enter Tryz.func57,Tryz.ntmps57
 go_wp2;go_ret;exact⟨w.heap.size,_,rfl,QN.out⟩
theorem Qb1.qdu(hi:Qb1 w X S F bx K s B V v h):YG w K B v s.now:=⟨Reads.qn hi.now,fun x hx=>(hi.qem x (vR hx)).2⟩
theorem Qb1.qwx(hi:Qb1 w X S F bx K s B V v h){g:Nat×Tm.Zr}(hg:g∈s.held):YG w K B (V g.1) g.2:=⟨Reads.qn (hi.rows g hg).1,fun x hx=>(hi.qem x (qdv hg hx)).2⟩
theorem qiY{base:Nat}{e:TypeId}{size:Nat}(h:w.ownsRow base e size v n xs):v=.slice none 0 0\/∃g off cap,v=.slice (some ⟨g,off,none⟩) n cap:=by
 rcases h.2 with⟨rfl,_⟩|⟨g,cap,cur,rfl,_⟩
 ·exact .inl rfl
 ·exact .inr ⟨g,0,cap,rfl⟩
theorem Qss(lns:List Tm.Ln)(bc bm:Nat)(st:Int)(sh:Bool)(X:Nat)(S:Nat->Prop)(bx:Nat)(s:Qt)(k:ByteArray)(w:World)(hc:Jd w bc bm st sh lns)(hok:Zt st lns)(hx:Ix w X S bx bc st sh lns s) :
  Calls Tryz.prog 25 #[.pointer (some ⟨bx,0,none⟩),.string k] w fun e w'=>e=.returned (if k.size<=64 then .tuple #[.string ((Tm.qcX (qe lns st sh) (qv s) k).getD ⟨#[]⟩),.bool (Tm.yd (qe lns st sh) (qv s) k),.int .i64 0]else .tuple #[.string ⟨#[]⟩,.bool false,.int .i64 7])/\Below w.heap.size w w':=by
 have hT:=qay lns st sh;have hK:=qch hc.fit (sh:=sh) hok.st;have HC:=qb hc;have HOK:=qb hok;have c0:=hx.c0;have hl:=(hx.from_ bx hx.own).2;have hrs:Tm.Zy (Tm.Yc (qe lns st sh)) (Tm.qj s.now):=hx.qbu
 have j9:s.now.length<=64:=by rw[<-yN];exact hx.few
 have HG:Hid (Tm.qcX (qe lns st sh) (qv s) k=if Tm.yd (qe lns st sh) (qv s) k then((qv s)[Tm.below (qe lns st sh) (qv s) k]?).map (·.2)else none):=Tm.qul hT (k:=k) hrs;have HAT:=qb (Tm.qaV hT (k:=k) hrs);obtain⟨F,B,V,v,h,hi⟩:=hx.mem;have c1:=hi.c1;have HR:=qb hi.qdu;obtain⟨a,cap,rfl⟩:=hi.qdu.reads.shape;clear hc hok hx hi;by_cases hk:k.size<=64
 ·rw[if_pos hk];go_enter Tryz.func25,Tryz.ntmps25
  go_wp2_with fail
  refine(YS lns bc bm st sh k _ HC.out HOK.out).mono ?_;rw[if_pos hk];rintro e w1 ⟨rfl,hb1⟩;have HB1:=qb hb1;have hz1:=hb1.size
  have hl1:bx<w1.heap.size:=by omega
  have c11:w1.cell? ⟨bx,1,none⟩=some (.slice a s.now.length cap):=by rw[hb1.cell (p:=⟨bx,1,none⟩) hl];exact c1
  have HR1:=qb (HR.out.below hb1);clear hb1 c0 c1;go_wp2_with fail
  refine(qfj (placeOf lns st sh) (qe lns st sh) hK hT s.now hrs B _ k _ HR1.out (by omega)).mono ?_;rintro e w2 ⟨rfl,hb2⟩;have HB2:=qb (HB1.out.trans (hb2.mono hz1))
  have c12:w2.cell? ⟨bx,1,none⟩=some (.slice a s.now.length cap):=by rw[hb2.cell (p:=⟨bx,1,none⟩) hl1];exact c11
  have hl2:bx<w2.heap.size:=by have:=hb2.size;omega
  have HR2:=qb (HR1.out.below hb2);clear hb2 c11;cases hh:Tm.yd (qe lns st sh) (Tm.qj s.now) k
  ·have HH:Hid (Tm.yd (qe lns st sh) (qv s) k=false):=hh
   have HG':Hid (Tm.qcX (qe lns st sh) (qv s) k=none):=by
    have:=HG.out;rw[HH.out]at this;unfold Hid;simpa using this
   go_wp2
   go_ret3
   exact⟨by rw[HG'.out,HH.out];rfl,HB2.out⟩
  ·have HH:Hid (Tm.yd (qe lns st sh) (qv s) k=true):=hh;obtain⟨hi,_⟩:=HAT.out.1 hh;rw[Tm.qz]at hi;obtain⟨g,off,rfl,hg,x0,hva⟩:=HR2.out.get hi;obtain⟨y0,y1,y2,y3,_⟩:=hva
   have HG':Hid (Tm.qcX (qe lns st sh) (qv s) k=some (s.now[Tm.below (qe lns st sh) (Tm.qj s.now) k]'hi).2.2):=by
    have h1:=HG.out;rw[HH.out,if_pos rfl]at h1;unfold qv at h1;rw[List.getElem?_eq_getElem (by rw[Tm.qz];exact hi),Tm.xK hi]at h1;exact h1
   generalize s.now[Tm.below (qe lns st sh) (Tm.qj s.now) k]'hi=y at *;generalize Tm.below (qe lns st sh) (Tm.qj s.now) k=i at *
   have i1:(0:Int)<=(i:Int):=by omega
   have i2:(i:Int)<(s.now.length:Int):=by omega
   go_wp2
   go_ret3
   exact⟨by rw[HG'.out,HH.out];rfl,HB2.out⟩
 ·rw[if_neg hk];go_enter Tryz.func25,Tryz.ntmps25
  go_wp2_with fail
  refine(YS lns bc bm st sh k _ HC.out HOK.out).mono ?_;rw[if_neg hk];rintro e w1 ⟨rfl,hb1⟩;have HB1:=qb hb1;clear hb1;go_wp2
  go_ret3
  exact⟨rfl,HB1.out⟩
theorem qhp(K:ByteArray->ByteArray)(es:Tm.Zr)(B:Nat->Nat)(v:Value)(w:World)(hrd:YG w K B v es)(hl:es.length<=1000) :
  Calls Tryz.prog 63 #[v] w fun e w'=>∃v',e=.returned v'/\w'.ownsRow w.heap.size 67 2 v' es.length (qY (Tm.qj es))/\Below w.heap.size w w':=by
 obtain⟨i0,hi0,hz0,hzs,hzb⟩:=info_parts Tryz.qsq;obtain⟨a,cap,rfl⟩:=hrd.reads.shape;obtain⟨n,hn⟩:∃n,es.length=n:=⟨_,rfl⟩
 have HRD:Hid (∀wr,Below w.heap.size w wr->YG wr K B (.slice a n cap) es):=fun wr hb=>by have:=hrd.below hb;rwa [hn]at this
 rw[hn]at hl⊢;have HN:=qb hn;clear hrd hn;go_enter Tryz.func63,Tryz.ntmps63
 go_wp2_with (at_make;go_must (refine wpList_make_own _ rfl _ _ 50 rfl w.heap.size 67 i0 (.agg #[.string ⟨#[]⟩,.string ⟨#[]⟩]) 2 Tryz.underlying50 hi0 hz0 hzs _ _ _ n rfl rfl (by omega) (by rw[hzb];omega) (by unfold maxLen;omega) (Nat.le_refl _) ?_))
 intro w0 qvW qxz;have HO0:=qb qvW;have HB0:Hid (Below w.heap.size w w0):=(Below.refl _ _).grown qxz (Nat.le_refl _) (fun q hq=>by cases hq);clear qvW qxz;go_wp2_with fail
 go_loopw [3,11] (fun x i wr=>∃k:Nat,k<=n/\i=.int .i64 k/\(∃a' c',x=.slice a' k c')/\Hid (wr.ownsRow w.heap.size 67 2 x k (qY (Tm.qj (es.take k))))/\Hid (Below w.heap.size w wr)) (fun _ i _=>n-(intOf i).toNat)
 case atStart=>exact⟨0,Nat.zero_le _,rfl,⟨_,_,rfl⟩,HO0.out,HB0.out⟩
 case round =>
  obtain⟨k,hk,rfl,⟨a',c',rfl⟩,HO,HB⟩:=hrel;by_cases hlt:k<n
  ·have hke:k<es.length:=by rw[HN.out];exact hlt
   obtain⟨g,off,rfl,hg,x0,hva⟩:=(HRD.out wr HB.out).get hke;obtain⟨y0,y1,y2,y3,_⟩:=hva
   have HT:Hid (qY (Tm.qj (es.take (k+1)))=qY (Tm.qj (es.take k))++[.string es[k].2.1,.string es[k].2.2]):=by
    unfold Hid Tm.qj;rw[List.take_add_one,List.getElem?_eq_getElem hke,List.map_append,qiZ];rfl
   generalize es[k]=y at *;obtain⟨yn,yk,yv⟩:=y;simp only at x0 y0 y1 y2 y3 HT
   have i1:(0:Int)<=(k:Int):=by omega
   have i2:(k:Int)<(n:Int):=by omega
   have hwz:=HB.out.size;go_wp2_with (at_builtin;refine xW rfl _ _ 50 50 rfl w.heap.size 67 67 i0 (.agg #[.string ⟨#[]⟩,.string ⟨#[]⟩]) 2 32 Tryz.underlying50 Tryz.underlying50 hi0 hz0 hzs hzb rfl (by omega) _ _ _ rfl (HO.out.alloc _) ⟨wr.heap.size,0,none⟩ 1 1 [.string yk,.string yv] rfl rfl (qh0 (by simp)) (by intro u hu;simp at hu;rcases hu with rfl|rfl<;>rfl) (by unfold maxLen;omega) (by omega) (by simp;omega) ?_)
   intro v' w' qp hgr _;have HO':=qb qp;have HB':Hid (Below w.heap.size w w'):=(HB.out.alloc hwz _).grown hgr (by simp;omega) (fun q hq=>(HO.out.lt q hq).1);obtain⟨a2,c2,rfl⟩:=(Reads.qn qp).shape;clear qp hgr;go_wp2;go_roundw
   case rel=>exact⟨k+1,by omega,by go_num,⟨_,_,rfl⟩,by unfold Hid;rw[HT.out];exact HO'.out,HB'.out⟩
   case measure=>simp[intOf];omega
  ·have e:k=n:=by omega
   subst e
   have HO':Hid (wr.ownsRow w.heap.size 67 2 (.slice a' k c') k (qY (Tm.qj es))):=by
    have:=HO.out;rw[<-HN.out,List.take_length]at this;rw[<-HN.out];exact this
   go_wp2;go_ret;exact⟨_,rfl,HO'.out,HB.out⟩
theorem YG.from_{off:Nat}{l:Tm.Zr}(h:YG w K B (.slice (some ⟨g,off,none⟩) l.length cap) l){j:Nat}(hj:j<=l.length):YG w K B (.slice (some ⟨g,off+j,none⟩) (l.length-j) (cap-j)) (l.drop j):=by
 refine⟨?_,fun x hx=>h.at_ x (List.mem_of_mem_drop hx)⟩;have h1:=h.reads.from_ (j:=j) hj;rw[Nat.mul_one]at h1;rw[List.length_drop,show jm B (l.drop j)=(jm B l).drop j from List.map_drop];exact h1
theorem YG.qqt{a:Option Addr}{l:Tm.Zr}(h:YG w K B (.slice a n cap) l)(hn:n=l.length){j:Nat}(hj:j<=l.length):YG w K B (.slice a j cap) (l.take j):=by
 subst hn;refine⟨?_,fun x hx=>h.at_ x (List.mem_of_mem_take hx)⟩;have h1:=h.reads.qqt (j:=j) hj;rw[Nat.mul_one]at h1;rw[List.length_take,Nat.min_eq_left hj,show jm B (l.take j)=(jm B l).take j from List.map_take];exact h1
theorem YG.none_{off:Nat}(hg:g<w.heap.size)(hc:cap<=maxLen):YG w K B (.slice (some ⟨g,off,none⟩) 0 cap) []:=⟨Reads.none_ hg hc,fun x hx=>by cases hx⟩
theorem qhq(l:Tm.Zr)(n:Nat):Tm.qj (l.take n)=(Tm.qj l).take n:=List.map_take
theorem qgm(l:Tm.Zr)(n:Nat):Tm.qj (l.drop n)=(Tm.qj l).drop n:=List.map_drop
def qst(c:ByteArray->ByteArray->Int)(K:ByteArray->ByteArray)(es:Tm.Zr)(B:Nat->Nat)(lo hi:ByteArray)(w:World)(e:Ending)(w':World):Prop :=
 Below w.heap.size w w' /\
 if 64<lo.size\/64<hi.size then e=.returned (.tuple #[.slice none 0 0,.int .i64 7])
 else ∃v l,e=.returned (.tuple #[v,.int .i64 0])/\Tm.qj l=Tm.vM c (Tm.qj es) lo hi/\YG w' K B v l
theorem qqu(lns:List Tm.Ln)(bc bm:Nat)(st:Int)(sh:Bool)(bx:Nat)(es:Tm.Zr)(B:Nat->Nat)(v:Value)(lo hi:ByteArray)(w:World)(hc:Jd w bc bm st sh lns)(hok:Zt st lns)(c0:w.cell? ⟨bx,0,none⟩=some (.pointer (some ⟨bc,0,none⟩)))(hbx:bx<w.heap.size)(hrs:Tm.Zy (Tm.Yc (qe lns st sh)) (Tm.qj es))(hrd:YG w (placeOf lns st sh) B v es)(hv:v=.slice none 0 0\/∃g off cap,v=.slice (some ⟨g,off,none⟩) es.length cap)(j9:es.length<=64) :
  Calls Tryz.prog 62 #[.pointer (some ⟨bx,0,none⟩),v,.string lo,.string hi] w fun e w'=>qst (qe lns st sh) (placeOf lns st sh) es B lo hi w e w':=by
 have hT:=qay lns st sh;have hK:=qch hc.fit (sh:=sh) hok.st;have HC:=qb hc;have HOK:=qb hok;have HRD:=qb hrd;have HSC:=qb (Tm.qqv hT (lo:=lo) (hi:=hi) hrs);have hle:=Tm.qfk (qe lns st sh) (Tm.qj es) lo;rw[Tm.qz]at hle;obtain⟨a,cap,rfl⟩:=hrd.reads.shape;have qV:=hrd.reads.fits;obtain⟨_,qvH,qpQ⟩:=qV;unfold maxLen at qpQ;have HV:=qb hv;clear hc hok hrd hv;by_cases hlo:lo.size<=64
 ·by_cases hhi:hi.size<=64
  ·go_enter Tryz.func62,Tryz.ntmps62
   go_wp2_with fail
   refine(YS lns bc bm st sh lo _ HC.out HOK.out).mono ?_;rw[if_pos hlo];rintro e w1 ⟨rfl,hb1⟩;have HB1:=qb hb1;have hz1:=hb1.size
   have qzW:bx<w1.heap.size:=by omega
   have c01:w1.cell? ⟨bx,0,none⟩=some (.pointer (some ⟨bc,0,none⟩)):=by rw[hb1.cell (p:=⟨bx,0,none⟩) hbx];exact c0
   have QcF:=qb (HRD.out.below hb1);have HC1:=qb (HC.out.below hb1);clear hb1 c0;go_wp2_with fail
   refine(YS lns bc bm st sh hi _ HC1.out HOK.out).mono ?_;rw[if_pos hhi];rintro e w2 ⟨rfl,hb2⟩;have HB2:=qb (HB1.out.trans (hb2.mono hz1));have hz2:=hb2.size;have Qmn:=qb (QcF.out.below hb2);clear hb2 c01;go_wp2_with fail
   refine(qaz (placeOf lns st sh) (qe lns st sh) hK hT es hrs B _ lo _ Qmn.out (by omega)).mono ?_;rintro e w3 ⟨rfl,hb3⟩;have HB3:=qb (HB2.out.trans (hb3.mono (by omega)));have hz3:=hb3.size;have Qei:=qb (Qmn.out.below hb3);clear hb3
   have qqw:Tm.Zy (Tm.Yc (qe lns st sh)) (Tm.qj (es.drop (Tm.below (qe lns st sh) (Tm.qj es) lo))):=by rw[qgm];exact List.Pairwise.drop hrs
   obtain⟨j,hj⟩:∃j,Tm.below (qe lns st sh) (Tm.qj es) lo=j:=⟨_,rfl⟩
   rw[<-qgm]at HSC;rw[hj]at HSC hle qqw⊢;clear hj
   have i1:(0:Int)<=(j:Int):=by omega
   have i2:(j:Int)<=(es.length:Int):=by omega
   have hdl:(es.drop j).length=es.length-j:=by simp
   have qaU:=Tm.qfk (qe lns st sh) (Tm.qj (es.drop j)) hi;rw[Tm.qz,hdl]at qaU;by_cases h0:hi.size=0
   ·have he:hi=⟨#[]⟩:=by
     obtain⟨⟨l⟩⟩:=hi;simp[ByteArray.size]at h0;subst h0;rfl
    rw[if_pos h0]at HSC;rcases HV.out with he2|⟨g,off,z8,he2⟩
    ·simp only[Value.slice.injEq]at he2;obtain⟨rfl,hl0,rfl⟩:=he2
     have QN:Hid (YG w3 (placeOf lns st sh) B (.slice none 0 0) (es.drop j)):=by
      have h1:=Qei.out;have h2:es=[]:=List.eq_nil_of_length_eq_zero hl0;rw[h2]at h1⊢;unfold Hid;simpa using h1
     have hj0:j=0:=by omega
     subst hj0;subst he;rw[hl0]at *;go_wp2;go_ret2;refine⟨HB3.out,?_⟩;rw[if_neg (by omega)];exact⟨_,_,rfl,HSC.out.symm,QN.out⟩
    ·simp only[Value.slice.injEq]at he2;obtain⟨rfl,_,rfl⟩:=he2;subst he;by_cases hcj:cap=j
     ·have QN:Hid (YG w3 (placeOf lns st sh) B (.slice (some ⟨g,off,none⟩) (es.length-j) (cap-j)) (es.drop j)):=by
       unfold Hid
       have hnj:es.length-j=0:=by omega
       rw[hnj,List.drop_of_length_le (by omega)];exact YG.none_ (Qei.out.reads.2.1 g rfl) (by unfold maxLen;omega)
      go_wp2;go_ret2;refine⟨HB3.out,?_⟩;rw[if_neg (by omega)];exact⟨_,_,rfl,HSC.out.symm,by first|exact QN.out|simpa[hcj]using QN.out⟩
     ·have QN:Hid (YG w3 (placeOf lns st sh) B (.slice (some ⟨g,off+j,none⟩) (es.length-j) (cap-j)) (es.drop j)):=by
       exact Qei.out.from_ hle
      go_wp2;go_ret2;refine⟨HB3.out,?_⟩;rw[if_neg (by omega)];exact⟨_,_,rfl,HSC.out.symm,QN.out⟩
   ·rw[if_neg h0]at HSC
    have hne:(hi.toList == [])=false:=by
     obtain⟨⟨l⟩⟩:=hi;rw[Go.ByteArray.toList_eq]
     cases l with
     | nil=>simp[ByteArray.size]at h0
     | cons x r=>rfl
    rw[<-qhq]at HSC;rcases HV.out with he2|⟨g,off,z8,he2⟩
    ·simp only[Value.slice.injEq]at he2;obtain⟨rfl,hl0,rfl⟩:=he2
     have QN:Hid (∀w4,Below w3.heap.size w3 w4->YG w4 (placeOf lns st sh) B (.slice none 0 0) (es.drop j)):=fun w4 hb4=>by
      have h1:=Qei.out.below hb4;have h2:es=[]:=List.eq_nil_of_length_eq_zero hl0;rw[h2]at h1⊢;simpa using h1
     have hj0:j=0:=by omega
     have Qum:Hid (es=[]):=List.eq_nil_of_length_eq_zero hl0;subst hj0;rw[hl0]at *;go_wp2_with fail
     refine(qaz (placeOf lns st sh) (qe lns st sh) hK hT (es.drop 0) qqw B _ hi _ (QN.out _ (Below.refl _ _)) (by rw[hdl];omega)).mono ?_;rintro e w4 ⟨rfl,hb4⟩;have HR4:=qb (QN.out w4 hb4);have HB4:=qb (HB3.out.trans (hb4.mono (by omega)))
     have hb0:Tm.below (qe lns st sh) (Tm.qj (es.drop 0)) hi=0:=by omega
     have Qun:Hid (Tm.vM (qe lns st sh) (Tm.qj es) lo hi=Tm.qj (es.drop 0)):=by
      unfold Hid;rw[HSC.out,hb0];rw[Qum.out];rfl
     rw[hb0];clear hb4;go_wp2;go_ret2;refine⟨HB4.out,?_⟩;rw[if_neg (by omega)];exact⟨_,_,rfl,Qun.out.symm,HR4.out⟩
    ·simp only[Value.slice.injEq]at he2;obtain⟨rfl,_,rfl⟩:=he2;by_cases hcj:cap=j
     ·have QN:Hid (YG w3 (placeOf lns st sh) B (.slice (some ⟨g,off,none⟩) (es.length-j) (cap-j)) (es.drop j)):=by
       unfold Hid
       have hnj:es.length-j=0:=by omega
       rw[hnj,List.drop_of_length_le (by omega)];exact YG.none_ (Qei.out.reads.2.1 g rfl) (by unfold maxLen;omega)
      go_wp2_with fail
      refine(qaz (placeOf lns st sh) (qe lns st sh) hK hT (es.drop j) qqw B _ hi _ (by first|exact QN.out|simpa[hcj]using QN.out) (by rw[hdl];omega)).mono ?_;rintro e w4 ⟨rfl,hb4⟩;have HB4:=qb (HB3.out.trans (hb4.mono (by omega)))
      have hg4:g<w4.heap.size:=by have:=QN.out.reads.2.1 g rfl;have:=hb4.size;omega
      have hb0:Tm.below (qe lns st sh) (Tm.qj (es.drop j)) hi=0:=by omega
      have Qun:Hid (Tm.vM (qe lns st sh) (Tm.qj es) lo hi=Tm.qj []):=by
       unfold Hid;rw[HSC.out,hb0];rfl
      rw[hb0];clear hb4;go_wp2;go_ret2;refine⟨HB4.out,?_⟩;rw[if_neg (by omega)];exact⟨_,_,rfl,Qun.out.symm,YG.none_ hg4 (by unfold maxLen;omega)⟩
     ·have QN:Hid (YG w3 (placeOf lns st sh) B (.slice (some ⟨g,off+j,none⟩) (es.length-j) (cap-j)) (es.drop j)):=by
       exact Qei.out.from_ hle
      go_wp2_with fail
      refine(qaz (placeOf lns st sh) (qe lns st sh) hK hT (es.drop j) qqw B _ hi _ QN.out (by rw[hdl];omega)).mono ?_;rintro e w4 ⟨rfl,hb4⟩;have HR4:=qb (QN.out.below hb4);have HB4:=qb (HB3.out.trans (hb4.mono (by omega)));obtain⟨q,hq⟩:∃q,Tm.below (qe lns st sh) (Tm.qj (es.drop j)) hi=q:=⟨_,rfl⟩
      rw[hq]at HSC qaU⊢
      have Qe8:Hid (YG w4 (placeOf lns st sh) B (.slice (some ⟨g,off+j,none⟩) q (cap-j)) ((es.drop j).take q)):=by
       exact HR4.out.qqt hdl.symm (by rw[hdl];exact qaU)
      have i3:(0:Int)<=(q:Int):=by omega
      have i4:(q:Int)<=((cap-j:Nat):Int):=by omega
      clear hb4 hq;go_wp2;go_ret2;refine⟨HB4.out,?_⟩;rw[if_neg (by omega)];exact⟨_,_,rfl,HSC.out.symm,Qe8.out⟩
  ·go_enter Tryz.func62,Tryz.ntmps62
   go_wp2_with fail
   refine(YS lns bc bm st sh lo _ HC.out HOK.out).mono ?_;rw[if_pos hlo];rintro e w1 ⟨rfl,hb1⟩;have HB1:=qb hb1;have hz1:=hb1.size
   have qzW:bx<w1.heap.size:=by omega
   have c01:w1.cell? ⟨bx,0,none⟩=some (.pointer (some ⟨bc,0,none⟩)):=by rw[hb1.cell (p:=⟨bx,0,none⟩) hbx];exact c0
   have HC1:=qb (HC.out.below hb1);clear hb1 c0;go_wp2_with fail
   refine(YS lns bc bm st sh hi _ HC1.out HOK.out).mono ?_;rw[if_neg hhi];rintro e w2 ⟨rfl,hb2⟩;have HB2:=qb (HB1.out.trans (hb2.mono hz1));clear hb2 c01;go_wp2;go_ret2;refine⟨HB2.out,?_⟩;rw[if_pos (by omega)];rfl
 ·go_enter Tryz.func62,Tryz.ntmps62
  go_wp2_with fail
  refine(YS lns bc bm st sh lo _ HC.out HOK.out).mono ?_;rw[if_neg hlo];rintro e w1 ⟨rfl,hb1⟩;have HB1:=qb hb1;clear hb1;go_wp2;go_ret2;refine⟨HB1.out,?_⟩;rw[if_pos (by omega)];rfl
theorem qms(bx:Nat)(v:Value)(w:World)(hc:w.cell? ⟨bx,1,none⟩=some v)(_hl:bx<w.heap.size)(hv:∃a n cap,v=.slice a n cap) :
  Calls Tryz.prog 61 #[.pointer (some ⟨bx,0,none⟩),.int .i64 0] w fun e w'=>e=.returned (.tuple #[v,.int .i64 0])/\w'=w:=by
 obtain⟨a,n,cap,rfl⟩:=hv;go_enter Tryz.func61,Tryz.ntmps61
 go_wp2;go_ret2;exact⟨rfl,rfl⟩
theorem qhr(lns:List Tm.Ln)(bc bm:Nat)(st:Int)(sh:Bool)(bx:Nat)(handle:Int)(s:Tm.Zr)(B:Nat->Nat)(v:Value)(lo hi:ByteArray)(xc:Int)(w:World)(hc:Jd w bc bm st sh lns)(hok:Zt st lns)(c0:w.cell? ⟨bx,0,none⟩=some (.pointer (some ⟨bc,0,none⟩)))(hbl:bx<w.heap.size)
  (qsu:Calls Tryz.prog 61 #[.pointer (some ⟨bx,0,none⟩),.int .i64 handle] w fun e w'=>e=.returned (.tuple #[v,.int .i64 0])/\Below w.heap.size w w')
  (hrs:Tm.Zy (Tm.Yc (qe lns st sh)) (Tm.qj s)) (j9:s.length<=64) (hrd:YG w (placeOf lns st sh) B v s) (hv:v=.slice none 0 0\/∃g off cap,v=.slice (some ⟨g,off,none⟩) s.length cap) (hl:-9223372036854775808<=xc/\xc<=9223372036854775807) :
  Calls Tryz.prog 21 #[.pointer (some ⟨bx,0,none⟩),.int .i64 handle,.string lo,.string hi,.int .i64 xc] w fun e w'=>qgn (qe lns st sh) (Tm.qj s) lo hi xc w e w':=by
 obtain⟨hl1,hl2⟩:=hl;have HC:=qb hc;have HOK:=qb hok;have HRD:=qb hrd;have HV:=qb hv;have HSH:=qb qsu
 have hle:(Tm.vM (qe lns st sh) (Tm.qj s) lo hi).length<=s.length:=by
  have:=List.length_filter_le (Tm.within (qe lns st sh) lo hi) (Tm.qj s)
  rwa [Tm.qz]at this
 obtain⟨a,cap,rfl⟩:=hrd.reads.shape;clear hc hok hrd hv qsu;go_enter Tryz.func21,Tryz.ntmps21
 go_wp2_with fail
 refine HSH.out.mono ?_;rintro e w0 ⟨rfl,hb0⟩;have HB0:=qb hb0;have hz0:=hb0.size
 have c00:w0.cell? ⟨bx,0,none⟩=some (.pointer (some ⟨bc,0,none⟩)):=by rw[hb0.cell (p:=⟨bx,0,none⟩) hbl];exact c0
 have qzX:bx<w0.heap.size:=by omega
 have HC0:=qb (HC.out.below hb0);have Qup:=qb (HRD.out.below hb0);clear hb0 c0;go_wp2_with fail
 refine(qqu lns bc bm st sh bx s B _ lo hi _ HC0.out HOK.out c00 qzX hrs Qup.out HV.out j9).mono ?_;rintro e w1 ⟨hb1,qw⟩;have HB1:=qb (HB0.out.trans (hb1.mono hz0))
 have hz1:w.heap.size<=w1.heap.size:=by have:=hb1.size;omega
 clear hb1 c00;by_cases hlong:64<lo.size\/64<hi.size
 ·rw[if_pos hlong]at qw;subst qw;go_wp2;go_ret2;refine⟨HB1.out,?_⟩;rw[if_pos hlong];rfl
 ·rw[if_neg hlong]at qw;obtain⟨v1,l1,rfl,qmt,jW⟩:=qw;have HL1:=qb qmt;rw[<-qmt,Tm.qz]at hle;have QcF:=qb jW;obtain⟨a1,qX,rfl⟩:=jW.reads.shape;obtain⟨_,hf1,hf2⟩:=jW.reads.fits;unfold maxLen at hf2;clear jW;by_cases hneg:xc<0
  ·go_wp2;go_ret2;refine⟨HB1.out,?_⟩;rw[if_neg hlong,if_pos hneg];rfl
  ·obtain⟨l,rfl⟩:∃l:Nat,xc=l:=⟨xc.toNat,by omega⟩
   have HTK:Hid (YG w1 (placeOf lns st sh) B (.slice a1 (min l l1.length) qX) (l1.take l)):=by
    unfold Hid;by_cases h1:l<=l1.length
    ·rw[Nat.min_eq_left h1];exact QcF.out.qqt rfl h1
    ·rw[Nat.min_eq_right (by omega),List.take_of_length_le (by omega)];exact QcF.out
   have htl:(l1.take l).length<=64:=by rw[List.length_take];omega
   have HEQ:Hid ((l:Int).toNat=l):=by unfold Hid;omega
   obtain⟨tk,htk⟩:∃tk,l1.take l=tk:=⟨_,rfl⟩
   have QxA:Hid ((Tm.vM (qe lns st sh) (Tm.qj s) lo hi).take l=Tm.qj tk):=by unfold Hid;rw[<-HL1.out,<-qhq,htk]
   rw[htk]at HTK htl;clear htk;have qmt:=qmt;clear qmt;generalize hm:l1.length=m at *;have HM:=qb hm;clear hm;by_cases h1:l<=m
   ·have qgo:min l m=l:=Nat.min_eq_left h1;rw[qgo]at HTK
    have i0:(0:Int)<=(l:Int):=by omega
    have i1:((l:Int)<=(m:Int)):=by omega
    have i2:(l:Int)<=(qX:Int):=by omega
    have hmi:min (l:Int) (m:Int)=(l:Int):=by omega
    go_wp2_with fail
    refine(qhp (placeOf lns st sh) tk B _ _ HTK.out (by omega)).mono ?_;rintro e w2 ⟨v2,rfl,yx,hb2⟩
    have QN:Hid (qgn (qe lns st sh) (Tm.qj s) lo hi l w (.returned (.tuple #[v2,.int .i64 0])) w2):=by
     refine⟨HB1.out.trans (hb2.mono hz1),?_⟩;rw[if_neg hlong,if_neg (by omega),HEQ.out];rw[QxA.out,Tm.qz];exact⟨v2,rfl,qco yx hz1⟩
    obtain⟨a2,zD,rfl⟩:=(Reads.qn yx).shape;clear yx hb2;go_wp2;go_ret2;exact QN.out
   ·have qgo:min l m=m:=Nat.min_eq_right (by omega);rw[qgo]at HTK
    have i0:(0:Int)<=(m:Int):=by omega
    have i1:¬((l:Int)<=(m:Int)):=by omega
    have i2:(m:Int)<=(qX:Int):=by omega
    have hmi:min (l:Int) (m:Int)=(m:Int):=by omega
    go_wp2_with fail
    refine(qhp (placeOf lns st sh) tk B _ _ HTK.out (by omega)).mono ?_;rintro e w2 ⟨v2,rfl,yx,hb2⟩
    have QN:Hid (qgn (qe lns st sh) (Tm.qj s) lo hi l w (.returned (.tuple #[v2,.int .i64 0])) w2):=by
     refine⟨HB1.out.trans (hb2.mono hz1),?_⟩;rw[if_neg hlong,if_neg (by omega),HEQ.out];rw[QxA.out,Tm.qz];exact⟨v2,rfl,qco yx hz1⟩
    obtain⟨a2,zD,rfl⟩:=(Reads.qn yx).shape;clear yx hb2;go_wp2;go_ret2;exact QN.out
theorem Qi0(lns:List Tm.Ln)(bc bm:Nat)(st:Int)(sh:Bool)(X:Nat)(S:Nat->Prop)(bx:Nat)(s:Qt)(lo hi:ByteArray)(xc:Int)(w:World)(hc:Jd w bc bm st sh lns)(hok:Zt st lns)(hx:Ix w X S bx bc st sh lns s)(hl:-9223372036854775808<=xc/\xc<=9223372036854775807) :
  Calls Tryz.prog 21 #[.pointer (some ⟨bx,0,none⟩),.int .i64 0,.string lo,.string hi,.int .i64 xc] w fun e w'=>qwy (qe lns st sh) s lo hi xc w e w':=by
 obtain⟨F,B,V,v,h,hi'⟩:=hx.mem;have hbl:=(hx.from_ bx hx.own).2;refine qhr lns bc bm st sh bx 0 s.now B v lo hi xc w hc hok hx.c0 hbl ?_ hx.qbu (by rw[<-yN];exact hx.few) hi'.qdu (qiY hi'.now) hl;obtain⟨a,cap,rfl⟩:=hi'.qdu.reads.shape;refine(qms bx _ w hi'.c1 hbl ⟨_,_,_,rfl⟩).mono ?_;rintro e w' ⟨rfl,rfl⟩;exact⟨rfl,Below.refl _ _⟩
theorem quq(base:Nat)(xs:List Value)(n:Nat)(v:Value)(i b:Nat)(w:World)(qp:w.ownsRow base 138 1 v n xs)(h1:∀u∈xs,u.oneCell'=true)(hi:i<=n)(hn:n<=1000)(jl:base<=w.heap.size) :
  Calls Tryz.prog 117 #[v,.int .i64 i,.pointer (some ⟨b,0,none⟩)] w fun r w' =>
   ∃v',r=.returned v'/\w'.ownsRow base 138 1 v' (n+1) (xs.take i++.pointer (some ⟨b,0,none⟩)::xs.drop i)/\w.grownBy w' v.ownBlock/\∀g,v'.ownBlock=some g->v.ownBlock=some g\/w.heap.size<=g:=by
 have HO:=qb qp;have HLT:=qb qp.lt;obtain⟨a,cap,rfl⟩:=(Reads.qn qp).shape;clear qp;go_enter Tryz.func117,Tryz.ntmps117
 go_wp2_with fail
 refine(Qqp base _ n i w.heap.size xs [.pointer (some ⟨b,0,none⟩)] _ (HO.out.alloc _) hi rfl hn ?_ ?_ h1 (by intro u hu;simp at hu;subst hu;rfl) (by simp;omega)).mono ?_
 ·have:=heap_alloc_new w (.cells #[.pointer (some ⟨b,0,none⟩)] 138);simpa using this
 ·intro h;have:=(HLT.out _ h).2;omega
 ·rintro r w1 ⟨v1,rfl,yC,hgr1,hat1⟩
  have QN:Hid (w1.ownsRow base 138 1 v1 (n+1) (xs.take i++.pointer (some ⟨b,0,none⟩)::xs.drop i)/\w.grownBy w1 (Value.slice a n cap).ownBlock/\∀g,v1.ownBlock=some g->(Value.slice a n cap).ownBlock=some g\/w.heap.size<=g):=by
   refine⟨by rw[List.append_cons];exact yC,⟨hgr1.os,hgr1.tape,hgr1.output,by have:=hgr1.size;simp at this;omega,fun k hk hne=>?_⟩,fun g hg=>?_⟩
   ·rw[hgr1.block k (by simp;omega) hne,Below.heap_alloc _ _ _ hk]
   ·rcases hat1 with h|h
    ·exact .inl (by rw[<-h];exact hg)
    ·rw[h]at hg;simp at hg;exact .inr (by omega)
  obtain⟨a1,qX,rfl⟩:=(Reads.qn yC).shape;clear yC hgr1 hat1;go_wp2;go_ret;exact⟨_,rfl,QN.out⟩
theorem qoe(base:Nat)(xs:List Value)(n:Nat)(v:Value)(i:Nat)(w:World)(qp:w.ownsRow base 138 1 v n xs)(h1:∀u∈xs,u.oneCell'=true)(hi:i<n)(hn:n<=1000) :
  Calls Tryz.prog 106 #[v,.int .i64 i] w fun r w' =>
   ∃v',r=.returned v'/\w'.ownsRow base 138 1 v' (n-1) (xs.eraseIdx i)/\w.grownBy w' v.ownBlock/\v'.ownBlock=v.ownBlock:=by
 have HO:=qb qp;obtain⟨a,cap,rfl⟩:=(Reads.qn qp).shape;clear qp;go_enter Tryz.func106,Tryz.ntmps106
 go_wp2_with fail
 refine(Qqs base _ n i xs _ HO.out hi hn h1).mono ?_;rintro r w1 ⟨v1,rfl,yC,hgr1,hat1⟩;have QN:Hid (w1.ownsRow base 138 1 v1 (n-1) (xs.eraseIdx i)/\w.grownBy w1 (Value.slice a n cap).ownBlock/\v1.ownBlock=(Value.slice a n cap).ownBlock):=⟨by rw[List.eraseIdx_eq_take_drop_succ];exact yC,hgr1,hat1⟩
 obtain⟨a1,qX,rfl⟩:=(Reads.qn yC).shape;clear yC hgr1 hat1;go_wp2;go_ret;exact⟨_,rfl,QN.out⟩
theorem Ix.newRow{w1 w2:World}{bc:Nat}{st:Int}{sh:Bool}{v':Value}(hx:Ix w X S bx bc st sh lns s)(hi:Qb1 w X S F bx (placeOf lns st sh) s B V v h)(hb:Below w.heap.size w w1)(hgr:w1.grownBy w2 v.ownBlock)(hat:∀g,v'.ownBlock=some g->v.ownBlock=some g\/w1.heap.size<=g)
  (l:Tm.Zr) (M:Nat) (B':Nat->Nat) (N:Nat->Prop) (hB:∀n,n<s.next->B' n=B n) (qp:w2.ownsRow X 138 1 v' l.length (jm B' l)) (hN:∀i,N i->w.heap.size<=i/\i<w1.heap.size) (qb0:∀x∈l,x∈s.now\/(N (B' x.1)/\QaA w1 (placeOf lns st sh) B' x/\x.1=s.next))
  (hok:Qal (qe lns st sh) {s with now:=l,next:=M}):Yu w (w2.setCell ⟨bx,1,none⟩ v') X S bx bc st sh lns {s with now:=l,next:=M}:=by
 have hl:=(hx.from_ bx hx.own).2;have hz:=hb.size;have hz2:=hgr.size;have hne:v.ownBlock≠some bx:=fun e=>(hi.vS bx e).2.1 rfl;have qzY:∀g,v.ownBlock=some g->g<w.heap.size:=fun g e=>(hx.from_ g (hi.vS g e).1).2
 have hbk:w2.heap[bx]?=w.heap[bx]?:=by rw[hgr.block bx (by omega) (fun e=>hne e.symm),hb.block bx hl]
 have qc8:v'.ownBlock≠some bx:=fun e=>by
  rcases hat bx e with e|e
  ·exact hne e
  ·omega
 refine hx.turn hi (v':=v') (Qy.setCell (p:=⟨bx,1,none⟩) ((Qy.of hb).grown hgr (fun k e=>.inl (.inr e))) (.inl (.inl rfl)) _) ?_ ?_ ?_ ?_ (fun o=>?_) l M B' N hB (qO qp (fun g e=>Below.heap_setCell _ _ _ _ (by rintro rfl;exact qc8 e))) (fun g e=>?_) (fun i e=>?_) (fun x hxl=>?_) hok
 ·rw[World.cell?_setCell_other _ _ _ _ (by simp)];exact World.cell?_of_block (a:=⟨bx,0,none⟩) hbk
 ·exact World.cell?_setCell_same _ _ _ ((World.cell?_of_block (a:=⟨bx,1,none⟩) hbk).trans hi.c1)
 ·rw[World.cell?_setCell_other _ _ _ _ (by simp)];exact World.cell?_of_block (a:=⟨bx,2,none⟩) hbk
 ·rw[World.cell?_setCell_other _ _ _ _ (by simp)];exact World.cell?_of_block (a:=⟨bx,3,none⟩) hbk
 ·rw[World.frozen?_setCell];exact World.frozen?_of_block (a:=⟨bx,o,none⟩) hbk
 ·rcases hat g e with e1|e1
  ·exact .inl e1
  ·exact .inr ⟨by omega,fun e2=>by have:=(hN g e2).2;omega⟩
 ·have:=hN i e;exact⟨this.1,by simp[World.setCell];omega⟩
 ·refine(qb0 x hxl).imp id (fun⟨h1,h2,h3⟩=>⟨h1,?_,h3⟩);have h4:=hN _ h1;refine h2.jb (by simp[World.setCell];omega) ?_ rfl;rw[Below.heap_setCell _ _ _ _ (by show B' x.1≠bx;omega),hgr.block _ h4.2 (fun e=>by have:=qzY _ e.symm;omega)]
def qam(B:Nat->Nat)(n b:Nat):Nat->Nat:=fun i=>if i=n then b else B i
theorem qfl{i:Nat}(h:i<n):qam B n b i=B i:=by unfold qam;rw[if_neg (by omega)]
theorem qaB:qam B n b n=b:=by unfold qam;rw[if_pos rfl]
theorem qkx{c:ByteArray->ByteArray->Int}(hok:Qal c s){l:Tm.Zr}(hl:∀x∈l,x∈s.now):jm (qam B s.next b) l=jm B l:=qi1 fun x hx=>qfl (hok.less x (vR (hl x hx)))
abbrev qbv(p k v:ByteArray):Obj:=.cells #[.string p,.string k,.string v] 137
theorem qky{k v:ByteArray}:QaA (w.alloc (qbv (K k) k v)) K (qam B n w.heap.size) (n,(k,v)):=by
 unfold QaA;rw[qaB];refine⟨by simp,?_,?_,?_,heap_alloc_new w _⟩
 ·rw[ql rfl];rfl
 ·rw[ql rfl];rfl
 ·rw[ql rfl];rfl
theorem Ix.qxB{W:World}{bc:Nat}{st:Int}{sh:Bool}(hx:Ix w X S bx bc st sh lns s)(hi:Qb1 w X S F bx (placeOf lns st sh) s B V (.slice (some ⟨g,0,none⟩) n cap) h)(hb:Below w.heap.size w W){i:Nat}(k v:ByteArray)
  (hok:Qal (qe lns st sh) {s with now:=s.now.set i (s.next,(k,v)),next:=s.next+1}):Yu w ((W.alloc (qbv (placeOf lns st sh k) k v)).setCell ⟨g,i,none⟩ (.pointer (some ⟨W.heap.size,0,none⟩))) X S bx bc st sh lns {s with now:=s.now.set i (s.next,(k,v)),next:=s.next+1}:=by
 have hl:=(hx.from_ bx hx.own).2;have hgS:=hi.vS g rfl;have hlg:=(hx.from_ g hgS.1).2;have hz:=hb.size;have hn:n=s.now.length:=((Reads.qn hi.now).fits).1;subst hn;have hb1:Below w.heap.size w (W.alloc (qbv (placeOf lns st sh k) k v)):=hb.alloc hz _
 have hbk:((W.alloc (qbv (placeOf lns st sh k) k v)).setCell ⟨g,i,none⟩ (.pointer (some ⟨W.heap.size,0,none⟩))).heap[bx]?=w.heap[bx]?:=by
  rw[Below.heap_setCell _ _ _ _ (fun e=>hgS.2.1 e.symm),hb1.block bx hl]
 have yC:=qO hi.now (w':=W.alloc (qbv (placeOf lns st sh k) k v)) (fun g' hg'=>by simp[Value.ownBlock]at hg';subst hg';exact hb1.block _ hlg);refine hx.turn hi (v':=.slice (some ⟨g,0,none⟩) s.now.length cap) (Qy.setCell (p:=⟨g,i,none⟩) (Qy.of hb1) (.inl (.inr rfl)) _) (World.cell?_of_block (a:=⟨bx,0,none⟩) hbk) ((World.cell?_of_block (a:=⟨bx,1,none⟩) hbk).trans hi.c1) (World.cell?_of_block (a:=⟨bx,2,none⟩) hbk) (World.cell?_of_block (a:=⟨bx,3,none⟩) hbk) (fun o=>World.frozen?_of_block (a:=⟨bx,o,none⟩) hbk) _ _ (qam B s.next W.heap.size) (fun i=>i=W.heap.size) (fun n hn=>qfl hn) ?_ (fun g' hg'=>.inl hg') (fun i e=>⟨by omega,by simp[World.setCell];omega⟩) (fun x hxl=>?_) hok
 ·have e:jm (qam B s.next W.heap.size) (s.now.set i (s.next,(k,v)))=(jm B s.now).set i (.pointer (some ⟨W.heap.size,0,none⟩)):=by
   rw[<-qkx hx.ok (b:=W.heap.size) (l:=s.now) (fun x hx=>hx)];unfold jm;rw[List.map_set];simp only[qaB]
  rw[e,List.length_set];exact qbw yC _ _
 ·rcases List.mem_or_eq_of_mem_set hxl with e1|e1
  ·exact .inl e1
  ·subst e1;refine .inr ⟨qaB,?_,rfl⟩;refine(qky (w:=W) (K:=placeOf lns st sh) (k:=k) (v:=v) (B:=B) (n:=s.next)).jb (by simp[World.setCell]) ?_ rfl;show(World.setCell _ _ _).heap[qam B s.next W.heap.size s.next]?=_;rw[qaB,Below.heap_setCell _ _ _ _ (by show W.heap.size≠g;omega)]
theorem qoZ(lns:List Tm.Ln)(bc:Nat)(st:Int)(sh:Bool)(X:Nat)(S:Nat->Prop)(bx:Nat)(s:Qt)(k v:ByteArray)(w:World)(qR:∀o∈lns,Tm.Fit o)(hok:Zt st lns)(hx:Ix w X S bx bc st sh lns s)(hX:X<=w.heap.size)(hk:k.size<=64) :
  Calls Tryz.prog 74 #[.pointer (some ⟨bx,0,none⟩),.agg #[.string k,.string v],.agg #[.string (placeOf lns st sh k),.int .i64 0]] w fun e w'=>e=.returned (.int .i64 (qW (qe lns st sh) s k v))/\Yu w w' X S bx bc st sh lns (zg (qe lns st sh) s k v):=by
 have hT:=qay lns st sh;have hK:=qch qR (sh:=sh) hok.st;have hrs:Tm.Zy (Tm.Yc (qe lns st sh)) (Tm.qj s.now):=hx.qbu
 have j9:s.now.length<=64:=by rw[<-yN];exact hx.few
 have Qqx:=qb (hx.ok.put hT k v);obtain⟨F,B,V,vn,vh,hi⟩:=hx.mem;have c1:=hi.c1;have hl:=(hx.from_ bx hx.own).2;obtain⟨a,cap,rfl⟩:=(Reads.qn hi.now).shape;have HX:=qb hx;have HI:=qb hi;have HC1:=qb c1;clear hx hi;obtain⟨W0,hW0⟩:∃W0,(w.alloc (.cells #[.string k,.string v] 67)).alloc (.cells #[.string (placeOf lns st sh k),.int .i64 0] 149)=W0:=⟨_,rfl⟩
 have HB0:Hid (Below w.heap.size w W0):=by unfold Hid;rw[<-hW0];exact((Below.refl _ _).alloc (Nat.le_refl _) _).alloc (by simp) _
 have hA:∀o,W0.cell? ⟨w.heap.size,o,none⟩=(#[.string k,.string v]:Array Value)[o]?:=fun o=>by rw[<-hW0,qJ (W:=w.alloc (.cells #[.string k,.string v] 67)) (by simp),ql rfl]
 have hP:∀o,W0.cell? ⟨w.heap.size+1,o,none⟩=(#[.string (placeOf lns st sh k),.int .i64 0]:Array Value)[o]?:=fun o=>by rw[<-hW0,ql (by simp)]
 have HP0:Hid (∀W:World,Below W0.heap.size W0 W->W.cell? ⟨w.heap.size,0,none⟩=some (.string k)/\W.cell? ⟨w.heap.size,1,none⟩=some (.string v)/\W.cell? ⟨w.heap.size+1,0,none⟩=some (.string (placeOf lns st sh k))/\W.cell? ⟨w.heap.size+1,1,none⟩=some (.int .i64 0)):=fun W hW=>by
  have hz:W0.heap.size=w.heap.size+2:=by rw[<-hW0];simp
  rw[hW.cell (p:=⟨w.heap.size,0,none⟩) (by show w.heap.size<_;omega),hW.cell (p:=⟨w.heap.size,1,none⟩) (by show w.heap.size<_;omega),hW.cell (p:=⟨w.heap.size+1,0,none⟩) (by show w.heap.size+1<_;omega),hW.cell (p:=⟨w.heap.size+1,1,none⟩) (by show w.heap.size+1<_;omega),hA,hA,hP,hP];exact⟨rfl,rfl,rfl,rfl⟩
 clear hA hP;obtain⟨p0,p1,p2,p3⟩:=HP0.out W0 (Below.refl _ _)
 have c10:W0.cell? ⟨bx,1,none⟩=some (.slice a s.now.length cap):=by rw[HB0.out.cell (p:=⟨bx,1,none⟩) hl];exact c1
 have Qup:Hid (YG W0.drew (placeOf lns st sh) B (.slice a s.now.length cap) s.now):=HI.out.qdu.below HB0.out.drew
 have hz0:W0.heap.size=w.heap.size+2:=by rw[<-hW0];simp
 have HW0:=qb hW0;clear c1 hW0;by_cases hv:v.size<=64
 ·have HPE:Hid (qW (qe lns st sh) s k v=if Tm.yd (qe lns st sh) (Tm.qj s.now) k=false/\64<=s.now.length then 8 else 0):=by unfold Hid qW;rw[if_neg (by omega),yN];rfl
  have iv:¬(64:Int)<(v.size:Int):=by omega
  go_enter Tryz.func74,Tryz.ntmps74
  go_upto_region 1 with fail
  rw[HW0.out];go_wp2_with fail
  go_region_with (go_at_call 66;refine(qfj (placeOf lns st sh) (qe lns st sh) hK hT s.now hrs B _ k _ Qup.out (by omega)).mono ?_;rintro e w2 ⟨rfl,hb2⟩)
  all_goals
   have hz2:W0.heap.size<=w2.heap.size:=hb2.size;have qur:Below W0.heap.size W0 w2:=(Below.refl _ _).drew.trans hb2;have qgp:Below w.heap.size w w2:=HB0.out.trans (qur.mono (by omega));have HB2:=qb qgp;clear p0 p1 p2 p3;obtain⟨p0,p1,p2,p3⟩:=HP0.out w2 qur
   have c12:w2.cell? ⟨bx,1,none⟩=some (.slice a s.now.length cap):=by rw[qgp.cell (p:=⟨bx,1,none⟩) hl];exact HC1.out
   have f12:w2.frozen? ⟨bx,1,none⟩=false:=by rw[qgp.frozen (p:=⟨bx,1,none⟩) hl];exact HX.out.free 1
   have k12:(w2.alloc (.cells #[.string (placeOf lns st sh k),.string k,.string v] 137)).cell? ⟨bx,1,none⟩=some (.slice a s.now.length cap):=by rw[qJ (by omega)];exact c12
   clear hb2 qur qgp c10;cases hh:Tm.yd (qe lns st sh) (Tm.qj s.now) k
   ·by_cases xU:64<=s.now.length
    ·have QN:Hid (qW (qe lns st sh) s k v=8/\Yu w w2 X S bx bc st sh lns (zg (qe lns st sh) s k v)):=by
      have h1:qW (qe lns st sh) s k v=8:=by rw[HPE.out,if_pos ⟨hh,xU⟩]
      refine⟨h1,?_⟩;rw[qan (by omega)];exact Yu.qb2 HX.out HB2.out
     have i1:(64:Int)<=(s.now.length:Int):=by omega
     go_wp2;go_ret;exact⟨by rw[QN.out.1];rfl,QN.out.2⟩
    ·have h1:qW (qe lns st sh) s k v=0:=by rw[HPE.out,if_neg (fun e=>xU e.2)]
     have h2:zg (qe lns st sh) s k v={s with now:=s.now.take (Tm.below (qe lns st sh) (Tm.qj s.now) k)++(s.next,(k,v))::s.now.drop (Tm.below (qe lns st sh) (Tm.qj s.now) k),next:=s.next+1}:=by
      unfold zg;rw[if_pos h1,Tm.qi2 hT hrs hh]
     have hle:=Tm.qfk (qe lns st sh) (Tm.qj s.now) k;rw[Tm.qz]at hle;have HE:=qb h1;have HS:=qb h2
     have i1:¬(64:Int)<=(s.now.length:Int):=by omega
     clear h1 h2
     have HW:Hid (∀W,Below w.heap.size w W->Calls Tryz.prog 117 #[.slice a s.now.length cap,.int .i64 (Tm.below (qe lns st sh) (Tm.qj s.now) k:Nat),.pointer (some ⟨W.heap.size,0,none⟩)] (W.alloc (qbv (placeOf lns st sh k) k v)) fun e w3=>∃a3 n3 qij,e=.returned (.slice a3 n3 qij)/\bx<w3.heap.size/\w3.cell? ⟨bx,1,none⟩=some (.slice a s.now.length cap)/\w3.frozen? ⟨bx,1,none⟩=false/\Yu w (w3.setCell ⟨bx,1,none⟩ (.slice a3 n3 qij)) X S bx bc st sh lns (zg (qe lns st sh) s k v)):=fun W hW=>by
      have hzW:=hW.size;have hb1:Below w.heap.size w (W.alloc (qbv (placeOf lns st sh k) k v)):=hW.alloc hzW _;have yC:=qO HI.out.now (w':=W.alloc (qbv (placeOf lns st sh k) k v)) (fun g hg=>hb1.block g (HI.out.now.lt g hg).2);refine(quq X (jm B s.now) s.now.length _ (Tm.below (qe lns st sh) (Tm.qj s.now) k) W.heap.size _ yC (qmu B s.now) hle (by omega) (by simp;omega)).mono ?_;rintro e w3 ⟨v3,rfl,zR,hgr3,hat3⟩;have hz3:=hgr3.size;have hbk:w3.heap[bx]?=w.heap[bx]?:=(hgr3.block bx (by simp;omega) (fun e=>(HI.out.vS bx e.symm).2.1 rfl)).trans (hb1.block bx hl);have qw:=HX.out.newRow HI.out hb1 hgr3 (v':=v3) (fun g hg=>(hat3 g hg)) (s.now.take (Tm.below (qe lns st sh) (Tm.qj s.now) k)++(s.next,(k,v))::s.now.drop (Tm.below (qe lns st sh) (Tm.qj s.now) k)) (s.next+1) (qam B s.next W.heap.size) (fun i=>i=W.heap.size) (fun n hn=>qfl hn) ?_ (fun i e=>by subst e;exact⟨hzW,by simp⟩) (fun x hx=>?_) (by have:=Qqx.out;rw[HS.out]at this;exact this)
      ·obtain⟨a3,qij,rfl⟩:=(Reads.qn zR).shape;exact⟨a3,_,qij,rfl,by simp at hz3;omega,by rw[World.cell?_of_block (a:=⟨bx,1,none⟩) hbk];exact HC1.out,by rw[World.frozen?_of_block (a:=⟨bx,1,none⟩) hbk];exact HX.out.free 1,by rw[HS.out];exact qw⟩
      ·have e1:jm (qam B s.next W.heap.size) (s.now.take (Tm.below (qe lns st sh) (Tm.qj s.now) k)++(s.next,(k,v))::s.now.drop (Tm.below (qe lns st sh) (Tm.qj s.now) k))=(jm B s.now).take (Tm.below (qe lns st sh) (Tm.qj s.now) k)++.pointer (some ⟨W.heap.size,0,none⟩)::(jm B s.now).drop (Tm.below (qe lns st sh) (Tm.qj s.now) k):=by
        rw[<-qkx HX.out.ok (b:=W.heap.size) (l:=s.now) (fun x hx=>hx)];unfold jm;rw[List.map_append,List.map_cons,List.map_take,List.map_drop];simp only[qaB]
       rw[e1,show(s.now.take (Tm.below (qe lns st sh) (Tm.qj s.now) k)++(s.next,(k,v))::s.now.drop (Tm.below (qe lns st sh) (Tm.qj s.now) k)).length=s.now.length+1 by simp;omega];exact zR
      ·rcases List.mem_append.1 hx with e|e
       ·exact .inl (List.mem_of_mem_take e)
       ·rcases List.mem_cons.1 e with e|e
        ·subst e;exact .inr ⟨qaB,qky,rfl⟩
        ·exact .inl (List.mem_of_mem_drop e)
     go_wp2_with fail
     go_region_with (go_at_call 117;refine(HW.out _ (by first|exact HB2.out.drew|exact HB2.out)).mono ?_;rintro e w3 ⟨a3,n3,qij,rfl,hl3,c13,f13,qw⟩;have QN:=qb qw;clear qw)
     all_goals
      go_wp2;go_ret;exact⟨by rw[HE.out];rfl,QN.out⟩
   ·have h1:qW (qe lns st sh) s k v=0:=by rw[HPE.out,if_neg (fun e=>by rw[hh]at e;cases e.1)]
    obtain⟨hi,_⟩:=(Tm.qaV hT hrs).1 hh;rw[Tm.qz]at hi
    have h2:zg (qe lns st sh) s k v={s with now:=s.now.set (Tm.below (qe lns st sh) (Tm.qj s.now) k) (s.next,(k,v)),next:=s.next+1}:=by
     unfold zg;rw[if_pos h1,Tm.qgq hT hrs hh]
    have HE:=qb h1;have HS:=qb h2;obtain⟨g,off,rfl,hg,x0,hva⟩:=(HI.out.qdu.below HB2.out).get hi;rcases HI.out.now.2 with⟨h9,_⟩|⟨g',z8,cur,h9,_,hgb,_⟩
    ·cases h9
    ·cases h9;rw[Nat.zero_add]at x0;have hgl:g<w.heap.size:=(Reads.qn HI.out.now).2.1 g rfl
     have qxC:w2.heap[g]?=some (.cells cur 138):=by rw[HB2.out.block g hgl];exact hgb
     have f0:w2.frozen? ⟨g,Tm.below (qe lns st sh) (Tm.qj s.now) k,none⟩=false:=by simp[World.frozen?,qxC]
     have QN:Hid (∀W,Below w.heap.size w W->Yu w ((W.setCell ⟨g,Tm.below (qe lns st sh) (Tm.qj s.now) k,none⟩ (.pointer (some ⟨W.heap.size,0,none⟩))).alloc (qbv (placeOf lns st sh k) k v)) X S bx bc st sh lns (zg (qe lns st sh) s k v)):=fun W hW=>by
      rw[HS.out,<-World.setCell_alloc_past _ _ _ _ (show g<W.heap.size by have:=hW.size;omega)];exact HX.out.qxB HI.out hW k v (by have:=Qqx.out;rw[HS.out]at this;exact this)
     have hbA:Below w2.heap.size w2 (w2.alloc (.cells #[.string (placeOf lns st sh k),.string k,.string v] 137)):=(Below.refl _ _).alloc (Nat.le_refl _) _
     have f0':(w2.alloc (.cells #[.string (placeOf lns st sh k),.string k,.string v] 137)).frozen? ⟨g,Tm.below (qe lns st sh) (Tm.qj s.now) k,none⟩=false:=by rw[hbA.frozen (p:=⟨g,Tm.below (qe lns st sh) (Tm.qj s.now) k,none⟩) hg];exact f0
     have x0':(w2.alloc (.cells #[.string (placeOf lns st sh k),.string k,.string v] 137)).cell? ⟨g,Tm.below (qe lns st sh) (Tm.qj s.now) k,none⟩=_:=(hbA.cell (p:=⟨g,Tm.below (qe lns st sh) (Tm.qj s.now) k,none⟩) hg).trans x0;clear hbA;generalize s.now[Tm.below (qe lns st sh) (Tm.qj s.now) k]=y at *;generalize Tm.below (qe lns st sh) (Tm.qj s.now) k=i at *
     have i1:(0:Int)<=(i:Int):=by omega
     have i2:(i:Int)<(s.now.length:Int):=by omega
     clear hgb qxC hva;go_wp2_with fail
     go_region
     all_goals
      go_wp2;go_ret;refine⟨by rw[HE.out];rfl,?_⟩;exact QN.out w2.drew HB2.out.drew
 ·have HPE:Hid (qW (qe lns st sh) s k v=7):=by unfold Hid qW;rw[if_pos (by omega)]
  have QN:Hid (Yu w W0 X S bx bc st sh lns (zg (qe lns st sh) s k v)):=by
   unfold Hid;rw[qan (by rw[HPE.out];omega)];exact Yu.qb2 HX.out HB0.out
  have iv:(64:Int)<(v.size:Int):=by omega
  go_enter Tryz.func74,Tryz.ntmps74
  go_upto_region 1 with fail
  rw[HW0.out];go_wp2;go_ret;exact⟨by rw[HPE.out];rfl,QN.out⟩
