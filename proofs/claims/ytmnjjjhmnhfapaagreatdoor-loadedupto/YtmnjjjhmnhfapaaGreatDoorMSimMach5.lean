import Derived.Conc.Pipeline3
import Derived.Below
import Derived.Test.YtmnjjjhmnhfapaaGreatDoorMLdLaw3
import Derived.Test.YtmnjjjhmnhfapaaGreatDoorMKpShown
namespace Go.Proofs.YtmnjjjhmnhfapaaGreatDoor
set_option maxRecDepth 100000
set_option maxHeartbeats 2000000
namespace Sim
open Go.Conc Go.RowKit
variable {w:World}{lns:List Tm.Ln}{p1 p2:List Tm.Fact}
def qru(fn:Func):Code:=match fn.body with
 | some (.seq _ (.seq _ (.seq _ (.seq _ (.seq _ (.seq _ (.seq _ c)))))))=>c
 | _=>.skip
theorem qvr{P:Program}{fn:Func}{c1 c2 c3 c4 c5 c6 c7 c:Code}(hb:fn.body=some (.seq c1 (.seq c2 (.seq c3 (.seq c4 (.seq c5 (.seq c6 (.seq c7 c)))))))){Q:Exit->Act->World->Prop}{a:Act}(h:c.wp P Q a w):(qru fn).wp P Q a w:=by
 unfold qru;rw[hb];exact h
def Qb9(w:World)(X1 X2 B2:Nat)(w02:World)(F1 S1:Nat->Prop)(vf1:Value)(bb1 bx1 bc1 bm1:Nat)(F2:Nat->Prop)(vf2:Value)(bb2 bx2 bc2 bm2:Nat)(t:Int)(sh:Bool)(lns:List Tm.Ln)(p1:List Tm.Fact)(s1:Qt)(p2:List Tm.Fact)(s2:Qt)(ms:Tm.QU)(k:Nat)(wr:World):Prop :=
 ∃F S:Nat->Prop,Duo wr X1 X2 B2 w02 F1 S1 vf1 bb1 bx1 bc1 bm1 F S vf2 bb2 bx2 bc2 bm2 t sh lns p1 s1 p2 (jx (qe lns t sh) s2 (ms.take k))/\Kept F2 w wr/\∀i,F i->F2 i\/w.heap.size<=i
theorem qvs{w02 wr:World}{X1 X2 B2:Nat}{F1 S1 F2:Nat->Prop}{vf1 vf2:Value}{bb1 bx1 bc1 bm1 bb2 bx2 bc2 bm2:Nat}{t:Int}{sh:Bool}{s1 s2:Qt}{ms:Tm.QU}{k:Nat}(h:Qb9 w X1 X2 B2 w02 F1 S1 vf1 bb1 bx1 bc1 bm1 F2 vf2 bb2 bx2 bc2 bm2 t sh lns p1 s1 p2 s2 ms k wr)(hk:k<ms.length){wz:World}(hz:Below wr.heap.size wr wz) :
  Calls Tryz.prog 33 #[.pointer (some ⟨bx2,0,none⟩),.string ms[k].1,.string ms[k].2] wz fun e w'=>e=.returned (.int .i64 (qW (qe lns t sh) (jx (qe lns t sh) s2 (ms.take k)) ms[k].1 ms[k].2))/\Qb9 w X1 X2 B2 w02 F1 S1 vf1 bb1 bx1 bc1 bm1 F2 vf2 bb2 bx2 bc2 bm2 t sh lns p1 s1 p2 s2 ms (k+1) w':=by
 obtain⟨F,S,D,kp,hF⟩:=h;have pz:Pre wr wz:=⟨hz.size,hz.block⟩
 have Dz:=D.pre pz;refine(QgA lns bc2 bm2 t sh X2 S bx2 _ ms[k].1 ms[k].2 wz Dz.b2.qhQ Dz.b2.ok Dz.b2.ix Dz.b2.size).mono ?_;rintro e w' ⟨rfl,hst⟩;refine⟨rfl,?_⟩;obtain⟨F',S',hB,hf,hi⟩:=Dz.b2.step hst;have hzs:=hz.size;have hks:=kp.size;refine⟨F',S',by rw[qgE ms k hk,qhB];exact Dz.second hB (Kept.of hf) hi,(kp.trans (Kept.pre (T:=fun _=>False) pz) (fun _ e=>e.elim)).trans (Kept.of hf) hF,fun i hii=>?_⟩;rcases hi i hii with x|x
 ·exact hF i x
 ·exact .inr (by omega)
theorem qtw{n st:Int}{sh:Bool}{vl:Value}{am a9:Option Addr}{yj c9:Nat}{ms:Tm.QU}{j:Nat->Value}{w w02:World}{X1 X2 B2:Nat}{F1 S1 F2 S2:Nat->Prop}{vf1 vf2:Value}{bb1 bx1 bc1 bm1 bb2 bx2 bc2 bm2:Nat}{t:Int}{lns:List Tm.Ln}{p1 p2:List Tm.Fact}{s1 s2:Qt}
  (D:Duo w X1 X2 B2 w02 F1 S1 vf1 bb1 bx1 bc1 bm1 F2 S2 vf2 bb2 bx2 bc2 bm2 t sh lns p1 s1 p2 s2) (qc9:qv s1=qv (jx (qe lns t sh) s2 ms)) (qpu:0<ms.length->Reads w (.slice a9 ms.length c9) 1 ms.length (jy (qe lns t sh) s2 ms)) (hm:0<ms.length->Reads w (.slice am ms.length yj) 2 ms.length (qY ms)) (ne:0<ms.length->∀g,(Value.slice a9 ms.length c9).ownBlock=some g->¬F2 g) (nm:0<ms.length->∀g,(Value.slice am ms.length yj).ownBlock=some g->¬F2 g) (hn:ms.length<=1048576)
  (j11:j 11=.pointer (some ⟨bb1,0,none⟩)) (j12:j 12=.pointer (some ⟨bb2,0,none⟩)) (j13:j 13=.slice a9 ms.length c9) :
  qpt.wp Tryz.prog (bodyPost Tryz.prog Tryz.f9 (fun e _=>∃v,e=.returned v/\v=.bool true)) (j5 n st sh vl (.slice am ms.length yj) j) w:=by
 refine qa8 (c':=qru Tryz.f9) (by kernel_rfl) rfl (fun _ _ _ q=>q) ?_;refine qvr rfl ?_;unfold j5;simp only[j11,j12,j13];have HD:=qb D;have QxW:=qb qc9;have Qyj:=qb qpu;have HM:=qb hm;have HNE:=qb ne;have HNM:=qb nm;have J:Hid (j 11=.pointer (some ⟨bb1,0,none⟩)):=j11;clear D qc9 qpu hm ne nm j11 j12 j13;have HI0:Hid (Qb9 w X1 X2 B2 w02 F1 S1 vf1 bb1 bx1 bc1 bm1 F2 vf2 bb2 bx2 bc2 bm2 t sh lns p1 s1 p2 s2 ms 0 w):=⟨F2,S2,HD.out,Kept.refl _ _,fun i hi=>.inl hi⟩
 obtain⟨N,hN⟩:∃N,ms.length=N:=⟨_,rfl⟩
 have HN:=qb hN;rw[hN]at Qyj HM HNE HNM hn⊢;clear hN;go_wp2_with fail
 go_loopw [14] (fun i wr=>∃k:Nat,k<=N/\i=.int .i64 k/\Hid (Qb9 w X1 X2 B2 w02 F1 S1 vf1 bb1 bx1 bc1 bm1 F2 vf2 bb2 bx2 bc2 bm2 t sh lns p1 s1 p2 s2 ms k wr)) (fun i _=>N-(intOf i).toNat)
 case atStart=>exact⟨0,Nat.zero_le _,rfl,HI0.out⟩
 case round =>
  obtain⟨k,hk,rfl,HI⟩:=hrel;by_cases hkm:k<N
  ·have hkl:k<ms.length:=by rw[HN.out];exact hkm
   have hNp:0<N:=by omega
   obtain⟨Fk,Sk,Dk,kpk,hFk⟩:=HI.out;obtain⟨g,off,rfl,hg,x0,x1⟩:=qa7 (es:=ms) (by rw[HN.out];exact kpk.reads (HM.out hNp) (HNM.out hNp)) hkl;have c1:=Dk.b2.c1;have hbb:=(Dk.b2.from_ bb2 Dk.b2.own).2;have QuX:Hid (∀wz,Below wr.heap.size wr wz->Calls Tryz.prog 33 #[.pointer (some ⟨bx2,0,none⟩),.string ms[k].1,.string ms[k].2] wz fun e w'=>e=.returned (.int .i64 (qW (qe lns t sh) (jx (qe lns t sh) s2 (ms.take k)) ms[k].1 ms[k].2))/\Qb9 w X1 X2 B2 w02 F1 S1 vf1 bb1 bx1 bc1 bm1 F2 vf2 bb2 bx2 bc2 bm2 t sh lns p1 s1 p2 s2 ms (k+1) w'):=fun wz hz=>qvs HI.out hkl hz;have QuU:Hid ((jy (qe lns t sh) s2 ms)[k]?=some (.int .i64 (qW (qe lns t sh) (jx (qe lns t sh) s2 (ms.take k)) ms[k].1 ms[k].2))):=qhC _ _ _ k hkl
   have QqA:Hid (∀w',Qb9 w X1 X2 B2 w02 F1 S1 vf1 bb1 bx1 bc1 bm1 F2 vf2 bb2 bx2 bc2 bm2 t sh lns p1 s1 p2 s2 ms (k+1) w'->w'.cell? ⟨bb2,1,none⟩=some (.pointer (some ⟨bx2,0,none⟩))/\w'.cell? ⟨g,off+k * 2,none⟩=some (.string ms[k].1)/\w'.cell? ⟨g,off+k * 2+1,none⟩=some (.string ms[k].2)):=fun w' hw'=>by
    obtain⟨F',S',D',kp',_⟩:=hw';obtain⟨g',j0,e',_,y0,y1⟩:=qa7 (es:=ms) (by rw[HN.out];exact kp'.reads (HM.out hNp) (HNM.out hNp)) hkl;cases e';exact⟨D'.b2.c1,y0,y1⟩
   generalize ms[k].1=ek at *;generalize ms[k].2=ev at *;generalize qW (qe lns t sh) (jx (qe lns t sh) s2 (ms.take k)) ek ev=err at *
   have i1:(0:Int)<=(k:Int):=by omega
   have i2:(k:Int)<(N:Int):=by omega
   clear Dk kpk hFk hkl
   go_upto_region 13 with fail
   go_cut [15]from 56 to 70 (fun x wx=>x=.int .i64 err/\Hid (Qb9 w X1 X2 B2 w02 F1 S1 vf1 bb1 bx1 bc1 bm1 F2 vf2 bb2 bx2 bc2 bm2 t sh lns p1 s1 p2 s2 ms (k+1) wx))
   case first =>
    go_region_held3 (fun wx=>wx.cell? ⟨bb2,1,none⟩=some (.pointer (some ⟨bx2,0,none⟩))/\wx.cell? ⟨g,off+k * 2,none⟩=some (.string ek)/\wx.cell? ⟨g,off+k * 2+1,none⟩=some (.string ev)) (go_keep)
     (first|(go_at_call 33;refine(QuX.out _ (Below.refl _ _).drew).mono ?_;rintro e wz ⟨rfl,hi⟩;obtain⟨d0,d1,d2⟩:=QqA.out wz hi;have HI1:=qb hi;clear hi))
    all_goals(go_wp2_with fail;go_meet;exact⟨rfl,HI1.out⟩)
   case rest =>
    obtain⟨rfl,HIC⟩:=hcut;obtain⟨Fc,Sc',Dc,kpc,hFc⟩:=HIC.out;obtain⟨g3,qBv,qij,he3,hg3,hc3⟩:=(kpc.reads (Qyj.out hNp) (HNE.out hNp)).form (by rw[qeM,HN.out];omega);cases he3;have z0:=hc3 k _ QuU.out;clear Dc kpc hFc x0 x1 c1;go_wp2_with fail
    go_roundw
    case rel=>exact⟨k+1,by omega,by go_num,HIC.out⟩
    case measure=>simp[intOf];omega
  ·have i2:¬(k:Int)<(N:Int):=by omega
   have hkN:k=N:=by omega
   obtain⟨Fk,Sk,Dk,kpk,hFk⟩:=HI.out
   have htk:ms.take k=ms:=by rw[hkN,<-HN.out];exact List.take_length
   rw[htk]at Dk;have HS:=qb (show Tm.qj s1.now=Tm.qj (jx (qe lns t sh) s2 ms).now from QxW.out)
   have j9:s1.now.length<=64:=by have:=Dk.b1.ix.few;rwa [yN]at this
   have HDK:=qb Dk;generalize jx (qe lns t sh) s2 ms=s9 at *;clear Dk kpk hFk htk HI hkN;go_wp2_with fail
   refine(qdS 0 s1.now _ HDK.out.b1 (by unfold qeJ;rw[if_pos rfl])).mono ?_;rintro e w2 ⟨ra,rc,rfl,yx,hB2,hf2⟩;have D2:=HDK.out.first hB2 (Kept.of (hf2.mono (fun i hi=>hi▸HDK.out.b1.own))) (fun i hi=>.inl hi);have HD2:=qb D2;have HO2:=qb yx;have hzb:=(HDK.out.b2.from_ bb2 HDK.out.b2.own).2;clear D2 yx hB2 hf2;go_wp2_with fail
   refine(qdS 0 s9.now _ HD2.out.b2 (by unfold qeJ;rw[if_pos rfl])).mono ?_;rintro e w3 ⟨qa,qc,rfl,zR,hB3,hf3⟩;have HD3:=qb (HD2.out.second hB3 (Kept.of (hf3.mono (fun i hi=>hi▸HD2.out.b2.own))) (fun i hi=>.inl hi));have HR2:Hid (Reads w3 (.slice ra s1.now.length rc) 2 s1.now.length (qY (Tm.qj s1.now))):=hf3.reads (Reads.qn HO2.out) (fun g hg e=>by have:=(HO2.out.lt g hg).1;omega);have HR3:=qb (Reads.qn zR);clear zR hB3 hf3
   have hls:s9.now.length=s1.now.length:=by have:=congrArg List.length HS.out;rw[Tm.qz,Tm.qz]at this;exact this.symm
   have HLS:=qb hls;clear hls;go_wp2_with fail
   refine(qin _ _ (Tm.qj s1.now) w3 (by rw[Tm.qz];exact HR2.out) (by rw[Tm.qz,HS.out,<-HLS.out];exact HR3.out) (by rw[Tm.qz];omega)).mono ?_;rintro e w4 ⟨rfl,m,rfl⟩;have c31:=HD3.out.b1.c3;have c32:=HD3.out.b2.c3;have d31:(w3.drewN m).cell? ⟨bb1,3,none⟩=some (.bool true):=c31;have d32:(w3.drewN m).cell? ⟨bb2,3,none⟩=some (.bool true):=c32;go_wp2;go_ret;exact⟨_,rfl,rfl⟩
end Sim
namespace Sim
open Go.Conc Go.RowKit
variable {w W0:World}{Ro:Nat->Prop}{N n:Nat}{Ms:Nat->Nat->Prop}
def opn(w:World)(c:Nat):Prop:=∃s r tm,w.heap[c]?=some (.chan 0 #[] false s r tm)
def shut(w:World)(c:Nat):Prop:=∃s r tm,w.heap[c]?=some (.chan 0 #[] true s r tm)
theorem opn.vJ{c:Nat}(h:opn w c):vJ w c:=by
 obtain⟨s,r,tm,h⟩:=h;exact⟨_,h,rfl⟩
structure Gh where
 c:Nat
 t:Tr
 fl:Nat
structure Kp(Ro:Nat->Prop)(N:Nat)(W0:World)(n:Nat)(Ms:Nat->Nat->Prop)(w:World):Prop where
 below:Below N W0 w
 low:∀i,i<n->∀b,b<N->Ms i b->Ro b
 le:N<=W0.heap.size
theorem Kp.own{w':World}{i:Nat}{M':Nat->Prop}{es:Array Event}(h:Kp Ro N W0 n Ms w)(hi:i<n)(ha:YK Ro (Ms i) w M' w' es):Kp Ro N W0 n (upd Ms i M') w':=by
 have hs:=h.below.size;have hle:=h.le;refine⟨⟨ha.os.trans h.below.os,ha.tape.trans h.below.tape,ha.output.trans h.below.output,Nat.le_trans hs ha.size,fun b hb=>?_⟩,fun j hj b hb hm=>?_,h.le⟩
 ·rw[<-h.below.block b hb];refine ha.same b (by omega) ?_;by_cases hm:Ms i b
  ·exact .inr (h.low i hi b hb hm)
  ·exact .inl hm
 ·by_cases e:j=i
  ·subst e;rw[jh]at hm;rcases ha.new b hm with x|x
   ·exact h.low j hj b hb x
   ·omega
  ·rw[y9 _ _ e]at hm;exact h.low j hj b hb hm
theorem Kp.chan{w':World}{c:Nat}(h:Kp Ro N W0 n Ms w)(hc:W0.heap.size<=c)(hn:∀b,b≠c->w'.heap[b]?=w.heap[b]?)(h1:w'.os=w.os)(h2:w'.tape=w.tape)(h3:w'.output=w.output)(h4:w'.heap.size=w.heap.size):Kp Ro N W0 n Ms w':=by
 have hle:=h.le;exact⟨⟨h1.trans h.below.os,h2.trans h.below.tape,h3.trans h.below.output,by rw[h4];exact h.below.size,fun b hb=>by rw[hn b (by omega)];exact h.below.block b hb⟩,h.low,h.le⟩
theorem Kp.at(h:Kp Ro N W0 n Ms w)(d:Nat):Kp Ro N W0 n Ms (w.at d):=⟨⟨h.below.os,h.below.tape,h.below.output,h.below.size,h.below.block⟩,h.low,h.le⟩
section
variable (P:Program)(Ro:Nat->Prop)(Qk:Value->World->Prop)
def XS(rem:Nat->List (Option Value))(t:Trace)(idx:Nat)(x:Gh)(M:Nat->Prop)(g:Goroutine)(w:World):Prop :=
 (x.fl=1/\∃vs,SdT P Ro x.c x.t vs M g w/\rem x.c=vs.map some++[none]/\opn w x.c) \/
 (x.fl=0/\∃g' v vs z f,g=parked g' #[scase x.c v z] .send/\x.t=.node f/\rem x.c=some v::(vs.map some++[none])/\opn w x.c/\∀W1,QK M w W1->SdT P Ro x.c (f W1) vs M (Conc.served g' undef) W1) \/
 (x.fl=2/\∃k,x.t=chain k/\QuitsIn P k g/\shut w x.c/\(rem x.c=[none]\/(rem x.c=[]/\∃(p:Nat) (op:MemOp),t[p]?=some op/\op.g=0/\op.act=.recvClosed x.c)) /\
  ∃(pc:Nat) (op:MemOp),t[pc]?=some op/\op.g=idx/\op.act=.close x.c/\∀(p:Nat) (op':MemOp),t[p]?=some op'->op'.g=idx->p<=pc)
def ScR(f:World->Tr)(c:Nat)(ok:Bool)(z:Value)(o:Option Value)(r:List (Option Value))(made:Option Nat)(rem:Nat->List (Option Value))(M:Nat->Prop)(g:Goroutine)(w:World):Prop :=
 g.status=.running/\rem c=o::r/\M c/\∀W1,QK M w W1->stepG P true g W1=.comm g #[rcase c z] true (.recv ok) W1 #[]/\ScT P Ro Qk (f W1) made (upd rem c r) M (Conc.served g (recvd ok (o.getD z) o.isSome)) W1
def QdE(t0:Tr)(pk:Option Nat)(made:Option Nat)(rem:Nat->List (Option Value))(M:Nat->Prop)(g0:Goroutine)(w:World):Prop :=
 (pk=none/\ScT P Ro Qk t0 made rem M g0 w) \/
 (∃c g ok z f o r,pk=some c/\g0=parked g #[rcase c z] (.recv ok)/\t0=.node f/\ScR P Ro Qk f c ok z o r made rem M g w) \/
 (∃c g ok z f o r,pk=none/\g0={parked g #[rcase c z] (.recv ok)with status:=.running}/\t0=.node f/\shut w c/\ScR P Ro Qk f c ok z o r made rem M g w)
variable (W0:World)(N:Nat)
structure MI(t0:Tr)(pk made:Option Nat)(rem:Nat->List (Option Value))(Ms:Nat->Nat->Prop)(ss:List Gh)(gs:Array Goroutine)(w:World)(t:Trace):Prop where
 size:gs.size=ss.length+1
 env:Env Ro gs.size Ms w t
 main:∃g0,gs[0]?=some g0/\QdE P Ro Qk t0 pk made rem (Ms 0) g0 w
 snd:∀(j:Nat) x,ss[j]?=some x->∃g,gs[j+1]?=some g/\XS P Ro rem t (j+1) x (Ms (j+1)) g w
 qbI:∀(i j:Nat) x y,i≠j->ss[i]?=some x->ss[j]?=some y->x.c≠y.c
 born:∀c,made=some c->opn w c/\W0.heap.size<=c/\∀(j:Nat) x,ss[j]?=some x->x.c≠c
 new:∀(j:Nat) x,ss[j]?=some x->W0.heap.size<=x.c
 qet:∀c o r,rem c=o::r->∃(j:Nat) (x:Gh),ss[j]?=some x/\x.c=c
 meet:∀c,pk=some c->∃(j:Nat) (x:Gh),ss[j]?=some x/\x.c=c/\x.fl=1
 old:Kp Ro N W0 gs.size Ms w
 qcc:W0.heap.size<=w.heap.size
end
variable {pk pk':Option Nat}
abbrev Mu:=Tr×List (Tr×Nat)×Nat
def qkg:Tr×Nat->Tr×Nat->Prop:=Prod.Lex Tr.Sub (· <·)
def Lt:Mu->Mu->Prop:=Prod.Lex Tr.Sub (Prod.Lex (QbJ qkg) (· <·))
theorem qkg.wf:WellFounded qkg:=(Prod.lex ⟨_,Tr.wf⟩ Nat.lt_wfRel).wf
theorem Lt.wf:WellFounded Lt:=(Prod.lex ⟨_,Tr.wf⟩ (Prod.lex ⟨_,QbJ.wf qkg.wf⟩ Nat.lt_wfRel)).wf
def mu(t0:Tr)(ss:List Gh)(pk:Option Nat):Mu:=(t0,ss.map (fun x=>(x.t,x.fl)),if pk=none then 1 else 0)
theorem qeR{t0 t0':Tr}{ss ss':List Gh}(h:Tr.Sub t0' t0):Lt (mu t0' ss' pk') (mu t0 ss pk):=.left _ _ h
theorem qnz{t0:Tr}{ss:List Gh}{j:Nat}{x x':Gh}(hj:ss[j]?=some x)(h:qkg (x'.t,x'.fl) (x.t,x.fl)):Lt (mu t0 (ss.set j x') pk') (mu t0 ss pk):=by
 refine .right _ (.left _ _ ?_);rw[List.map_set];exact QbJ.set (a:=(x.t,x.fl)) (by simp[hj]) h
theorem qwT{t0:Tr}{ss:List Gh}{c:Nat}:Lt (mu t0 ss (some c)) (mu t0 ss none):=.right _ (.right _ (by simp))
section
variable {P:Program}{Ro:Nat->Prop}{Qk:Value->World->Prop}{W0:World}{N:Nat}
variable {rem:Nat->List (Option Value)}{t:Trace}{idx c:Nat}{M:Nat->Prop}{g:Goroutine}{w w':World}{made pk:Option Nat}{es:Array Event}{Ms:Nat->Nat->Prop}{gs:Array Goroutine}
theorem XS.zc{qit:Nat->List (Option Value)}{u:Trace}{x:Gh}(h:XS P Ro rem t idx x M g w)(hr:QK M w w')(hc:w'.heap[x.c]?=w.heap[x.c]?)(yp:qit x.c=rem x.c)(hu:∀op∈u,op.g≠idx) :
  XS P Ro qit (t++u) idx x M g w':=by
 have ho:opn w x.c->opn w' x.c:=fun⟨s,r,tm,k⟩=>⟨s,r,tm,hc.trans k⟩
 have hs:shut w x.c->shut w' x.c:=fun⟨s,r,tm,k⟩=>⟨s,r,tm,hc.trans k⟩
 rcases h with⟨h1,vs,h2,h3,h4⟩|⟨h1,g',v,vs,z,f,h2,h3,h4,h5,h6⟩|⟨h1,k,h2,h3,h4,h5,pc,op,h6,h7,h8,h9⟩
 ·exact .inl ⟨h1,vs,h2.rely hr,yp.trans h3,ho h4⟩
 ·exact .inr (.inl ⟨h1,g',v,vs,z,f,h2,h3,yp.trans h4,ho h5,fun W1 r=>h6 W1 (hr.after r)⟩)
 ·refine .inr (.inr ⟨h1,k,h2,h3,hs h4,?_,pc,op,by rw[getElem?_append_old (lt_size_of_getElem? h6)];exact h6,h7,h8,fun p op' hp hg=>?_⟩)
  ·rw[yp];refine h5.imp id fun⟨y,p,op,y1,y2⟩=>⟨y,p,op,by rw[getElem?_append_old (lt_size_of_getElem? y1)];exact y1,y2⟩
  ·rcases getElem?_append_cases hp with⟨_,hp'⟩|⟨_,hpu⟩
   ·exact h9 p op' hp' hg
   ·exact absurd hg (hu op' hpu)
theorem ScR.zc{f:World->Tr}{ok:Bool}{z:Value}{o:Option Value}{r:List (Option Value)}(h:ScR P Ro Qk f c ok z o r made rem M g w)(hr:QK M w w'):ScR P Ro Qk f c ok z o r made rem M g w' :=
 ⟨h.1,h.2.1,h.2.2.1,fun W1 r=>h.2.2.2 W1 (hr.after r)⟩
theorem QdE.zc{t0:Tr}{g0:Goroutine}(h:QdE P Ro Qk t0 pk made rem M g0 w)(hr:QK M w w')(hc:∀c,shut w c->shut w' c):QdE P Ro Qk t0 pk made rem M g0 w':=by
 rcases h with⟨h1,h2⟩|⟨c,g,ok,z,f,o,r,h1,h2,h3,h4⟩|⟨c,g,ok,z,f,o,r,h1,h2,h3,h4,h5⟩
 ·exact .inl ⟨h1,h2.rely hr⟩
 ·exact .inr (.inl ⟨c,g,ok,z,f,o,r,h1,h2,h3,h4.zc hr⟩)
 ·exact .inr (.inr ⟨c,g,ok,z,f,o,r,h1,h2,h3,hc c h4,h5.zc hr⟩)
theorem XS.woken{x:Gh}(h:XS P Ro rem t idx x M g w)(hc:opn w x.c->opn w' x.c)(a a':Goroutine):Conc.woken P a a' w' g=g:=by
 rcases h with⟨_,vs,h2,_,_⟩|⟨_,g',v,vs,z,f,rfl,_,_,h5,_⟩|⟨_,k,_,h3,_⟩
 ·exact woken_running h2.running
 ·obtain⟨s,r,tm,k⟩:=hc h5;exact woken_send_open a a' k
 ·exact woken_quits h3
theorem QdE.woken{t0:Tr}(h:QdE P Ro Qk t0 pk made rem M g w)(hc:∀c,pk=some c->opn w' c)(a a':Goroutine):Conc.woken P a a' w' g=g:=by
 rcases h with⟨_,h2⟩|⟨c,g,ok,z,f,o,r,h1,rfl,_,_⟩|⟨c,g,ok,z,f,o,r,_,rfl,_,_⟩
 ·exact woken_running h2.running
 ·obtain⟨s,r,tm,k⟩:=hc c h1;exact woken_recv_open a a' k
 ·exact woken_running rfl
theorem XS.awake{x:Gh}(h:XS P Ro rem t idx x M g w):Conc.awake g:=by
 rcases h with⟨_,vs,h2,_,_⟩|⟨_,g',v,vs,z,f,rfl,_⟩|⟨_,k,_,h3,_⟩
 ·intro y e;rw[h2.running]at e;cases e
 ·intro y e;cases e
 ·intro y e;rcases h3.status with h|h<;>rw[h]at e<;>cases e
theorem QdE.awake{t0:Tr}(h:QdE P Ro Qk t0 pk made rem M g w):Conc.awake g:=by
 rcases h with⟨_,h2⟩|⟨c,g,ok,z,f,o,r,_,rfl,_⟩|⟨c,g,ok,z,f,o,r,_,rfl,_⟩
 ·intro y e;rw[h2.running]at e;cases e
 ·intro y e;cases e
 ·intro y e;cases e
theorem XS.qnA{x:Gh}(h:XS P Ro rem t idx x M g w)(c:Nat):offersAt g c false=[]:=by
 rcases h with⟨_,vs,h2,_,_⟩|⟨_,g',v,vs,z,f,rfl,_⟩|⟨_,k,_,h3,_⟩
 ·exact offersAt_of_not_blocked (by rw[h2.running];nofun) _ _
 ·exact offersAt_parked_send' ..
 ·exact offersAt_of_not_blocked (by rcases h3.status with h|h<;>rw[h]<;>nofun) _ _
theorem XS.qyk{x:Gh}(h:XS P Ro rem t idx x M g w)(hc:x.c=c->x.fl≠0):offersAt g c true=[]:=by
 rcases h with⟨_,vs,h2,_,_⟩|⟨h1,g',v,vs,z,f,rfl,_⟩|⟨_,k,_,h3,_⟩
 ·exact offersAt_of_not_blocked (by rw[h2.running];nofun) _ _
 ·rw[offersAt_parked_send,if_neg fun e=>hc e h1]
 ·exact offersAt_of_not_blocked (by rcases h3.status with h|h<;>rw[h]<;>nofun) _ _
theorem QdE.qnA{t0:Tr}(h:QdE P Ro Qk t0 pk made rem M g w)(hc:pk≠some c):offersAt g c false=[]:=by
 rcases h with⟨_,h2⟩|⟨c',g,ok,z,f,o,r,h1,rfl,_⟩|⟨c',g,ok,z,f,o,r,_,rfl,_⟩
 ·exact offersAt_of_not_blocked (by rw[h2.running];nofun) _ _
 ·rw[offersAt_parked_recv,if_neg fun e=>hc (by rw[h1,e])]
 ·exact offersAt_of_not_blocked (by nofun) _ _
theorem YK.opn{M':Nat->Prop}(k:YK Ro M w M' w' es)(h:opn w c):opn w' c:=by
 obtain⟨s,r,tm,h⟩:=h;exact⟨s,r,tm,k.chan c _ h rfl⟩
theorem YK.shut{M':Nat->Prop}(k:YK Ro M w M' w' es)(h:shut w c):shut w' c:=by
 obtain⟨s,r,tm,h⟩:=h;exact⟨s,r,tm,k.chan c _ h rfl⟩
theorem XS.chan{x:Gh}(h:XS P Ro rem t idx x M g w):∃o,w.heap[x.c]?=some o/\o.isChan=true:=by
 rcases h with⟨_,vs,_,_,s,r,tm,h⟩|⟨_,g',v,vs,z,f,_,_,_,⟨s,r,tm,h⟩,_⟩|⟨_,k,_,_,⟨s,r,tm,h⟩,_⟩<;>exact⟨_,h,rfl⟩
theorem XS.at{x:Gh}(h:XS P Ro rem t idx x M g w)(d:Nat):XS P Ro rem t idx x M g (w.at d):=by
 have:=h.zc (u:=#[]) (qit:=rem) ((Qad.at w d).rely M) rfl rfl (fun op hop=>by cases hop;rename_i x;cases x)
 rwa [Array.append_empty]at this
theorem MI.at{t0:Tr}{ss:List Gh}(h:MI P Ro Qk W0 N t0 pk made rem Ms ss gs w t)(d:Nat):MI P Ro Qk W0 N t0 pk made rem Ms ss gs (w.at d) t :=
 ⟨h.size,h.env.at d,let ⟨g0,h1,h2⟩:=h.main;⟨g0,h1,h2.zc ((Qad.at w d).rely _) fun _ y=>y⟩,fun j x hj=>let ⟨g,h1,h2⟩:=h.snd j x hj;⟨g,h1,h2.at d⟩,h.qbI,h.born,h.new,h.qet,h.meet,h.old.at d,h.qcc⟩
theorem MI.ghost{t0:Tr}{ss:List Gh}(h:MI P Ro Qk W0 N t0 pk made rem Ms ss gs w t){j:Nat}(hg:gs[j+1]?=some g):∃x,ss[j]?=some x/\XS P Ro rem t (j+1) x (Ms (j+1)) g w:=by
 obtain⟨hlt,_⟩:=Array.getElem?_eq_some_iff.1 hg
 have:j<ss.length:=by have:=h.size;omega
 obtain⟨g',h1,h2⟩:=h.snd j ss[j] (List.getElem?_eq_getElem this);rw[hg]at h1;cases h1;exact⟨_,List.getElem?_eq_getElem this,h2⟩
end
end Sim
namespace Sim
open Go.Conc Go.RowKit
section
variable (P:Program)(Ro:Nat->Prop)(Qk:Value->World->Prop)(W0:World)(N:Nat)
def QlC(μ:Mu)(m:Machine)(t:Trace):Prop:=∃t0 pk made rem Ms ss gs w sl,μ=mu t0 ss pk/\m=crowd gs w sl/\MI P Ro Qk W0 N t0 pk made rem Ms ss gs w t
def Nxt(t0:Tr)(pk:Option Nat)(ss:List Gh)(gs:Array Goroutine)(w:World)(sl:Option (Nat×Nat))(t:Trace)(i:Nat):Prop :=
 ∃m' ops μ',runT P (crowd gs w sl) i=(.next m',ops)/\Lt μ' (mu t0 ss pk)/\QlC P Ro Qk W0 N μ' m' (t++ops)
end
section
variable {P:Program}{Ro:Nat->Prop}{Qk:Value->World->Prop}{W0:World}{N:Nat}
variable {i j:Nat}{g:Goroutine}
 {t0:Tr} {pk made:Option Nat} {rem:Nat->List (Option Value)} {Ms:Nat->Nat->Prop} {ss:List Gh} {gs gs':Array Goroutine} {w w':World} {t:Trace} {sl:Option (Nat×Nat)}
theorem qnB(hi:gs[i]?=some g)(f:Goroutine->Goroutine)(g':Goroutine):((gs.map f).setIfInBounds i g')[i]?=some g':=by
 obtain⟨hlt,_⟩:=Array.getElem?_eq_some_iff.1 hi;exact Array.getElem?_setIfInBounds_self_of_lt (by simpa using hlt)
theorem qcA(hne:j≠i)(f:Goroutine->Goroutine)(g':Goroutine):((gs.map f).setIfInBounds i g')[j]?=(gs[j]?).map f:=by
 rw[Array.getElem?_setIfInBounds_ne (Ne.symm hne)];simp
theorem qba(hi:gs[i]?=some g)(g':Goroutine):(gs.setIfInBounds i g')[i]?=some g':=by
 obtain⟨hlt,_⟩:=Array.getElem?_eq_some_iff.1 hi;exact Array.getElem?_setIfInBounds_self_of_lt hlt
theorem ye(hne:j≠i)(g':Goroutine):(gs.setIfInBounds i g')[j]?=gs[j]?:=Array.getElem?_setIfInBounds_ne (Ne.symm hne)
theorem MI.qha(h:MI P Ro Qk W0 N t0 pk made rem Ms ss gs w t){qit:Nat->List (Option Value)}{u:Trace}{Ms':Nat->Nat->Prop}{x:Gh}(hj:ss[j]?=some x)(hg:gs'[j+1]?=gs[j+1]?)(hr:QK (Ms (j+1)) w w')(hc:w'.heap[x.c]?=w.heap[x.c]?)
  (yp:qit x.c=rem x.c) (hu:∀op∈u,op.g≠j+1) (hM:Ms' (j+1)=Ms (j+1)):∃g,gs'[j+1]?=some g/\XS P Ro qit (t++u) (j+1) x (Ms' (j+1)) g w':=by
 obtain⟨g,h1,h2⟩:=h.snd j x hj;exact⟨g,hg.trans h1,by rw[hM];exact h2.zc hr hc yp hu⟩
theorem MI.pos(h:MI P Ro Qk W0 N t0 pk made rem Ms ss gs w t):0<gs.size:=by rw[h.size];omega
theorem MI.jlt(h:MI P Ro Qk W0 N t0 pk made rem Ms ss gs w t){x:Gh}(hj:ss[j]?=some x):j+1<gs.size:=by
 have:j<ss.length:=(List.getElem?_eq_some_iff.1 hj).1;have:=h.size;omega
theorem MI.clt(h:MI P Ro Qk W0 N t0 pk made rem Ms ss gs w t){x:Gh}(hj:ss[j]?=some x):x.c<w.heap.size:=by
 obtain⟨g,_,h2⟩:=h.snd j x hj;obtain⟨o,ho,_⟩:=h2.chan;exact(Array.getElem?_eq_some_iff.1 ho).1
theorem YK.keeps{M M':Nat->Prop}{es:Array Event}(k:YK Ro M w M' w' es){c:Nat}(h:∃o,w.heap[c]?=some o/\o.isChan=true):w'.heap[c]?=w.heap[c]?:=by
 obtain⟨o,h1,h2⟩:=h;rw[h1];exact k.chan c o h1 h2
theorem MI.qph(h:MI P Ro Qk W0 N t0 pk made rem Ms ss gs w t){c:Nat}(hp:pk=some c):opn w c:=by
 obtain⟨j,x,hj,rfl,hf⟩:=h.meet c hp;obtain⟨g,_,h2⟩:=h.snd j x hj;rcases h2 with⟨_,vs,_,_,h4⟩|⟨h1,_⟩|⟨h1,_⟩
 ·exact h4
 ·rw[hf]at h1;cases h1
 ·rw[hf]at h1;cases h1
theorem MI.go0(h:MI P Ro Qk W0 N t0 pk made rem Ms ss gs w t)(hi:gs[0]?=some g){x:Nx}(hs:stepG P true g w=.go x.g x.w x.es)(ha:YK Ro (Ms 0) w x.M x.w x.es){qiy:Option Nat}
  (qy1:∀c,qiy=some c->opn x.w c/\W0.heap.size<=c/\∀(j:Nat) y,ss[j]?=some y->y.c≠c) {t0':Tr} (hn:ScT P Ro Qk t0' qiy rem x.M x.g x.w) (qnC:Tr.Sub t0' t0):Nxt P Ro Qk W0 N t0 pk ss gs w sl t 0:=by
 refine⟨_,_,_,runT_crowd_go hi (by simpa using hs),qeR (pk':=none) (ss':=ss) qnC,t0',none,qiy,rem,upd Ms 0 x.M,ss,_,_,sl,rfl,rfl,?_⟩
 have others:∀j y,ss[j]?=some y->((gs.map (Conc.woken P g x.g x.w)).setIfInBounds 0 x.g)[j+1]?=gs[j+1]?:=fun j y hj=>by
  obtain⟨gj,h1,h2⟩:=h.snd j y hj;rw[qcA (by omega),h1,Option.map_some,h2.woken (fun z=>ha.opn z)]
 refine⟨by simpa using h.size,?_,⟨x.g,qnB hi _ _,.inl ⟨rfl,by rw[jh];exact hn⟩⟩,fun j y hj=>?_,h.qbI,qy1,h.new,h.qet,(fun c hc=>by cases hc),by simpa using h.old.own h.pos ha,Nat.le_trans h.qcc ha.size⟩
 ·have:=h.env.own h.pos ha g.frame.fn g.frame.place;simpa using this
 ·obtain⟨gj,h1,h2⟩:=h.snd j y hj;exact h.qha hj (others j y hj) (h.env.rely h.pos (h.jlt hj) (by omega) ha) (ha.keeps h2.chan) rfl (fun op hop=>by obtain⟨e,_,rfl⟩:=xj hop;show 0≠j+1;omega) (y9 _ _ (by omega))
theorem MI.goS(h:MI P Ro Qk W0 N t0 pk made rem Ms ss gs w t){y:Gh}(hj:ss[j]?=some y)(hi:gs[j+1]?=some g){x:Nx}(hs:stepG P false g w=.go x.g x.w x.es)(ha:YK Ro (Ms (j+1)) w x.M x.w x.es)
  {y':Gh} (hc:y'.c=y.c) (hfl:y.fl=1->y'.fl=1) (hy:∀u,(∀op∈u,∃e∈x.es,op={g:=j+1,fn:=g.frame.fn,pos:=g.frame.place,act:=.ofEvent e})->XS P Ro rem (t++u) (j+1) y' x.M x.g x.w) (qnC:qkg (y'.t,y'.fl) (y.t,y.fl)):Nxt P Ro Qk W0 N t0 pk ss gs w sl t (j+1):=by
 have hs':stepG P ((j+1:Nat) == 0) g w=.go x.g x.w x.es:=by simpa using hs
 refine⟨_,_,_,runT_crowd_go hi hs',qnz (pk':=pk) hj qnC,t0,pk,made,rem,upd Ms (j+1) x.M,ss.set j y',_,_,sl,rfl,rfl,?_⟩;have hjl:j<ss.length:=(List.getElem?_eq_some_iff.1 hj).1
 have get:∀l z,(ss.set j y')[l]?=some z->(l=j/\z=y')\/(l≠j/\ss[l]?=some z):=fun l z hl=>by
  by_cases e:l=j
  ·subst e;rw[List.getElem?_set_self hjl]at hl;cases hl;exact .inl ⟨rfl,rfl⟩
  ·rw[List.getElem?_set_ne (Ne.symm e)]at hl;exact .inr ⟨e,hl⟩
 have qrv:∀(l:Nat) z,(ss.set j y')[l]?=some z->∃z',ss[l]?=some z'/\z.c=z'.c:=fun l z hl=>by
  rcases get l z hl with⟨rfl,rfl⟩|⟨_,h1⟩
  ·exact⟨y,hj,hc⟩
  ·exact⟨z,h1,rfl⟩
 have back:∀(l:Nat) z,ss[l]?=some z->∃z',(ss.set j y')[l]?=some z'/\z'.c=z.c/\(z.fl=1->z'.fl=1):=fun l z hl=>by
  by_cases e:l=j
  ·subst e;rw[hj]at hl;cases hl;exact⟨y',List.getElem?_set_self hjl,hc,hfl⟩
  ·exact⟨z,by rw[List.getElem?_set_ne (Ne.symm e)];exact hl,rfl,id⟩
 refine⟨by simpa using h.size,?_,?_,fun l z hl=>?_,fun a b z1 z2 hne h1 h2=>?_,fun c hm=>?_,fun l z hl=>?_,fun c o r hr=>?_,fun c hp=>?_,by simpa using h.old.own (h.jlt hj) ha,Nat.le_trans h.qcc ha.size⟩
 ·have:=h.env.own (h.jlt hj) ha g.frame.fn g.frame.place;simpa using this
 ·obtain⟨g0,h1,h2⟩:=h.main;refine⟨g0,?_,?_⟩
  ·rw[qcA (by omega),h1,Option.map_some,h2.woken (fun c hp=>ha.opn (h.qph hp))]
  ·rw[y9 _ _ (by omega)];exact h2.zc (h.env.rely (h.jlt hj) h.pos (by omega) ha) (fun c hs=>ha.shut hs)
 ·rcases get l z hl with⟨rfl,rfl⟩|⟨hne,h1⟩
  ·exact⟨x.g,qnB hi _ _,by rw[jh];exact hy _ fun op hop=>xj hop⟩
  ·obtain⟨gl,h2,h3⟩:=h.snd l z h1;refine h.qha h1 ?_ (h.env.rely (h.jlt hj) (h.jlt h1) (by omega) ha) (ha.keeps h3.chan) rfl (fun op hop=>by obtain⟨e,_,rfl⟩:=xj hop;show j+1≠l+1;omega) (y9 _ _ (by omega));rw[qcA (by omega),h2,Option.map_some,h3.woken (fun z=>ha.opn z)]
 ·obtain⟨a1,e1,e2⟩:=qrv a z1 h1;obtain⟨b1,e3,e4⟩:=qrv b z2 h2;rw[e2,e4];exact h.qbI a b a1 b1 hne e1 e3
 ·obtain⟨k1,k2,k3⟩:=h.born c hm;refine⟨ha.opn k1,k2,fun l z hl=>?_⟩;obtain⟨a1,e1,e2⟩:=qrv l z hl;rw[e2];exact k3 l a1 e1
 ·obtain⟨a1,e1,e2⟩:=qrv l z hl;rw[e2];exact h.new l a1 e1
 ·obtain⟨l,z,h1,h2⟩:=h.qet c o r hr;obtain⟨z',h3,h4,_⟩:=back l z h1;exact⟨l,z',h3,h4.trans h2⟩
 ·obtain⟨l,z,h1,h2,h5⟩:=h.meet c hp;obtain⟨z',h3,h4,h6⟩:=back l z h1;exact⟨l,z',h3,h4.trans h2,h6 h5⟩
end
end Sim
namespace Sim
open Go.Conc Go.RowKit
section
variable {P:Program}{Ro:Nat->Prop}{Qk:Value->World->Prop}{W0:World}{N:Nat}
variable {j l:Nat}
 {t0:Tr} {pk made:Option Nat} {rem:Nat->List (Option Value)} {Ms:Nat->Nat->Prop} {ss:List Gh} {gs gs':Array Goroutine} {w w':World} {t:Trace} {sl:Option (Nat×Nat)}
theorem qhb{y y' z:Gh}(hj:ss[j]?=some y)(hl:(ss.set j y')[l]?=some z):(l=j/\z=y')\/(l≠j/\ss[l]?=some z):=by
 have hjl:j<ss.length:=(List.getElem?_eq_some_iff.1 hj).1;by_cases e:l=j
 ·subst e;rw[List.getElem?_set_self hjl]at hl;cases hl;exact .inl ⟨rfl,rfl⟩
 ·rw[List.getElem?_set_ne (Ne.symm e)]at hl;exact .inr ⟨e,hl⟩
theorem qca{y y' z:Gh}(hj:ss[j]?=some y)(hc:y'.c=y.c)(hl:(ss.set j y')[l]?=some z):∃z',ss[l]?=some z'/\z.c=z'.c:=by
 rcases qhb hj hl with⟨rfl,rfl⟩|⟨_,h1⟩
 ·exact⟨y,hj,hc⟩
 ·exact⟨z,h1,rfl⟩
theorem qiu{y y' z:Gh}(hj:ss[j]?=some y)(hc:y'.c=y.c)(hl:ss[l]?=some z):∃z',(ss.set j y')[l]?=some z'/\z'.c=z.c/\(l≠j->z'=z):=by
 have hjl:j<ss.length:=(List.getElem?_eq_some_iff.1 hj).1;by_cases e:l=j
 ·subst e;rw[hj]at hl;cases hl;exact⟨y',List.getElem?_set_self hjl,hc,fun x=>absurd rfl x⟩
 ·exact⟨z,by rw[List.getElem?_set_ne (Ne.symm e)];exact hl,rfl,fun _=>rfl⟩
theorem MI.qiv(h:MI P Ro Qk W0 N t0 pk made rem Ms ss gs w t){y y':Gh}(hj:ss[j]?=some y)(hc:y'.c=y.c):∀(a b:Nat) z1 z2,a≠b->(ss.set j y')[a]?=some z1->(ss.set j y')[b]?=some z2->z1.c≠z2.c:=fun a b z1 z2 hne h1 h2=>by
 obtain⟨a1,e1,e2⟩:=qca hj hc h1;obtain⟨b1,e3,e4⟩:=qca hj hc h2;rw[e2,e4];exact h.qbI a b a1 b1 hne e1 e3
theorem MI.qnD(h:MI P Ro Qk W0 N t0 pk made rem Ms ss gs w t){y y':Gh}(hj:ss[j]?=some y)(hc:y'.c=y.c):∀(l:Nat) z,(ss.set j y')[l]?=some z->W0.heap.size<=z.c:=fun l z hl=>by
 obtain⟨a1,e1,e2⟩:=qca hj hc hl;rw[e2];exact h.new l a1 e1
theorem MI.same(h:MI P Ro Qk W0 N t0 pk made rem Ms ss gs w t){y z:Gh}(hj:ss[j]?=some y)(hl:ss[l]?=some z)(hc:z.c=y.c):l=j/\z=y:=by
 by_cases e:l=j
 ·subst e;rw[hj]at hl;cases hl;exact⟨rfl,rfl⟩
 ·exact absurd hc (h.qbI l j z y e hl hj)
theorem MI.qnE(h:MI P Ro Qk W0 N t0 pk made rem Ms ss gs w t){y:Gh}(hj:ss[j]?=some y):∀(k:Nat) (x:Goroutine),k≠j+1\/y.fl≠0->(gs.setIfInBounds 0 ph)[k]?=some x->offersAt x y.c true=[]:=fun k x hk hx=>by
 rcases getElem?_stand gs 0 k x hx with⟨_,rfl⟩|⟨hne,hx⟩
 ·exact offersAt_ph ..
 ·obtain⟨l,rfl⟩:∃l,k=l+1:=⟨k-1,by omega⟩
  obtain⟨z,hl,h2⟩:=h.ghost hx;refine h2.qyk fun e e0=>?_;obtain⟨rfl,rfl⟩:=h.same hj hl e;exact hk.elim (fun x=>x rfl) (fun x=>x e0)
theorem MI.qti(h:MI P Ro Qk W0 N t0 pk made rem Ms ss gs w t){i c:Nat}:∀(k:Nat) (x:Goroutine),k≠0\/pk≠some c->(gs.setIfInBounds i ph)[k]?=some x->offersAt x c false=[]:=fun k x hk hx=>by
 rcases getElem?_stand gs i k x hx with⟨_,rfl⟩|⟨hne,hx⟩
 ·exact offersAt_ph ..
 ·cases k with
  | zero =>
   obtain⟨g0,h1,h2⟩:=h.main;rw[hx]at h1;cases h1;exact h2.qnA (hk.resolve_left fun x=>x rfl)
  | succ l =>
   obtain⟨z,hl,h2⟩:=h.ghost hx;exact h2.qnA c
theorem MI.start(h:MI P Ro Qk W0 N t0 pk made rem Ms ss gs w t){g:Goroutine}(hi:gs[0]?=some g){c:Nat}{vs:List Value}{g' child:Goroutine}{Mc:Nat->Prop}(hm:made=some c)(hs:stepG P true g w=.spawn g' child w #[])
  (hMc:∀b,Mc b->Ms 0 b/\(Ro b\/b=c)) {t1:Tr} (hsd:SdT P Ro c t1 vs Mc child w) {t0':Tr} (hn:ScT P Ro Qk t0' none (upd rem c (vs.map some++[none])) (Ms 0) g' w) (qnC:Tr.Sub t0' t0):Nxt P Ro Qk W0 N t0 pk ss gs w sl t 0:=by
 have hs':stepG P ((0:Nat) == 0) g w=.spawn g' child w #[]:=by simpa using hs
 refine⟨_,_,_,runT_crowd_spawn hi hs',qeR (pk':=none) (ss':=ss++[⟨c,t1,1⟩]) qnC,t0',none,none,upd rem c (vs.map some++[none]),upd Ms gs.size Mc,_,_,_,sl,rfl,rfl,?_⟩;obtain⟨k1,k2,k3⟩:=h.born c hm
 have hsz:(gs.setIfInBounds 0 g').size=gs.size:=by simp
 have qe5:=h.pos
 have get:∀(l:Nat) z,(ss++[⟨c,t1,1⟩])[l]?=some z->(l=ss.length/\z=⟨c,t1,1⟩)\/ss[l]?=some z:=fun l z hl=>by
  rcases Nat.lt_or_ge l ss.length with hlt|hge
  ·rw[List.getElem?_append_left hlt]at hl;exact .inr hl
  ·rw[List.getElem?_append_right hge]at hl
   have:l-ss.length=0:=by
    rcases Nat.eq_zero_or_pos (l-ss.length)with e|e
    ·exact e
    ·rw[List.getElem?_eq_none (by simp only[List.length_cons,List.length_nil];omega)]at hl;cases hl
   rw[this]at hl;simp only[List.getElem?_cons_zero,Option.some.injEq]at hl;exact .inl ⟨by omega,hl.symm⟩
 have back:∀(l:Nat) z,ss[l]?=some z->(ss++[⟨c,t1,1⟩])[l]?=some z:=fun l z hl=>by
  rw[List.getElem?_append_left (List.getElem?_eq_some_iff.1 hl).1];exact hl
 have last:(ss++[(⟨c,t1,1⟩:Gh)])[ss.length]?=some ⟨c,t1,1⟩:=by simp
 have qyl:∀k,k<gs.size->((gs.setIfInBounds 0 g').push child)[k]?=(gs.setIfInBounds 0 g')[k]?:=fun k hk=>by
  rw[Array.getElem?_push];rw[if_neg (by rw[hsz];omega)]
 refine⟨by rw[Array.size_push,hsz,h.size,List.length_append];rfl,?_,⟨g',?_,.inl ⟨rfl,?_⟩⟩,fun j y hj=>?_,fun a b x y hne h1 h2=>?_,(fun c hc=>by cases hc),fun l z hl=>?_,fun c' o r hr=>?_,(fun c hc=>by cases hc),⟨h.old.below,fun i hi b hb hm=>?_,h.old.le⟩,h.qcc⟩
 ·have:=h.env.spawn qe5 hMc k1.vJ g.frame.fn child.frame.fn g.frame.place g.frame.place;rw[Array.size_push,hsz];exact this
 ·rw[qyl 0 qe5,qba hi]
 ·rw[y9 _ _ (by omega)];exact hn
 ·rcases get j y hj with⟨rfl,rfl⟩|hj'
  ·refine⟨child,?_,?_⟩
   ·rw[Array.getElem?_push,if_pos (by rw[hsz,h.size])]
   ·rw[<-h.size,jh];exact .inl ⟨rfl,vs,hsd,jh ..,k1⟩
  ·have hjl:=h.jlt hj';refine h.qha (gs':=(gs.setIfInBounds 0 g').push child) hj' ?_ (QK.refl _ _) rfl (y9 _ _ (k3 j y hj')) (fun op hop=>?_) (y9 _ _ (by omega))
   ·rw[qyl _ hjl,ye (by omega)]
   ·have qym:op∈(#[{g:=0,fn:=g.frame.fn,pos:=g.frame.place,act:=.go gs.size},{g:=gs.size,fn:=child.frame.fn,pos:=g.frame.place,act:=.start}]:Trace):=hop;simp only[List.mem_toArray,List.mem_cons,List.not_mem_nil,or_false]at qym;rcases qym with rfl|rfl
    ·show 0≠j+1;omega
    ·show gs.size≠j+1;omega
 ·rcases get a x h1 with⟨rfl,rfl⟩|h1'<;>rcases get b y h2 with⟨rfl,rfl⟩|h2'
  ·exact absurd rfl hne
  ·exact(k3 b y h2').symm
  ·exact k3 a x h1'
  ·exact h.qbI a b x y hne h1' h2'
 ·rcases get l z hl with⟨rfl,rfl⟩|h1
  ·exact k2
  ·exact h.new l z h1
 ·by_cases e:c'=c
  ·subst e;exact⟨_,_,last,rfl⟩
  ·rw[y9 _ _ e]at hr;obtain⟨l,z,h1,h2⟩:=h.qet c' o r hr;exact⟨l,z,back l z h1,h2⟩
 ·rw[Array.size_push,hsz]at hi;by_cases e:i=gs.size
  ·subst e;rw[jh]at hm;exact h.old.low 0 qe5 b hb (hMc b hm).1
  ·rw[y9 _ _ e]at hm;exact h.old.low i (by omega) b hb hm
end
end Sim
namespace Sim
open Go.Conc Go.RowKit
section
variable {P:Program}{Ro:Nat->Prop}{Qk:Value->World->Prop}{W0:World}{N:Nat}
variable {g0:Goroutine}
 {t0:Tr} {pk made:Option Nat} {rem:Nat->List (Option Value)} {Ms:Nat->Nat->Prop} {ss:List Gh} {gs gs':Array Goroutine} {w w':World} {t:Trace} {sl:Option (Nat×Nat)}
theorem MI.met(h:MI P Ro Qk W0 N t0 pk made rem Ms ss gs w t){j:Nat}{y:Gh}(hj:ss[j]?=some y){s r:Nat}{tm:Bool}(hc:w.heap[y.c]?=some (.chan 0 #[] false s r tm)){vs:List Value}{g0 gj:Goroutine}{f0 fj:World->Tr}
  (h0:∀W1,QK (Ms 0) w W1->ScT P Ro Qk (f0 W1) made (upd rem y.c (vs.map some++[none])) (Ms 0) g0 W1) (h1:∀W1,QK (Ms (j+1)) w W1->SdT P Ro y.c (fj W1) vs (Ms (j+1)) gj W1)
  (hg0:gs'[0]?=some g0) (hgj:gs'[j+1]?=some gj) (hgo:∀k,k≠0->k≠j+1->gs'[k]?=gs[k]?) (hsz:gs'.size=gs.size) {u:Trace} (hu:∀op∈u,op.act.touch?=none/\(op.g=0\/op.g=j+1)/\op.act≠.mark .disable/\op.act≠.mark .enable) :
  QlC P Ro Qk W0 N (mu (f0 (w.setChan y.c 0 #[] false (s+1) (r+1) tm)) (ss.set j ⟨y.c,fj (w.setChan y.c 0 #[] false (s+1) (r+1) tm),1⟩) none) (crowd gs' (w.setChan y.c 0 #[] false (s+1) (r+1) tm) sl) (t++u):=by
 have hlt:y.c<w.heap.size:=(Array.getElem?_eq_some_iff.1 hc).1;generalize hw':w.setChan y.c 0 #[] false (s+1) (r+1) tm=w'
 have qfB:w'.heap=w.heap.setIfInBounds y.c (.chan 0 #[] false (s+1) (r+1) tm):=by rw[<-hw'];rfl
 have hch:Qad w w':=Qad.set hc qfB
 have hne:∀b,b≠y.c->w'.heap[b]?=w.heap[b]?:=fun b hb=>by rw[qfB,Array.getElem?_setIfInBounds_ne (Ne.symm hb)]
 have qci:w'.heap[y.c]?=some (.chan 0 #[] false (s+1) (r+1) tm):=by rw[qfB,Array.getElem?_setIfInBounds_self_of_lt hlt]
 refine⟨_,none,made,upd rem y.c (vs.map some++[none]),Ms,_,_,w',sl,rfl,rfl,?_⟩;refine⟨by rw[hsz,List.length_set];exact h.size,?_,⟨g0,hg0,.inl ⟨rfl,h0 w' (hch.rely _)⟩⟩,fun l z hl=>?_,h.qiv hj rfl,fun c hm=>?_,h.qnD hj rfl,fun c o l hr=>?_,(fun c hc=>by cases hc),by rw[hsz];exact h.old.chan (h.new j y hj) hne (by rw[<-hw'];rfl) (by rw[<-hw'];rfl) (by rw[<-hw'];rfl) hch.size,by rw[hch.size];exact h.qcc⟩
 ·rw[hsz];exact h.env.comm hch fun op hop=>⟨(hu op hop).1,(hu op hop).2.1.elim (fun e=>by rw[e];exact h.pos) (fun e=>by rw[e];exact h.jlt hj),(hu op hop).2.2⟩
 ·rcases qhb hj hl with⟨rfl,rfl⟩|⟨hlj,hl'⟩
  ·exact⟨gj,hgj,.inl ⟨rfl,vs,h1 w' (hch.rely _),jh ..,⟨_,_,_,qci⟩⟩⟩
  ·have hcc:z.c≠y.c:=h.qbI l j z y hlj hl' hj;refine h.qha hl' (hgo _ (by omega) (by omega)) (hch.rely _) (hne _ hcc) (y9 _ _ hcc) (fun op hop e=>?_) rfl;rcases(hu op hop).2.1 with e'|e'<;>rw[e']at e<;>omega
 ·obtain⟨⟨s',r',tm',k1⟩,k2,k3⟩:=h.born c hm;refine⟨⟨s',r',tm',by rw[hne c (fun e=>k3 j y hj e.symm)];exact k1⟩,k2,fun l z hl=>?_⟩;obtain⟨z',h2,h3⟩:=qca (y':=⟨y.c,fj w',1⟩) hj rfl hl;rw[h3];exact k3 l z' h2
 ·have:∃(l:Nat) (x:Gh),ss[l]?=some x/\x.c=c:=by
   by_cases e:c=y.c
   ·exact⟨j,y,hj,e.symm⟩
   ·rw[y9 _ _ e]at hr;exact h.qet c o l hr
  obtain⟨l',x,h2,h3⟩:=this;obtain⟨z',h4,h5,_⟩:=qiu (y':=⟨y.c,fj w',1⟩) hj rfl h2;exact⟨l',z',h4,h5.trans h3⟩
theorem MI.recv(h:MI P Ro Qk W0 N t0 pk made rem Ms ss gs w t){g:Goroutine}(hi:gs[0]?=some g0)(hp:pk=none){f:World->Tr}{c:Nat}{ok:Bool}{z:Value}{o:Option Value}{r:List (Option Value)}(ht:t0=.node f)(R:ScR P Ro Qk f c ok z o r made rem (Ms 0) g w)
  (hs:stepG P true g0 w=.comm g #[rcase c z] true (.recv ok) w #[]):Nxt P Ro Qk W0 N t0 pk ss gs w sl t 0:=by
 have hs':stepG P ((0:Nat) == 0) g0 w=.comm g #[rcase c z] true (.recv ok) w #[]:=by simpa using hs
 obtain⟨hgr,yp,hM,jq⟩:=R;obtain⟨j,y,hj,rfl⟩:=h.qet c o r yp;obtain⟨gj,hgj,hS⟩:=h.snd j y hj;have hS0:=hS;rcases hS with⟨h1,vs,h2,h3,h4⟩|⟨h1,g',v,vs,zz,fj,rfl,h3,h4,h5,h6⟩|⟨h1,k,h2,h3,h4,h5,h6⟩
 ·-- it waits
  obtain⟨s,r',tm,hc⟩:=h4
  have hw:∀cc∈#[rcase y.c z],NoWays w (gs.setIfInBounds 0 ph) cc:=fun cc hcc=>by
   simp only[List.mem_toArray,List.mem_singleton]at hcc;subst hcc;exact ways_recv_none hc (partners_nil fun k x hx=>h.qnE hj k x (.inr (by rw[h1];decide)) hx)
  refine⟨_,_,_,crowd_waits hi hs' hw,by rw[hp];exact qwT,t0,some y.c,made,rem,Ms,ss,_,w,sl,rfl,rfl,?_⟩;rw[ofEvents_none,Array.append_empty];refine⟨by rw[Array.size_setIfInBounds];exact h.size,by rw[Array.size_setIfInBounds];exact h.env,⟨_,qba hi _,.inr (.inl ⟨y.c,g,ok,z,f,o,r,rfl,rfl,ht,hgr,yp,hM,jq⟩)⟩,fun l x hl=>?_,h.qbI,h.born,h.new,h.qet,fun c hc=>?_,by simpa using h.old,h.qcc⟩
  ·obtain⟨gl,k1,k2⟩:=h.snd l x hl;exact⟨gl,by rw[ye (by omega)];exact k1,k2⟩
  ·cases hc;exact⟨j,y,hj,rfl,h1⟩
 ·-- they meet
  obtain⟨s,r',tm,hc⟩:=h5
  have qvt:partners (gs.setIfInBounds 0 ph) y.c true=[(j+1,0)]:=by
   rw[partners_one (j:=j+1) (g:=parked g' #[scase y.c v zz] .send) (by rw[ye (by omega)];exact hgj) fun k x hk hx=>h.qnE hj k x (.inl hk) hx,offersAt_parked_send,if_pos rfl];rfl
  have zk:=crowd_recv_meets (sl:=sl) hi hs' hc (j:=j+1) (by omega) hgj qvt;rw[finishComm_send,finishComm_recv]at zk
  have eo:o=some v/\r=vs.map some++[none]:=by rw[yp]at h4;injection h4 with e1 e2;exact⟨e1,e2⟩
  obtain⟨rfl,rfl⟩:=eo;refine⟨_,_,_,zk,qeR (pk':=none) (ss':=ss.set j ⟨y.c,fj (w.setChan y.c 0 #[] false (s+1) (r'+1) tm),1⟩) (t0':=f (w.setChan y.c 0 #[] false (s+1) (r'+1) tm)) (by rw[ht];exact .of _ _),?_⟩;refine h.met hj hc (vs:=vs) (fun W1 hr=>(jq W1 hr).2) (fun W1 hr=>h6 W1 hr) ?_ ?_ (fun k k0 kj=>?_) (by simp) (fun op hop=>?_)
  ·exact qba (g:=g0) (by rw[ye (by omega)];exact hi) _
  ·rw[ye (by omega)];exact qba hgj _
  ·rw[ye k0,ye kj]
  ·rw[ofEvents_none,Array.empty_append]at hop;simp only[List.mem_toArray,List.mem_cons,List.not_mem_nil,or_false]at hop;rcases hop with rfl|rfl|rfl|rfl
   ·exact⟨rfl,.inr rfl,nofun,nofun⟩
   ·exact⟨rfl,.inl rfl,nofun,nofun⟩
   ·exact⟨rfl,.inr rfl,nofun,nofun⟩
   ·exact⟨rfl,.inl rfl,nofun,nofun⟩
 ·-- it is closed
  obtain⟨s,r',tm,hc⟩:=h4
  have er:o=none/\r=[]:=by
   rcases h5 with h5|⟨h5,_⟩<;>rw[yp]at h5
   ·injection h5 with e1 e2;exact⟨e1,e2⟩
   ·cases h5
  obtain⟨rfl,rfl⟩:=er;have zk:=crowd_recv_closed (sl:=sl) hi hs' hc (partners_nil fun k x hx=>h.qnE hj k x (.inr (by rw[h1];decide)) hx);rw[finishComm_recv]at zk;refine⟨_,_,_,zk,qeR (pk':=none) (ss':=ss) (t0':=f w) (by rw[ht];exact .of _ _),f w,none,made,upd rem y.c [],Ms,ss,_,w,sl,rfl,rfl,?_⟩;rw[ofEvents_none,Array.empty_append]
  have hu:∀op∈(#[{g:=0,fn:=g.frame.fn,pos:=g.frame.place,act:=.recvClosed y.c}]:Trace),op={g:=0,fn:=g.frame.fn,pos:=g.frame.place,act:=.recvClosed y.c}:=fun op hop=>by simpa using hop
  refine⟨by rw[Array.size_setIfInBounds];exact h.size,?_,⟨_,qba hi _,.inl ⟨rfl,(jq w (QK.refl _ _)).2⟩⟩,fun l x hl=>?_,h.qbI,h.born,h.new,fun c o r hr=>?_,(fun c hc=>by cases hc),by simpa using h.old,h.qcc⟩
  ·rw[Array.size_setIfInBounds]
   exact h.env.comm ⟨rfl,fun _ _=>rfl,fun _ x=>x⟩ fun op hop=>by rw[hu op hop];exact⟨rfl,h.pos,nofun,nofun⟩
  ·by_cases e:l=j
   ·subst e;rw[hj]at hl;cases hl;refine⟨gj,by rw[ye (by omega)];exact hgj,.inr (.inr ⟨h1,k,h2,h3,⟨s,r',tm,hc⟩,.inr ⟨jh ..,t.size,{g:=0,fn:=g.frame.fn,pos:=g.frame.place,act:=.recvClosed y.c},by rw[Array.getElem?_append_right (Nat.le_refl _)];simp,rfl,rfl⟩,?_⟩)⟩;obtain⟨pc,op,k1,k2,k3,k4⟩:=h6;refine⟨pc,op,by rw[getElem?_append_old (lt_size_of_getElem? k1)];exact k1,k2,k3,fun p op' hp' hg=>?_⟩;rcases getElem?_append_cases hp' with⟨_,qAC⟩|⟨_,hpu⟩
    ·exact k4 p op' qAC hg
    ·rw[hu op' hpu]at hg;exact absurd hg (by show 0≠l+1;omega)
   ·have hcc:x.c≠y.c:=h.qbI l j x y e hl hj;exact h.qha hl (ye (by omega) _) (QK.refl _ _) rfl (y9 _ _ hcc) (fun op hop=>by rw[hu op hop];show 0≠l+1;omega) rfl
  ·by_cases e:c=y.c
   ·subst e;rw[jh]at hr;cases hr
   ·rw[y9 _ _ e]at hr;exact h.qet c o r hr
end
end Sim
namespace Sim
open Go.Conc Go.RowKit
section
variable {P:Program}{Ro:Nat->Prop}{Qk:Value->World->Prop}{W0:World}{N:Nat}
variable {j:Nat}{g g':Goroutine}
 {t0:Tr} {pk made:Option Nat} {rem:Nat->List (Option Value)} {Ms:Nat->Nat->Prop} {ss:List Gh} {gs gs':Array Goroutine} {w w':World} {t:Trace} {sl:Option (Nat×Nat)}
theorem MI.send(h:MI P Ro Qk W0 N t0 pk made rem Ms ss gs w t){y:Gh}(hj:ss[j]?=some y)(hi:gs[j+1]?=some g)(hfl:y.fl=1){v z:Value}{vs:List Value}(hs:stepG P false g w=.comm g #[scase y.c v z] true .send w #[])
  (yp:rem y.c=some v::(vs.map some++[none])) (hop:opn w y.c) {f:World->Tr} (ht:y.t=.node f) (hn:∀W1,QK (Ms (j+1)) w W1->SdT P Ro y.c (f W1) vs (Ms (j+1)) (Conc.served g undef) W1):Nxt P Ro Qk W0 N t0 pk ss gs w sl t (j+1):=by
 have hs':stepG P ((j+1:Nat) == 0) g w=.comm g #[scase y.c v z] true .send w #[]:=by simpa using hs
 have hjl:j<ss.length:=(List.getElem?_eq_some_iff.1 hj).1;obtain⟨g0,hg0,hM⟩:=h.main;by_cases hpk:pk=some y.c
 ·-- they meet
  obtain⟨s,r',tm,hc⟩:=hop;rcases hM with⟨h1,_⟩|⟨c,g1,ok,z',f0,o,r,h1,rfl,h3,hgr,h4,h5,h6⟩|⟨c,g1,ok,z',f0,o,r,h1,_⟩
  ·rw[hpk]at h1;cases h1
  ·rw[hpk]at h1;cases h1
   have qvt:partners (gs.setIfInBounds (j+1) ph) y.c false=[(0,0)]:=by
    rw[partners_one (j:=0) (g:=parked g1 #[rcase y.c z'] (.recv ok)) (by rw[ye (by omega)];exact hg0) fun k x hk hx=>h.qti k x (.inl hk) hx,offersAt_parked_recv,if_pos rfl];rfl
   have zk:=crowd_send_meets (sl:=sl) hi hs' hc (j:=0) (by omega) hg0 qvt;rw[finishComm_send,finishComm_recv]at zk
   have eo:o=some v/\r=vs.map some++[none]:=by rw[yp]at h4;injection h4 with e1 e2;exact⟨e1.symm,e2.symm⟩
   obtain⟨rfl,rfl⟩:=eo;refine⟨_,_,_,zk,qeR (pk':=none) (ss':=ss.set j ⟨y.c,f (w.setChan y.c 0 #[] false (s+1) (r'+1) tm),1⟩) (t0':=f0 (w.setChan y.c 0 #[] false (s+1) (r'+1) tm)) (by rw[h3];exact .of _ _),?_⟩;refine h.met hj hc (vs:=vs) (fun W1 hr=>(h6 W1 hr).2) (fun W1 hr=>hn W1 hr) ?_ ?_ (fun k k0 kj=>?_) (by simp) (fun op hop=>?_)
   ·rw[ye (by omega)];exact qba hg0 _
   ·exact qba (g:=g) (by rw[ye (by omega)];exact hi) _
   ·rw[ye kj,ye k0]
   ·rw[ofEvents_none,Array.empty_append]at hop;simp only[List.mem_toArray,List.mem_cons,List.not_mem_nil,or_false]at hop;rcases hop with rfl|rfl|rfl|rfl
    ·exact⟨rfl,.inr rfl,nofun,nofun⟩
    ·exact⟨rfl,.inl rfl,nofun,nofun⟩
    ·exact⟨rfl,.inr rfl,nofun,nofun⟩
    ·exact⟨rfl,.inl rfl,nofun,nofun⟩
  ·rw[hpk]at h1;cases h1
 ·-- it waits
  have qAD:=hop;obtain⟨s,r',tm,hc⟩:=hop
  have hw:∀cc∈#[scase y.c v z],NoWays w (gs.setIfInBounds (j+1) ph) cc:=fun cc hcc=>by
   simp only[List.mem_toArray,List.mem_singleton]at hcc;subst hcc;exact ways_send_none hc (Nat.zero_le _) (partners_nil fun k x hx=>h.qti k x (.inr hpk) hx)
  refine⟨_,_,_,crowd_waits hi hs' hw,qnz (pk':=pk) (x':=⟨y.c,y.t,0⟩) hj (by rw[hfl];exact .right _ Nat.zero_lt_one),t0,pk,made,rem,Ms,_,_,w,sl,rfl,rfl,?_⟩;rw[ofEvents_none,Array.append_empty];refine⟨by rw[Array.size_setIfInBounds,List.length_set];exact h.size,by rw[Array.size_setIfInBounds];exact h.env,⟨g0,by rw[ye (by omega)];exact hg0,hM⟩,fun l x hl=>?_,h.qiv hj rfl,fun c hm=>?_,h.qnD hj rfl,fun c o r hr=>?_,fun c hp=>?_,by simpa using h.old,h.qcc⟩
  ·rcases qhb hj hl with⟨rfl,rfl⟩|⟨hlj,hl'⟩
   ·exact⟨_,qba hi _,.inr (.inl ⟨rfl,g,v,vs,z,f,rfl,ht,yp,qAD,hn⟩)⟩
   ·obtain⟨gl,k1,k2⟩:=h.snd l x hl';exact⟨gl,by rw[ye (by omega)];exact k1,k2⟩
  ·obtain⟨k1,k2,k3⟩:=h.born c hm;refine⟨k1,k2,fun l x hl=>?_⟩;obtain⟨z',h2,h3⟩:=qca (y':=⟨y.c,y.t,0⟩) hj rfl hl;rw[h3];exact k3 l z' h2
  ·obtain⟨l,x,h2,h3⟩:=h.qet c o r hr;obtain⟨z',h4,h5,_⟩:=qiu (y':=⟨y.c,y.t,0⟩) hj rfl h2;exact⟨l,z',h4,h5.trans h3⟩
  ·obtain⟨l,x,h2,h3,h4⟩:=h.meet c hp
   have hlj:l≠j:=by
    rintro rfl;rw[hj]at h2;cases h2;exact hpk (by rw[hp,h3])
   exact⟨l,x,by rw[List.getElem?_set_ne (Ne.symm hlj)];exact h2,h3,h4⟩
theorem YK.refl{M:Nat->Prop}(hlt:∀b,M b->b<w.heap.size):YK Ro M w M w #[]:=⟨fun _ x=>x,fun _ x=>.inl x,hlt,Nat.le_refl _,fun _ _ _=>rfl,fun _ _ x _=>x,rfl,rfl,rfl,fun e he=>by cases he;rename_i x;cases x⟩
theorem MI.qy8(h:MI P Ro Qk W0 N t0 pk made rem Ms ss gs w t){y:Gh}(hj:ss[j]?=some y)(hi:gs[j+1]?=some g){k:Nat}(hfl:y.fl=2)(ht:y.t=chain (k+1))(hs:stepG P false g w=.go g' w #[])(hq:QuitsIn P k g'):Nxt P Ro Qk W0 N t0 pk ss gs w sl t (j+1):=by
 obtain⟨gj,k1,k2⟩:=h.snd j y hj;rw[hi]at k1;cases k1;refine h.goS hj hi (x:=⟨Ms (j+1),g',w,#[]⟩) hs (YK.refl (h.env.lt _ (h.jlt hj))) (y':=⟨y.c,chain k,2⟩) rfl (fun e=>by rw[hfl]at e;cases e) (fun u hu=>?_) ?_
 ·have hu0:∀op∈u,False:=fun op hop=>by
   obtain⟨e,he,_⟩:=hu op hop;cases he;rename_i x;cases x
  rcases k2 with⟨h1,_⟩|⟨h1,_⟩|⟨h1,k',h2,h3,h4,h5,h6⟩
  ·rw[hfl]at h1;cases h1
  ·rw[hfl]at h1;cases h1
  ·have:=XS.zc (Ro:=Ro) (qit:=rem) (u:=u) (w':=w) (x:=⟨y.c,chain k,2⟩) (.inr (.inr ⟨rfl,k,rfl,hq,h4,h5,h6⟩)) (QK.refl (Ms (j+1)) w) rfl rfl (fun op hop=>(hu0 op hop).elim);exact this
 ·rw[ht];exact .left _ _ (.of (fun _=>chain k) w)
theorem MI.close(h:MI P Ro Qk W0 N t0 pk made rem Ms ss gs w t){y:Gh}(hj:ss[j]?=some y)(hi:gs[j+1]?=some g)(qrw:Ms (j+1) y.c)(qy2:mayWake P g=true)(hg':g'.status=.running){s r:Nat}{tm:Bool}(hc:w.heap[y.c]?=some (.chan 0 #[] false s r tm))
  (hs:stepG P false g w=.go g' {w with heap:=w.heap.setIfInBounds y.c (.chan 0 #[] true s r tm)} #[⟨.obj y.c,false,true⟩,⟨.obj y.c,true,true⟩]) (yp:rem y.c=[none]) {f:World->Tr} {k:Nat} (ht:y.t=.node f) (hf:f w=chain k) (hq:QuitsIn P k g'):Nxt P Ro Qk W0 N t0 pk ss gs w sl t (j+1):=by
 have hs':stepG P ((j+1:Nat) == 0) g w=.go g' {w with heap:=w.heap.setIfInBounds y.c (.chan 0 #[] true s r tm)} #[⟨.obj y.c,false,true⟩,⟨.obj y.c,true,true⟩]:=by simpa using hs
 have hlt:y.c<w.heap.size:=(Array.getElem?_eq_some_iff.1 hc).1;have zk:=runT_crowd_go (sl:=sl) hi hs';generalize hw':({w with heap:=w.heap.setIfInBounds y.c (.chan 0 #[] true s r tm)}:World)=w' at zk
 have qfB:w'.heap=w.heap.setIfInBounds y.c (.chan 0 #[] true s r tm):=by rw[<-hw']
 have hch:Qad w w':=Qad.set hc qfB
 have hne:∀b,b≠y.c->w'.heap[b]?=w.heap[b]?:=fun b hb=>by rw[qfB,Array.getElem?_setIfInBounds_ne (Ne.symm hb)]
 have qci:w'.heap[y.c]?=some (.chan 0 #[] true s r tm):=by rw[qfB,Array.getElem?_setIfInBounds_self_of_lt hlt]
 have qAE:opn w y.c:=⟨s,r,tm,hc⟩
 have hsh:∀c,shut w c->shut w' c:=fun c ⟨a,b,d,e⟩=>by
  by_cases e':c=y.c
  ·exact⟨_,_,_,by rw[e'];exact qci⟩
  ·exact⟨a,b,d,by rw[hne c e'];exact e⟩
 have hop:∀c,c≠y.c->opn w c->opn w' c:=fun c e ⟨a,b,d,e'⟩=>⟨a,b,d,by rw[hne c e];exact e'⟩
 obtain⟨g0,hg0,hM⟩:=h.main
 obtain⟨pk',qAF,qy3⟩:∃pk',(∀c,pk'=some c->pk=some c/\c≠y.c)/\QdE P Ro Qk t0 pk' made rem (Ms 0) (Conc.woken P g g' w' g0) w':=by
  by_cases hpk:pk=some y.c
  ·refine⟨none,(fun c e=>by cases e),?_⟩;rcases hM with⟨h1,_⟩|⟨c,g1,ok,z',f0,o,r,h1,rfl,h3,h4⟩|⟨c,g1,ok,z',f0,o,r,h1,_⟩
   ·rw[hpk]at h1;cases h1
   ·rw[hpk]at h1;cases h1;refine .inr (.inr ⟨y.c,g1,ok,z',f0,o,r,rfl,?_,h3,⟨_,_,_,qci⟩,h4.zc (hch.rely _)⟩);unfold Conc.woken;rw[qy2,hg'];exact again_recv_closed qci
   ·rw[hpk]at h1;cases h1
  ·refine⟨pk,fun c e=>⟨e,fun e'=>hpk (by rw[e,e'])⟩,?_⟩;rw[hM.woken (fun c e=>hop c (fun e'=>hpk (by rw[e,e'])) (h.qph e))];exact hM.zc (hch.rely _) hsh
 refine⟨_,_,_,zk,qnz (pk':=pk') (x':=⟨y.c,chain k,2⟩) hj (by rw[ht,<-hf];exact .left _ _ (.of f w)),t0,pk',made,rem,Ms,_,_,w',sl,rfl,rfl,?_⟩;refine⟨by simpa using h.size,?_,⟨_,by rw[qcA (by omega),hg0];rfl,qy3⟩,fun l x hl=>?_,h.qiv hj rfl,fun c hm=>?_,h.qnD hj rfl,fun c o r hr=>?_,fun c hp=>?_,by simpa using h.old.chan (h.new j y hj) hne (by rw[<-hw']) (by rw[<-hw']) (by rw[<-hw']) hch.size,by rw[hch.size];exact h.qcc⟩
 ·have:=h.env.close hch (h.jlt hj) qAE.vJ qrw g.frame.fn g.frame.place;simpa using this
 ·rcases qhb hj hl with⟨rfl,rfl⟩|⟨hlj,hl'⟩
  ·refine⟨g',qnB hi _ _,.inr (.inr ⟨rfl,k,rfl,hq,⟨_,_,_,qci⟩,.inl yp,t.size+1,{g:=l+1,fn:=g.frame.fn,pos:=g.frame.place,act:=.close y.c},?_,rfl,rfl,fun p op hp _=>?_⟩)⟩
   ·rw[Array.getElem?_append_right (by omega),ofEvents_eq];simp[MemAct.ofEvent]
   ·have:=lt_size_of_getElem? hp;rw[ofEvents_eq]at this;simp at this;omega
  ·obtain⟨gl,k1,k2⟩:=h.snd l x hl';have hcc:x.c≠y.c:=h.qbI l j x y hlj hl' hj;refine h.qha hl' ?_ (hch.rely _) (hne _ hcc) rfl (fun op hop=>by obtain⟨e,_,rfl⟩:=xj hop;show j+1≠l+1;omega) rfl;rw[qcA (by omega),k1,Option.map_some,k2.woken (fun z=>hop x.c hcc z)]
 ·obtain⟨k1,k2,k3⟩:=h.born c hm;refine⟨hop c (fun e=>k3 j y hj e.symm) k1,k2,fun l x hl=>?_⟩;obtain⟨z',h2,h3⟩:=qca (y':=⟨y.c,chain k,2⟩) hj rfl hl;rw[h3];exact k3 l z' h2
 ·obtain⟨l,x,h2,h3⟩:=h.qet c o r hr;obtain⟨z',h4,h5,_⟩:=qiu (y':=⟨y.c,chain k,2⟩) hj rfl h2;exact⟨l,z',h4,h5.trans h3⟩
 ·obtain⟨e1,e2⟩:=qAF c hp;obtain⟨l,x,h2,h3,h4⟩:=h.meet c e1
  have hlj:l≠j:=by
   rintro rfl;rw[hj]at h2;cases h2;exact e2 h3.symm
  exact⟨l,x,by rw[List.getElem?_set_ne (Ne.symm hlj)];exact h2,h3,h4⟩
