import Derived.Test.YtmnjjjhmnhfapaaGreatDoorTie
import Derived.Test.YtmnjjjhmnhfapaaGreatDoorCards
import Derived.ProofKit
import Derived.OpenShut
import Derived.ShutString
import Derived.Lay
import Derived.Stop.Joined
import Derived.ReadAgain
import Derived.ChangeOld
import Derived.ChangeReads
import Derived.Deep.DeepHandedRow
import Derived.Deep.Strs
import Derived.Deep.SlicePairs
import Derived.Test.YtmnjjjhmnhfapaaGreatDoorMSimMach5
namespace Go.Proofs.YtmnjjjhmnhfapaaGreatDoor
set_option maxRecDepth 100000
set_option maxHeartbeats 600000
namespace Sim
open Go.Conc Go.RowKit
section
variable {P:Program}{Ro:Nat->Prop}{Qk:Value->World->Prop}{W0:World}{N:Nat}
variable {g:Goroutine}{es:Array Event}
 {t0:Tr} {pk made:Option Nat} {rem:Nat->List (Option Value)} {Ms:Nat->Nat->Prop} {ss:List Gh} {gs gs':Array Goroutine} {w w':World} {t:Trace} {sl sl':Option (Nat×Nat)}
theorem qpo{i:Nat}{o:Outcome}(hi:gs[i]?=some g)(h:stepG P (i == 0) g w=.ended o w' es) :
  runT P (crowd gs w sl) i=(.ended o w',MemOp.ofEvents i g.frame.fn g.frame.place es):=by
 obtain⟨hlt,rfl⟩:=Array.getElem?_eq_some_iff.1 hi;have hsw:=swapAt_of_lt hlt { (default:Goroutine)with status:=.finished};show runT P {world:=w,gs:=gs,rest:={timers:=#[],alone:=none,slice:=sl} } i=_;unfold runT;simp only[hsw,h,GStep.es]
theorem MI.over(h:MI P Ro Qk W0 N t0 pk made rem Ms ss gs w t)(yp:∀c,rem c=[]){l:Nat}(hg:gs[l+1]?=some g):(∃k,QuitsIn P k g)/\∃(c p pc:Nat) (op op':MemOp),t[p]?=some op/\op.g=0/\op.act=.recvClosed c/\t[pc]?=some op'/\op'.g=l+1/\op'.act=.close c/\∀(q:Nat) (qwY:MemOp),t[q]?=some qwY->qwY.g=l+1->q<=pc:=by
 obtain⟨x,hl,h2⟩:=h.ghost hg;rcases h2 with⟨_,vs,_,h3,_⟩|⟨_,g',v,vs,z,f,_,_,h4,_⟩|⟨_,k,_,h3,_,h5,pc,op',h6,h7,h8,h9⟩
 ·rw[yp]at h3;simp at h3
 ·rw[yp]at h4;cases h4
 ·refine⟨⟨k,h3⟩,?_⟩;rcases h5 with h5|⟨_,p,op,k1,k2,k3⟩
  ·rw[yp]at h5;cases h5
  ·exact⟨x.c,p,pc,op,op',k1,k2,k3,h6,h7,h8,h9⟩
theorem MI.ended(h:MI P Ro Qk W0 N t0 pk made rem Ms ss gs w t)(_hi:gs[0]?=some g)(yp:∀c,rem c=[]){v:Value}{M':Nat->Prop}(ha:YK Ro (Ms 0) w M' w' es)(hp:Qk v w'){wm:World} :
  Conc.Good P (fun v w'=>Qk v w'/\Below N W0 w') (crowd gs wm sl) (.done v) w' (t++MemOp.ofEvents 0 g.frame.fn g.frame.place es):=by
 have qwZ:=h.env.own h.pos ha g.frame.fn g.frame.place;refine⟨v,rfl,⟨hp,(h.old.own h.pos ha).below⟩,qwZ.clean,fun i gi hgi hne qc7=>?_,⟨fun a hm=>?_,rfl⟩,fun i gi hgi hne=>?_⟩
 ·obtain⟨x,hx,_,_⟩:=qc7;obtain⟨oi,hoi,hxi⟩:=touch_of hx
  have hg':oi.g=gi:=by simpa[Trace.g?,hoi]using hgi
  rcases getElem?_append_cases hoi with⟨hlt,qlB⟩|⟨_,hou⟩
  ·have hl:=h.env.gsn oi (mem_of_getElem? qlB);obtain⟨l,hl'⟩:∃l,oi.g=l+1:=⟨oi.g-1,by omega⟩
   rw[hl']at hl;obtain⟨_,c,p,pc,op,op',k1,k2,k3,k4,k5,k6,k7⟩:=h.over yp (Array.getElem?_eq_getElem hl);have hle:=k7 i oi qlB hl'
   have qc8:i≠pc:=by rintro rfl;rw[k4]at qlB;cases qlB;rw[k6]at hxi;cases hxi
   have e1:HappensBefore t i pc:=hb_po (by omega) qlB k4 (by rw[hl',k5]);have e2:HappensBefore t pc p:=.single (.inr ⟨.closed (c:=c) (by rw[act?_of k4,k6]) (by rw[act?_of k1,k3]),h.env.calm.heard k4,h.env.calm.heard k1⟩);exact⟨p,by simp[Trace.g?,getElem?_append_old (lt_size_of_getElem? k1),k1,k2],hb_app _ (e1.trans e2)⟩
  ·obtain⟨e,_,rfl⟩:=xj hou;exact absurd hg'.symm hne
 ·obtain⟨l,hl,rfl⟩:=List.mem_iff_getElem.1 hm
  have hg:gs[l+1]?=some ((crowd gs wm sl).gs.toList.drop 1)[l]:=by
   have:((crowd gs wm sl).gs.toList.drop 1)[l]?=some ((crowd gs wm sl).gs.toList.drop 1)[l]:=List.getElem?_eq_getElem hl;rw[List.getElem?_drop,Nat.add_comm]at this;rw[<-this];exact(Array.getElem?_toList ..).symm
  obtain⟨⟨k,hq⟩,_⟩:=h.over yp hg;exact⟨k,hq.leaves⟩
 ·rw[qwZ.calm.deaf];obtain⟨l,rfl⟩:∃l,i=l+1:=⟨i-1,by omega⟩
  obtain⟨⟨k,hq⟩,_⟩:=h.over yp (l:=l) hgi;exact⟨k,hq.hears _ 0⟩
theorem MI.step(h:MI P Ro Qk W0 N t0 pk made rem Ms ss gs w t) :
  (∃o w' ops,stepT P (crowd gs w sl)=(.ended o w',ops)/\Conc.Good P (fun v w'=>Qk v w'/\Below N W0 w') (crowd gs w sl) o w' (t++ops)) \/
  (∃m' ops μ',stepT P (crowd gs w sl)=(.next m',ops)/\Lt μ' (mu t0 ss pk)/\QlC P Ro Qk W0 N μ' m' (t++ops)):=by
 have haw:∀g∈gs,awake g:=fun g hg=>by
  obtain⟨i,hlt,rfl⟩:=Array.mem_iff_getElem.1 hg;have hi:gs[i]?=some gs[i]:=Array.getElem?_eq_getElem hlt
  cases i with
  | zero =>
   obtain⟨g0,h1,h2⟩:=h.main;rw[hi]at h1;cases h1;exact h2.awake
  | succ l =>
   obtain⟨x,_,h2⟩:=h.ghost hi;exact h2.awake
 have qeT:∃(i:Nat) (g:Goroutine),gs[i]?=some g/\g.status=.running:=by
  obtain⟨g0,h1,h2⟩:=h.main;rcases h2 with⟨_,h2⟩|⟨c,g,ok,z,f,o,r,hp,_⟩|⟨c,g,ok,z,f,o,r,hp,rfl,_⟩
  ·exact⟨0,g0,h1,h2.running⟩
  ·obtain⟨j,x,hj,_,hf⟩:=h.meet c hp;obtain⟨gj,k1,k2⟩:=h.snd j x hj;rcases k2 with⟨_,vs,k3,_⟩|⟨k3,_⟩|⟨k3,_⟩
   ·exact⟨j+1,gj,k1,k3.running⟩
   ·rw[hf]at k3;cases k3
   ·rw[hf]at k3;cases k3
  ·exact⟨0,_,h1,rfl⟩
 obtain⟨i,g,d,sl',hi,zk,hst⟩:=crowd_pick (P:=P) (w:=w) (sl:=sl) haw qeT;have h':=h.at d;have nxt:Nxt P Ro Qk W0 N t0 pk ss gs (w.at d) sl' t i->∃m' ops μ',stepT P (crowd gs w sl)=(.next m',ops)/\Lt μ' (mu t0 ss pk)/\QlC P Ro Qk W0 N μ' m' (t++ops):=fun⟨m',ops,μ',k1,k2⟩=>⟨m',ops,μ',hst.trans k1,k2⟩
 cases i with
 | zero =>
  obtain⟨g0,h1,h2⟩:=h'.main;rw[hi]at h1;cases h1;rcases h2 with⟨hp,h2⟩|⟨c,g,ok,z,f,o,r,hp,rfl,_⟩|⟨c,g1,ok,z,f,o,r,hp,rfl,ht,hsh,h4⟩
  ·cases t0 with
   | leaf=>exact h2.elim
   | node f =>
    obtain⟨_,h2|h2|⟨c,vs,e,h2⟩|⟨c,ok,z,o,l,e,hc,h2⟩|⟨e,h2⟩⟩:=h2
    ·obtain⟨x,⟨k1,_,k3⟩,k4⟩:=h2 _ (QK.refl _ _);exact .inr (nxt (h'.go0 hi k1 k3 (qiy:=made) (fun c hm=>let ⟨a1,a2,a3⟩:=h'.born c hm;⟨k3.opn a1,a2,a3⟩) k4 (.of _ _)))
    ·obtain⟨x,c,⟨k1,_,k3⟩,k5,k6,k4⟩:=h2 _ (QK.refl _ _);refine .inr (nxt (h'.go0 hi k1 k3 (qiy:=some c) (fun c' hm=>?_) k4 (.of _ _)));cases hm;exact⟨k6,Nat.le_trans h'.qcc k5,fun j y hj e=>by have:=h'.clt hj;omega⟩
    ·obtain⟨g',child,Mc,k1,k2,⟨t1,k3⟩,k4⟩:=h2 _ (QK.refl _ _);exact .inr (nxt (h'.start hi e k1 k2 k3 k4 (.of _ _)))
    ·exact .inr (nxt (h'.recv hi hp rfl ⟨zk,e,hc,h2⟩ (h2 _ (QK.refl _ _)).1))
    ·obtain⟨v,W',M',es,k1,k2,k3⟩:=h2 _ (QK.refl _ _)
     have k1':stepG P ((0:Nat) == 0) g (w.at d)=.ended (.done v) W' es:=by simpa using k1
     exact .inl ⟨_,_,_,hst.trans (qpo hi k1'),h'.ended hi e k2 k3⟩
  ·cases zk
  ·refine .inr (nxt (h'.recv hi hp ht h4 ?_));rw[stepG_tries]
   have e:({g1 with status:=.running}:Goroutine)=g1:=by
    obtain⟨a,b,c,d,e⟩:=g1;have:=h4.1;dsimp only at this;rw[this]
   rw[e];exact(h4.2.2.2 _ (QK.refl _ _)).1
 | succ j =>
  obtain⟨x,hj,h2⟩:=h'.ghost hi;have h20:=h2;rcases h2 with⟨hf,vs,h2,h3,h4⟩|⟨_,g',v,vs,z,f,rfl,_⟩|⟨hf,k,h2,h3,_⟩
  ·cases ht:x.t with
   | leaf=>rw[ht]at h2;exact h2.elim
   | node f =>
    rw[ht]at h2;obtain⟨_,h2|⟨v,vs',z,rfl,hc,h2⟩|⟨rfl,hc,hm,g',k,hq,hs,h2⟩⟩:=h2
    ·obtain⟨y,⟨k1,_,k3⟩,k4⟩:=h2 _ (QK.refl _ _);refine .inr (nxt (h'.goS hj hi k1 k3 (y':=⟨x.c,f (w.at d),1⟩) rfl (fun _=>rfl) (fun u hu=>.inl ⟨rfl,vs,k4,h3,k3.opn h4⟩) ?_));rw[ht];exact .left _ _ (.of f _)
    ·exact .inr (nxt (h'.send hj hi hf (h2 _ (QK.refl _ _)).1 h3 h4 ht (fun W1 hr=>(h2 W1 hr).2)))
    ·obtain⟨s,r,tm,hcc⟩:=h4;obtain⟨k1,k2⟩:=h2 _ (QK.refl _ _);exact .inr (nxt (h'.close hj hi hc hm hs hcc (k2 _ _ _ _ _ hcc) h3 ht k1 hq))
  ·cases zk
  ·cases k with
   | zero=>rw[show g.status=.finished from h3]at zk;cases zk
   | succ k =>
    rcases h3 with h3|⟨_,g',hw,hq⟩
    ·rw[h3]at zk;cases zk
    ·exact .inr (nxt (h'.qy8 hj hi hf h2 (hw _) hq))
theorem machine{M:Nat->Prop}(hN:N<=w.heap.size)(zU:∀b,b<N->M b->Ro b)(hlt:∀b,M b->b<w.heap.size)(hsc:Sc P Ro Qk none (fun _=>[]) M g w)(qw0:∀said,¬Race said t)(qcO:Calm t)(qp:∀op∈t,op.g=0) :
  ∃n last o w' t',runNT P (n+1) (solo g w) t=(.ended o w',t')/\runN P n (solo g w)=.next last/\step P last=.ended o w' /\
   Conc.Good P (fun v w'=>Qk v w'/\Below N w w') last o w' t':=by
 obtain⟨t0,hsc⟩:=hsc;rw[solo_eq_crowd];refine run_of_inv Lt.wf (QlC P Ro Qk w N) _ ?_ (mu t0 [] none) _ _ ⟨t0,none,none,fun _=>[],fun _=>M,[],_,w,none,rfl,rfl,?_⟩
 ·rintro μ m t ⟨t0,pk,made,rem,Ms,ss,gs,w',sl,rfl,rfl,h⟩;exact h.step
 ·refine⟨rfl,⟨fun i hi b hb=>hlt b hb,fun i j hi hj hne=>?_,qw0,fun i hi p a b ha hb hm=>?_,qcO,fun op hop=>by rw[qp op hop];exact Nat.zero_lt_one⟩,⟨g,rfl,.inl ⟨rfl,hsc⟩⟩,(fun j x hj=>by cases hj),(fun a b x y _ hx=>by cases hx),(fun c hc=>by cases hc),(fun j x hj=>by cases hj),(fun c o r hr=>by cases hr),(fun c hc=>by cases hc),⟨Below.refl _ _,fun i _ b hb hm=>zU b hb hm,hN⟩,Nat.le_refl _⟩
  ·have h1:i<1:=hi;have h2:j<1:=hj;omega
  ·have h1:i<1:=hi;obtain⟨x,hx,_⟩:=touch_of ha;have:=knows_own hx;rw[qp x (mem_of_getElem? hx)]at this
   obtain rfl:i=0:=by omega
   exact .inl this
end
end Sim
namespace Sim
open Go.Conc Go.RowKit
section
variable {P:Program}{Ro:Nat->Prop}{Fs:FuncId->Bool}
variable {Qk:Value->World->Prop}{M:Nat->Prop}
theorem qwe(HG:Good P Fs){Qk:Value->World->Prop}{made:Option Nat}{rem:Nat->List (Option Value)}{K:Kr}{b:Frame}{a a':Act}{w W:World}{c:Code}{fn:Func}(T:Tie P Fs Ro K M a a' w W)(hdf:a.defers=[]/\a'.defers=[])(hfn:P.funcs[b.fn]?=some fn)(hk:b.kind=.normal)(hin:P.inits.idxOf? b.fn=none)(hok:jG P Fs c=true)
  {R:Value->World->Prop} (hwp:∀τ,c.wp P (bodyPost P fn (fun e w'=>∃v,e=.returned v/\R v w')) a (qg w τ)) (yp:∀c,rem c=[])
  (hP:∀(K1:Kr) (v v':Value) (w1 W1:World),R v w1->VR K1 v v'->Qk v' W1):Sc P Ro Qk made rem M (G (b.at a' [.code c]) []) W:=by
 let E:Frame->Prop:=fun fr=>fr.mode≠.run/\fr.defers=[]
 let Z:Frame->World->Prop:=fun fr w=>Zc P R fr w/\fr.fn=b.fn
 have hE:QgZ [] E:=fun fr hn=>by
  by_cases hm:fr.mode=.run
  ·exact .inl ⟨hm,.inr rfl⟩
  ·exact .inr ⟨hm,fun e=>hn ⟨hm,e⟩,rfl⟩
 have hI:Inv P Fs [] [] Ro Z K M ⟨K,M,⟨b.at a [.code c],[c0 P],.running,none,none⟩,w,w.tape,G (b.at a' [.code c]) [],W⟩:=by
  refine⟨⟨⟨[],[],[],⟨rfl,T.tm,rfl,⟨hok,rfl⟩,(fun ops i r k o t e=>by cases e),?_,.run,rfl,.inl hk,⟨rfl,rfl⟩,⟨fn,hfn⟩,fun _=>hdf.1⟩,rfl,rfl,?_⟩,rfl,⟨rfl,rfl⟩,rfl,rfl⟩,rfl,T.wr,T.km,T.lt,T.fs,fun τ _=>?_,Kr.le.refl _,fun _ x=>x,fun _ x=>.inl x⟩
  ·show Two _ a.defers a'.defers;rw[hdf.1,hdf.2];exact .nil
  ·show Cas P Fs K [] [] b.kind [] [];rw[hk];exact .nil
  ·obtain⟨e,a1,w1,hq,qlD⟩:=hwp τ b [] [c0 P]
   cases e with
   | normal =>
    obtain⟨hd,v,hr,_,⟨⟩,hR⟩:=hq;obtain⟨n,hn⟩:=Steps.trans qlD (.one step_end);exact⟨n,w1,_,hn,⟨v,hR,rfl,hd,hk,fn,hfn,hr⟩,rfl⟩
   | ret =>
    obtain⟨hd,v,hr,_,⟨⟩,hR⟩:=hq;obtain⟨todo,n,hn⟩:=qlD;exact⟨n,w1,_,hn,⟨v,hR,rfl,hd,hk,fn,hfn,hr⟩,rfl⟩
   | panic chain=>obtain⟨_,_,⟨⟩,_⟩:=hq
   | exit id=>exact hq.elim
   | goto l=>exact hq.elim
   | outgrown=>obtain⟨_,⟨⟩,_⟩:=hq
 refine(qiz HG true hE (fun fr w ⟨⟨v,_,hl⟩,_⟩=>⟨by rw[hl.1];nofun,hl.2.1⟩) hI).sc (fun M1 g1 W1 hs=>?_);obtain⟨s,rfl,rfl,rfl,h,hc,hm,hd⟩:=hs;obtain⟨κf,l,l',hf,x1,x2,x3⟩:=h.gr.fr
 have hl0:l=[]:=by
  rw[hc]at x1;exact List.append_cancel_right (bs:=[c0 P]) (by simpa using x1.symm)
 subst hl0
 have hd':s.G.frame.defers=[]:=by
  have:=hf.defers;rw[hd]at this;generalize s.G.frame.defers=q at this⊢;cases this;rfl
 have hkl:s.g.frame.kind=.normal/\l'=[]:=by
  revert x3
  generalize s.g.frame.kind=q;intro x3;cases x3;exact⟨rfl,rfl⟩
 obtain⟨hk0,rfl⟩:=hkl;have hk':s.G.frame.kind=.normal:=hf.kind.trans hk0;obtain⟨fn1,qw1⟩:=hf.fs
 have over:∀τ,(∀d,d<s.w.drawn->τ d=s.ρ d)->∃v,R v (qg s.w τ)/\s.g.frame.leaving P (qg s.w τ) (.returned v)/\s.g.frame.fn=b.fn:=by
  intro τ ha;obtain⟨k,w',fr,r1,⟨v,r2,r3⟩,r4⟩:=h.run τ ha;rw[hc]at r1;have:=gone hm hd hk0 hf.fs r1;subst this;injection r1 with r1;obtain⟨e1,_,e3⟩:=qae r1;subst e1;subst e3;exact⟨v,r2,r3,r4⟩
 obtain⟨v0,hR0,hl0,hfb⟩:=over s.ρ (fun _ _=>rfl);have hmo:s.g.frame.mode=.returning:=hl0.1
 have qbN:s.G.frame.mode=.returning:=by
  have:=hf.qiA hmo;generalize s.G.frame.mode=m at this⊢;cases this;rfl
 have hGc:s.G.callers=[]:=by simpa using x2
 have qpp:P.inits.idxOf? s.G.frame.fn=none:=by rw[hf.fn,hfb];exact hin
 refine Sc.done (by rw[h.gr.st];exact h.st) yp (fun W1 hr=>?_);have hw1:=h.wr.rely h.km hr;have qbd:∀b,s.M b->b<W1.heap.size:=fun b hb=>Nat.lt_of_lt_of_le (h.lt b hb) hr.size;obtain⟨n,τ,hx⟩:=(qeU (P:=P) fn1 hf.tmps).runT s.w W1 hw1 #[] #[];have ha:Alike τ (glue s.ρ τ s.w.drawn) s.w.drawn (s.w.drawn+n):=fun d h1 _=>qjA h1;obtain⟨v,hR,hl,_⟩:=over (glue s.ρ τ s.w.drawn) (fun d hd=>qg0 hd);obtain⟨_,_,_,fn2,qlE,qlF⟩:=hl;rw[qw1]at qlE;cases qlE
 have qcd:((results fn1 s.g.frame.tmps).runT P (qg s.w (glue s.ρ τ s.w.drawn)) #[]).1=.ok v (qg s.w (glue s.ρ τ s.w.drawn)):=by rw[Sem.runT_fst];exact qlF
 rcases hx with⟨r,es,a1,a2,a3⟩|hx
 ·have e:=a1 _ ha;dsimp only at e;rw[e]at qcd
  cases r with
  | halt q w1=>cases qcd
  | ok v2 w2 =>
   obtain⟨K',v',W2,e1,hv,hw2,hdd,he⟩:=a3
   have hv2:v2=v:=by injection qcd
   subst hv2;have qd5:=qew hw2 hdd h.km qbd (qaf (P:=P) s.G.frame.fn he);generalize hX:(results fn1 s.G.frame.tmps).runT P W1 #[]=X at e1 qd5;obtain⟨r',es'⟩:=X;dsimp only at e1 qd5;subst e1;refine⟨v',W2,_,_,?_,qd5,hP K' v2 v' _ W2 hR hv⟩;have hst:=h.gr.st.trans h.st;have hdy:=h.gr.dy.2;have qd6:=h.gr.off.2
   have qeV:P.funcs[s.G.frame.fn]?=some fn1:=by rw[hf.fn];exact qw1
   clear he hf h hr qd5 x2 x3
   revert hst hdy qd6 hGc qbN hd' hk' qeV hX qpp
   generalize s.G=X;intro hd' hk' qbN hGc qpp hX hst hdy qd6 qeV;obtain⟨fr',cs',st',dy',j0⟩:=X;dsimp only at hst hdy qd6 hGc qbN hd' hk' qeV hX qpp⊢;subst hst;subst hdy;subst qd6;subst hGc;unfold stepG;simp only[qbN];unfold unwind;simp only[hd',qbN,qeV,hX];unfold doReturn;simp only[hk',qpp,GStep.after,Array.append_empty,Bool.not_true,Bool.false_eq_true,if_false]
 ·obtain⟨q,w2,e,_⟩:=hx _ ha;dsimp only at e;rw[qcd]at e;cases e
theorem qpq{t:Trace}(h:∀op∈t,op.g=0)(said:Bool):¬Race said t:=by
 rintro⟨i,j,hij,⟨a,b,ha,hb,_⟩,n1,_⟩;obtain⟨x,hx,_⟩:=touch_of ha;obtain⟨y,hy,_⟩:=touch_of hb;exact n1 (hb_po hij hx hy ((h x (mem_of_getElem? hx)).trans (h y (mem_of_getElem? hy)).symm))
theorem Co.solo{Stop:(Nat->Prop)->Goroutine->World->Prop}{N:Nat}{M:Nat->Prop}{g:Goroutine}{W:World}(h:Co P true Ro Stop M g W):∀(t:Trace),N<=W.heap.size->(∀b,M b->b<W.heap.size)->(∀b,b<N->M b->Ro b) ->
  ∃k g' W' M' u,runNT P k (Conc.solo g W) t=(.next (Conc.solo g' W'),t++u)/\Stop M' g' W'/\Calm u/\(∀op∈u,op.g=0)/\Below N W W'/\(∀b,M' b->b<W'.heap.size)/\∀b,b<N->M' b->Ro b:=by
 induction h with
 | @stop M g W hs=>exact fun t hN hlt zU=>⟨0,g,W,M,#[],by simp[runNT],hs W (QK.refl _ _),(fun op hop=>by simp at hop),(fun op hop=>by simp at hop),Below.refl _ _,hlt,zU⟩
 | @next M g W nx hr h1 _ ih =>
  intro t hN hlt zU;obtain⟨e1,e2,e3⟩:=h1 W (QK.refl _ _)
  have hb:Below N W (nx W).w:=⟨e3.os,e3.tape,e3.output,e3.size,fun b hb=>e3.same b (by omega) (by
   by_cases hm:M b
   ·exact .inr (zU b hb hm)
   ·exact .inl hm)⟩
  obtain⟨k,g',W',M',u,zk,hst,hc,h0,hbl,hl',qiB⟩:=ih W (QK.refl _ _) (t++MemOp.ofEvents 0 g.frame.fn g.frame.place (nx W).es) (Nat.le_trans hN e3.size) e3.lt (fun b hb hm=>by
   rcases e3.new b hm with x|x
   ·exact zU b hb x
   ·omega)
  refine⟨k+1,g',W',M',MemOp.ofEvents 0 g.frame.fn g.frame.place (nx W).es++u,?_,hst,Calm.append (fun op hop=>?_) hc,fun op hop=>?_,hb.trans hbl,hl',qiB⟩
  ·rw[runNT_succ_next ((stepT_solo hr).trans (runT_solo_go e1)),zk,Array.append_assoc]
  ·obtain⟨e,he,rfl⟩:=xj hop;exact(e3.evs e he).calm
  ·rcases Array.mem_append.1 hop with h'|h'
   ·obtain⟨e,_,rfl⟩:=xj h';rfl
   ·exact h0 op h'
theorem whole{Ro1:Nat->Prop}{N:Nat}{Qk:Value->World->Prop}{g:Goroutine}{W:World}(hN:N<=W.heap.size)(hlt:∀b,M b->b<W.heap.size)(zU:∀b,b<N->M b->Ro1 b)
  (h:Co P true Ro1 (fun M' g' W'=>(∀b,b<N->M' b->Ro1 b)->∃(Ro2:Nat->Prop) (M2:Nat->Prop),(∀b,M2 b->M' b)/\(∀b,b<N->M2 b->Ro2 b)/\Sc P Ro2 Qk none (fun _=>[]) M2 g' W') M g W) :
  ∃n last o w' t',runNT P (n+1) (Conc.solo g W) #[]=(.ended o w',t')/\runN P n (Conc.solo g W)=.next last/\step P last=.ended o w'/\Conc.Good P (fun v w'=>Qk v w'/\Below N W w') last o w' t':=by
 obtain⟨k,g1,W1,M1,u,zk,qyv,qcO,h0,hbl,hl1,qpr⟩:=h.solo (N:=N) #[] hN hlt zU;obtain⟨Ro2,M2,hm2,qyw,hsc⟩:=qyv qpr;rw[Array.empty_append]at zk;obtain⟨n,last,o,w',t',h1,h2,h3,v,rfl,⟨hp,hb2⟩,hg⟩:=machine (N:=N) (Nat.le_trans hN hbl.size) qyw (fun b hb=>hl1 b (hm2 b hb)) hsc (qpq h0) qcO h0;refine⟨k+n,last,_,w',t',?_,?_,h3,v,rfl,⟨hp,hbl.trans hb2⟩,hg⟩
 ·rw[Nat.add_assoc,runNT_add,zk];exact h1
 ·rw[runN_add,<-runNT_fst P k _ #[],zk];exact h2
end
end Sim
namespace Sim
open Go.Conc Go.RowKit
section
variable {w w' w02:World}{X1 X2 B2:Nat}{F1 S1:Nat->Prop}{vf1:Value}{bb1 bx1 bc1 bm1:Nat}{F2 S2:Nat->Prop}{vf2:Value}{bb2 bx2 bc2 bm2:Nat}{t:Int}{sh:Bool}{lns:List Tm.Ln}{p1:List Tm.Fact}{s1:Qt}{p2:List Tm.Fact}{s2:Qt}
theorem Duo.laid{Q:Nat->Prop}(h:Duo w X1 X2 B2 w02 F1 S1 vf1 bb1 bx1 bc1 bm1 F2 S2 vf2 bb2 bx2 bc2 bm2 t sh lns p1 s1 p2 s2)(hQ:∀i,Q i->i<X1):Duo (laid Q w) X1 X2 B2 w02 F1 S1 vf1 bb1 bx1 bc1 bm1 F2 S2 vf2 bb2 bx2 bc2 bm2 t sh lns p1 s1 p2 s2:=by
 have l1:=h.le1;have l2:=h.le2;exact⟨qoS h.b1 hQ,qoS h.b2 (fun i hi=>by have:=hQ i hi;omega),h.hX,h.co,fun g h1 h2=>(qeW Q w (fun hq=>by have:=hQ g hq;omega)).trans (h.same g h1 h2),h.le1,h.le2,h.f1,h.dis⟩
end
theorem qoT:(qlG.all fun f=>decide (f<Tryz.prog.funcs.size))=true:=by kernel_rfl
theorem qoU:(qjB.all fun f=>decide (f<Tryz.prog.funcs.size))=true:=by kernel_rfl
theorem qwf:(qlH.all fun f=>decide (f<Tryz.prog.funcs.size))=true:=by kernel_rfl
theorem qwg:(qjC.all fun f=>decide (f<Tryz.prog.funcs.size))=true:=by kernel_rfl
theorem qrE:Tryz.prog.funcs.size+1+3<=999999:=by decide +kernel
theorem vO{l:List Nat}{n f:Nat}(h:(l.all fun f=>decide (f<n))=true)(hc:l.contains f=true):f<n:=by
 have:=List.all_eq_true.1 h f (by simpa using hc);simpa using this
theorem qts{g:Nat}(hs:Tryz.prog.funcs.size+1+g<999999)(h:fs1 (Tryz.prog.funcs.size+1+g)=true):g<3:=by
 unfold fs1 qag at h;simp only[Bool.or_eq_true,Bool.and_eq_true,decide_eq_true_eq,beq_iff_eq]at h;rcases h with(((h|h)|h)|h)|h
 ·have:=vO qoT h;omega
 ·have:=vO qoU h;omega
 ·omega
 ·have:=h.2;omega
 ·omega
theorem qrF{f:Nat}(h:fs1 (1000000+f)=true):fs2 (1000000+f)=true:=by
 have hf:=qrE;unfold fs1 qag at h;simp only[Bool.or_eq_true,Bool.and_eq_true,decide_eq_true_eq,beq_iff_eq]at h;rcases h with(((h|h)|h)|h)|h
 ·have:=vO qoT h;omega
 ·have:=vO qoU h;omega
 ·unfold fs2 qag;simp only[Bool.or_eq_true,Bool.and_eq_true,decide_eq_true_eq,beq_iff_eq];exact .inl (.inl (.inr h))
 ·have:=h.2;omega
 ·omega
theorem qtt{g:Nat}(hs:Tryz.prog.funcs.size+1+g<999999):¬fs2 (Tryz.prog.funcs.size+1+g)=true:=by
 intro h;unfold fs2 qag at h;simp only[Bool.or_eq_true,Bool.and_eq_true,decide_eq_true_eq,beq_iff_eq]at h;rcases h with(((h|h)|h)|h)|h
 ·have:=vO qwf h;omega
 ·have:=vO qwg h;omega
 ·omega
 ·cases h.1
 ·omega
theorem qtu:¬fs2 Tryz.prog.funcs.size=true:=by
 have h:fs2 Tryz.prog.funcs.size=false:=by kernel_rfl
 rw[h];nofun
noncomputable def r7o(i:Nat):Oper:=match qps[i]? with
 | some o=>o
 | none=>{dst:=none,op:=.move (.tmp 0),type:=0,pos:= "",after:=#[],guard:=none}
theorem qrG{Ro1:Nat->Prop}{n st:Int}{sh:Bool}{vl:Value}{am:Option Addr}{yj:Nat}{ms:Tm.QU}{t:Int}{X2 B2:Nat}{w02 w0 W0:World}{bb1 bx1 bc1 bm1 bb2 bx2 bc2 bm2:Nat}{lns:List Tm.Ln}{K0 K:Kr}{M:Nat->Prop}{j:Nat->Value}{a':Act}{w W:World}{F1 S1 F2 S2:Nat->Prop}{vf1 vf2:Value}{p1 p2:List Tm.Fact}{s1 s2:Qt}
  (T:Tie Tryz.prog fs1 Ro1 K M (j5 n st sh vl (.slice am ms.length yj) j) a' w W) (hd:a'.defers=[]) (le:K0.le K) (wr0:WR Tryz.prog Ro1 K0 w0 W0) (hbc:∃b0,K0.B bc1 b0) (hz:w0.heap.size<=w.heap.size) (same:∀g,g<w0.heap.size->w.heap[g]?=w0.heap[g]?) (hok:Zt t lns)
  (D:Duo w w0.heap.size X2 B2 w02 F1 S1 vf1 bb1 bx1 bc1 bm1 F2 S2 vf2 bb2 bx2 bc2 bm2 t sh lns p1 s1 p2 s2) (qc9:qv s1=qv s2) (j11:j 11=.pointer (some ⟨bb1,0,none⟩)) (j12:j 12=.pointer (some ⟨bb2,0,none⟩)) (j42:j 42=.pointer (some ⟨bx1,0,none⟩)) (j43:j 43=.slice am ms.length yj) (hn:ms.length<=1048576) (hm:0<ms.length->Reads w (.slice am ms.length yj) 2 ms.length (qY ms)) (hvm:∀g,(Value.slice am ms.length yj).ownBlock=some g->g<w0.heap.size) (qtv:∃y,VR K0 (.slice am ms.length yj) y) :
  Sc Tryz.prog (fun b=>∃a,K0.B a b) (fun v _=>v=.bool true) none (fun _=>[]) M (G ((base 9).at a' (.inRegion qps [5,6]::[.code qpt])) []) W:=by
 have kl:∀x y,K0.B x y->x<w0.heap.size:=fun x y hxy=>by
  obtain⟨_,_,q,_,_⟩:=wr0.obj x y hxy;exact(Array.getElem?_eq_some_iff.1 q).1
 have wrw:=wr0.later T.wr le (fun x y hxy=>same x (kl x y hxy));have hFs:K.Fs=fun f=>fs1 f=true:=T.fs;obtain⟨wo,wb⟩:=wrw.switch T.wr le (Fs:=fun f=>fs2 f=true) (fun f hf=>qrF (by rw[hFs]at hf;exact hf)) (fun g hs=>qtt hs) qtu;have hQ:∀i,(∃b,K0.B i b)->i<w0.heap.size:=fun i ⟨b,hb⟩=>kl i b hb;have Du:=D.laid hQ;obtain⟨u,hu⟩:∃u,laid (fun a=>∃b,K0.B a b) w=u:=⟨_,rfl⟩
 have hus:u.heap.size=w.heap.size:=by rw[<-hu];exact jH _ _
 have hmu:0<ms.length->Reads u (.slice am ms.length yj) 2 ms.length (qY ms):=fun hp=>by rw[<-hu];exact qcP (hm hp)
 rw[hu]at wo wb Du;have wd:K.wide (K0.over K fun f=>fs2 f=true):=⟨fun _ _ x=>x,fun f hf=>qrF (by rw[hFs]at hf;exact hf)⟩
 have T2:Tie Tryz.prog fs2 (fun b=>∃a,K0.B a b) (K0.over K fun f=>fs2 f=true) M (j5 n st sh vl (.slice am ms.length yj) j) a' u W:=⟨T.tm.wide wd,wo,fun x y hxy=>T.km x y hxy,T.lt,rfl⟩
 have hJ:j5 n st sh vl (.slice am ms.length yj) j=j5 n st sh vl (.slice am ms.length yj) (qi (qi j 42 (.pointer (some ⟨bx1,0,none⟩))) 43 (.slice am ms.length yj)):=by rw[<-yI (j:=qi j 42 (.pointer (some ⟨bx1,0,none⟩))) (t:=43) (by rw[qT _ _ (by decide)];exact j43),<-yI j42]
 have T2:=T2.zm hJ;have v42:=T2.slot 42 (v:=.pointer (some ⟨bx1,0,none⟩)) (by kernel_rfl);have v43:=T2.slot 43 (v:=.slice am ms.length yj) (by kernel_rfl);have qR:=Du.b1.qhQ.fit;refine qwh (Kb:=K0.base fun f=>fs2 f=true) T2 hk9 (o:=r7o 5) (by kernel_rfl) (by kernel_rfl) (fun W1=>(qa3 (x:=42) (y:=43) (ats:=#[56,50]) (by kernel_rfl) rfl rfl Tryz.func32 rfl (by kernel_rfl) W1).1) (fun W1=>(qa3 (x:=42) (y:=43) (ats:=#[56,50]) (by kernel_rfl) rfl rfl Tryz.func32 rfl (by kernel_rfl) W1).2) (AV.two v42 v43) hn (X:=w0.heap.size) (by omega) Du.b1.qhQ hok Du.b1.ix hmu (fun hp g hg e=>by have:=hvm g hg;have:=(Du.b1.ix.from_ g e).1;omega) wb (Kr.qwi le _) rfl (fun _=>Iff.rfl) (fun x y hxy=>by have:=kl x y hxy;omega) ?_ ?_ ?_
 ·obtain⟨b0,hb0⟩:=hbc;exact⟨.pointer (some ⟨b0,0,none⟩),.ptr _ _ ⟨hb0,rfl,rfl⟩⟩
 ·obtain⟨y,hy⟩:=qtv
  cases hy with
  | slice0=>exact⟨_,.slice0 _ _⟩
  | slice _ b _ _ e=>exact⟨_,.slice _ b _ _ ⟨e.block,e.off,e.spot⟩⟩
 intro qah K2 M2 w2 W2 S' a9 c9 v' g2 kp ix' qy9 qza qzb hr0 hv' T3;have h:=yl Tryz.prog (fun b=>∃a,K0.B a b) (fun v _=>v=.bool true) none qah;refine Way.move h T3 hk9 (o:=r7o 6) (by kernel_rfl) (by kernel_rfl) (x:=.tmp 44) (.inr (by kernel_rfl)) rfl (fun T4=>?_);refine h.qx T4.lt ?_;have T4:=T4.zm (b:=j5 n st sh vl (.slice am ms.length yj) (qi (qi (qi (qi j 42 (.pointer (some ⟨bx1,0,none⟩))) 43 (.slice am ms.length yj)) 44 (.slice a9 ms.length c9)) 13 (.slice a9 ms.length c9))) (by kernel_rfl);obtain⟨F',S'',hB',hf',hi'⟩:=(qrH (w:=w2) Du.b1).step (s':=jx (qe lns t sh) s1 ms) ⟨S',ix',kp.vV,qy9⟩;have D2:=Du.first hB' ⟨hf'.size,hf'.block⟩ hi';obtain⟨nw,ne⟩:=qlI (c:=qe lns t sh) ms qc9
 have qpu:0<ms.length->Reads w2 (.slice a9 ms.length c9) 1 ms.length (jy (qe lns t sh) s2 ms):=fun _=>by rw[<-ne];exact Reads.qn qza
 have hm2:0<ms.length->Reads w2 (.slice am ms.length yj) 2 ms.length (qY ms):=fun hp=>kp.reads (hmu hp) (fun g hg e=>by have:=hvm g hg;have:=(Du.b1.ix.from_ g e).1;omega)
 have n1:∀g,(Value.slice a9 ms.length c9).ownBlock=some g->¬F2 g:=fun g hg e=>by have:=(qzb g hg).2;have:=(Du.b2.from_ g e).2;omega
 have n2:∀g,(Value.slice am ms.length yj).ownBlock=some g->¬F2 g:=fun g hg e=>by have:=hvm g hg;have:=(Du.b2.from_ g e).1;have:=Du.le1;have:=Du.le2;omega
 refine qwe zn T4 ⟨rfl,?_⟩ Tryz.func9 rfl (by kernel_rfl) (by kernel_rfl) (R:=fun v _=>v=.bool true) (fun τ=>?_) hr0 (fun K1 v v1 w1 W1 hR hv=>?_)
 ·simp only[put_defers];exact hd
 ·have pt:Pre w2 (qg w2 τ):=⟨Nat.le_refl _,fun _ _=>rfl⟩
  exact qtw (D2.pre pt) nw qpu hm2 (fun _=>n1) (fun _=>n2) hn (by simp[qi,j11]) (by simp[qi,j12]) (by simp[qi])
 ·subst hR;cases hv;rfl
end Sim
namespace Sim
open Go.Conc Go.RowKit
theorem qfW{Ro:Nat->Prop}{W:World}{v:Value}{l:Tm.QU}(h:XX W v l)(hR:∀g,v.ownBlock=some g->Ro g):XX (jz Ro W) v l:=by
 obtain⟨a,cap,rfl,hr⟩:=h;refine⟨a,cap,rfl,fun hp=>?_⟩;obtain⟨h1,h2,a',z8,h3,h4,h5⟩:=hr hp;refine⟨h1,fun g hg=>by rw[qbe];exact h2 g hg,a',z8,h3,h4,fun j u hj=>?_⟩;obtain⟨g,off,e1,e2⟩:=h5 j u hj
 have hu:jX 9 u=true:=by
  have hm:=List.mem_of_getElem? hj;unfold qY at hm;simp only[List.mem_flatMap,List.mem_cons,List.not_mem_nil,or_false]at hm;obtain⟨e,_,rfl|rfl⟩:=hm<;>rfl
 cases h3;refine⟨g,off,e1,qlJ e2 (hR g ?_) hu⟩;rw[e1];rfl
theorem qkk{K:Kr}{a:Option Addr}{n c:Nat}(h:∀g,(Value.slice a n c).ownBlock=some g->K.B g g):VR K (.slice a n c) (.slice a n c):=by
 cases a with
 | none=>exact .slice0 _ _
 | some a=>exact .slice _ _ _ _ ⟨h a.block rfl,rfl,rfl⟩
theorem qpv(n st:Int)(sh:Bool)(ls ms:Tm.QU)(al am:Option Addr)(vW yj:Nat)(W:World)(hn:-9223372036854775808<=n/\n<=9223372036854775807)(hst:-9223372036854775808<=st/\st<=9223372036854775807)(hgl:∀g,g<3->∃c e f,W.heap[g]?=some (.cells c e f))(hgs:Tryz.prog.globals.size<=W.heap.size)
  (hbl:∀g,(Value.slice al ls.length vW).ownBlock=some g->∃c e f,W.heap[g]?=some (.cells c e f)) (hbm:∀g,(Value.slice am ms.length yj).ownBlock=some g->∃c e f,W.heap[g]?=some (.cells c e f)) (hl:XX W (.slice al ls.length vW) ls) (hm:XX W (.slice am ms.length yj) ms) (hms:ms.length<=1048576) :
  ∃N last o w' t',runNT Tryz.prog (N+1) (Conc.solo (G (Frame.enter Tryz.prog 9 #[.int .i64 n,.int .i64 st,.bool sh,.slice al ls.length vW,.slice am ms.length yj] .normal) []) W) #[]=(.ended o w',t')/\runN Tryz.prog N (Conc.solo (G (Frame.enter Tryz.prog 9 #[.int .i64 n,.int .i64 st,.bool sh,.slice al ls.length vW,.slice am ms.length yj] .normal) []) W)=.next last/\step Tryz.prog last=.ended o w'/\Conc.Good Tryz.prog (fun v w'=>v=.bool true/\Below W.heap.size W w') last o w' t':=by
 obtain⟨kt,t,hkt,hop⟩:=qpw n st sh hn hst
 let Ro1:Nat->Prop:=fun b=>b<3\/(Value.slice al ls.length vW).ownBlock=some b\/(Value.slice am ms.length yj).ownBlock=some b
 have hRo:∀b,Ro1 b->∃c e f,W.heap[b]?=some (.cells c e f):=fun b hb=>by
  rcases hb with h|h|h
  ·exact hgl b h
  ·exact hbl b h
  ·exact hbm b h
 have hlt:∀b,Ro1 b->b<W.heap.size:=fun b hb=>by
  obtain⟨c,e,f,q⟩:=hRo b hb;exact(Array.getElem?_eq_some_iff.1 q).1
 have wr:WR Tryz.prog Ro1 (Kr.entry Ro1 fun f=>fs1 f=true) (jz Ro1 W) W:=WR.entry hgs hRo (fun g hs hf=>.inl (qts hs hf));have htl:VR (Kr.entry Ro1 fun f=>fs1 f=true) (.slice al ls.length vW) (.slice al ls.length vW):=qkk (fun g hg=>⟨rfl,.inr (.inl hg)⟩);have htm:VR (Kr.entry Ro1 fun f=>fs1 f=true) (.slice am ms.length yj) (.slice am ms.length yj):=qkk (fun g hg=>⟨rfl,.inr (.inr hg)⟩);have hl0:XX (jz Ro1 W) (.slice al ls.length vW) ls:=qfW hl (fun g hg=>.inr (.inl hg));have hm0:XX (jz Ro1 W) (.slice am ms.length yj) ms:=qfW hm (fun g hg=>.inr (.inr hg))
 have hvl:∀g,(Value.slice al ls.length vW).ownBlock=some g->g<(jz Ro1 W).heap.size:=fun g hg=>by rw[qbe];exact hlt g (.inr (.inl hg))
 have hvm:∀g,(Value.slice am ms.length yj).ownBlock=some g->g<(jz Ro1 W).heap.size:=fun g hg=>by rw[qbe];exact hlt g (.inr (.inr hg))
 refine whole (N:=W.heap.size) (Ro1:=Ro1) (M:=Ro1) (Qk:=fun v _=>v=.bool true) (Nat.le_refl _) hlt (fun b _ h=>h) ?_;rw[enter_at #[.int .i64 n,.int .i64 st,.bool sh,.slice al ls.length vW,.slice am ms.length yj] Tryz.func9 rfl]
 have T0:Tie Tryz.prog fs1 Ro1 (Kr.entry Ro1 fun f=>fs1 f=true) Ro1 (j5 n st sh (.slice al ls.length vW) (.slice am ms.length yj) (fun _=>undef)) (j5 n st sh (.slice al ls.length vW) (.slice am ms.length yj) (fun _=>undef)) (jz Ro1 W) W:=by
  refine⟨⟨rfl,fun i x y hx hy=>?_⟩,wr,fun x y hxy=>hxy.2,hlt,rfl⟩;rw[hx]at hy;cases hy;have hm:=Array.mem_of_getElem? hx;simp only[j5,List.mem_toArray,List.mem_cons,List.not_mem_nil,or_false,or_self]at hm;rcases hm with rfl|rfl|rfl|rfl|rfl|rfl
  ·exact .int _ _
  ·exact .int _ _
  ·exact .bool _
  ·exact htl
  ·exact htm
  ·exact .tuple _ _ rfl (fun i x y h=>by simp at h)
 have ea:({tmps:=#[.int .i64 n,.int .i64 st,.bool sh,.slice al ls.length vW,.slice am ms.length yj]++Array.replicate (Tryz.f9.ntmps-(#[.int .i64 n,.int .i64 st,.bool sh,.slice al ls.length vW,.slice am ms.length yj]:Array Value).size) undef,defers:=[]}:Act)=j5 n st sh (.slice al ls.length vW) (.slice am ms.length yj) (fun _=>undef):=by kernel_rfl
 rw[ea];refine qrI (qrJ _ _ _ _) hkt hop T0 (fun K0 K1 M1 j1 a1 w0 W0 w1 W1 X2 B2 w02 F1 S1 bb1 bx1 bc1 bm1 F2 S2 bb2 bx2 bc2 bm2 lns s1 s2 le0 le1 g1 wr0 hbc qpx qd7 hok D n1 n2 j11 j12 T1 hd1=>?_);have pre:=qpx.trans qd7;have hz0:=qpx.size;refine qtx (qrJ _ _ _ _) (ls:=ls) T1 D n1 n2 j11 j12 (qbO hl0 (Kept.pre (T:=fun _=>False) pre) (fun _ _ _ e=>e)) (fun _ g hg=>by have:=hvl g hg;omega) (fun K2 M2 j2 a2 w2 W2 F1' S1' vf1 F2' S2' vf2 p1 p2 g2 hz same D2 y11 y12 y42 y43 T2 hd2=>?_);refine Co.stop (fun W3 hr qyx=>⟨fun b=>∃a,K0.B a b,M2,fun b hb=>hb,fun b hb hM=>⟨b,le0.b _ _ ⟨rfl,qyx b hb hM⟩⟩,?_⟩);have T3:Tie Tryz.prog fs1 Ro1 K2 M2 (j5 n st sh (.slice al ls.length vW) (.slice am ms.length yj) j2) a2 w2 W3:=⟨T2.tm,T2.wr.rely T2.km hr,T2.km,fun b hb=>Nat.lt_of_lt_of_le (T2.lt b hb) hr.size,T2.fs⟩
 have hz1:=qd7.size
 have hm2:XX w2 (.slice am ms.length yj) ms:=by
  have hm1:=qbO hm0 (Kept.pre (T:=fun _=>False) pre) (fun _ _ _ e=>e);refine qbO hm1 (T:=fun g=>w0.heap.size<=g) ⟨hz,fun g hg hn=>same g (by omega)⟩ (fun _ g hg=>by have:=hvm g hg;omega)
 have hrd:0<ms.length->Reads w2 (.slice am ms.length yj) 2 ms.length (qY ms):=by
  obtain⟨_,_,e,q⟩:=hm2;exact q
 exact qrG T3 (hd2.trans hd1) (le1.trans g2.le) wr0 hbc (by omega) (fun g hg=>(same g hg).trans (qd7.block g hg)) hok D2 (qlK _ (n1.trans n2.symm)) y11 y12 y42 y43 hms hrd (fun g hg=>by have:=hvm g hg;omega) ⟨_,htm.mono le0⟩
end Sim
open Go.RowKit
open Go.ChangeShapes Go.WideShapes Go.ChangeAt Go.RowKit
open Go.ChangeMaps (open_string shut_string)
variable {H:Type}{v:Value}
theorem own:ownKnob Tryz.prog.godebug=none:=by kernel_rfl
theorem qrK:laidOutB Tryz.prog=true:=by kernel_rfl
theorem qrL:mapsRowed Tryz.prog=true:=by kernel_rfl
theorem qnL:((List.range Tryz.prog.types.size).all fun t=>match Tryz.prog.underlying t with|some (.slice e)=>decide (0<Tryz.prog.cellsOf e)|_=>true)=true:=by kernel_rfl
theorem qfG{H:Type}{enc:TypeId×Value->H}{P:Program}{w w':World}{base:Nat}{spare:Nat->Bool}{held:Bool}:∀{ts:List TypeId} {vs:List Value} {ds:List (DataW H)} {ps:List MemPlace},DataW.TrodAll enc P w base spare held ts vs ds ps->(∀p∈ps,w.sameAt w' p)->DataW.TrodAll enc P w' base spare held ts vs ds ps
 | [],[],[],_,h,_=>h
 | _::_,_::_,_::_,_,⟨p,q,⟨n,h1⟩,h2,e⟩,hs=>⟨p,q,⟨n,DataW.trod_carry n _ _ _ h1 (fun x hx=>hs x (by rw[e];exact List.mem_append_left _ hx))⟩,qfG h2 (fun x hx=>hs x (by rw[e];exact List.mem_append_right _ hx)),e⟩
theorem qpy{enc:TypeId×Value->H}{W W':World}(hb:Below W.heap.size W W'){ts:List TypeId}{vs:List Value}{ds:List (DataW H)}{ps:List MemPlace}(ht:∀t∈ts,t<Tryz.prog.types.size)(h:DataW.TrodAll enc Tryz.prog W 0 (fun _=>true) true ts vs ds ps) :
  DataW.TrodAll enc Tryz.prog W' 0 (fun b=>decide (b<W.heap.size)) true ts vs ds ps:=by
 have hlt:=DataW.TrodAll.lt h;refine qfG (DataW.TrodAll.respare (kids_rows qrK qrL) (slices_full_of _ qnL) ht h (fun p hp=>decide_eq_true (hlt p hp))) (fun p hp=>?_);have:=hlt p hp
 cases p with
 | cell b off=>exact hb.cell (p:=⟨b,off,none⟩) this
 | map b=>exact hb.block b this
theorem qfX{enc:TypeId×Value->H}{C:Checked}{os:Os}{f:FuncId}{fn:Func}{s:OpenSpec}{conds:List PathCond}{apart:Bool}{laid:List (String×DataW Unit)}(modest:Bool)(w0:World)(args:Array Value)(hos:w0.os=os)
  (hsh:(w0.forCall (fun _ _=>0) ⟨#[],args,[]⟩).Shaped C.prog)
  (hok:Input.okWideB C.prog (w0.forCall (fun _ _=>0) ⟨#[],args,[]⟩) f ⟨#[],args,[]⟩=true)
  (jV:s.preRow enc C.prog fn conds apart laid (w0.forCall (fun _ _=>0) ⟨#[],args,[]⟩).memory args) :
  ∃(w:World) (tape:Tape) (i:Input),w.os=os/\(w.forCall tape i).Shaped C.prog/\i.vars=[]/\Input.okWide C.prog (w.forCall tape i) .any w.heap.size f i /\
   s.preRow enc C.prog fn conds apart laid (w.forCall tape i).memory i.args/\({modest:=modest}:Assume).holds C.prog (lone (Frame.enter C.prog f i.args .normal) [] (w.forCall tape i)) :=
 ⟨w0,fun _ _=>0,⟨#[],args,[]⟩,hos,hsh,(Input.okWide_of_okWideB (base:=0) hok).1,(Input.okWide_of_okWideB hok).2,jV,by
  simp only[Assume.holds]
  exact⟨by simp,by simp,fun _=>Modest.zero,by simp,by simp⟩⟩
theorem qty(d:DataW H):1<=Rows.uptoBulk d:=by
 cases d with
 | lit l=>cases l<;>simp[Rows.uptoBulk]
 | nil=>simp[Rows.uptoBulk]
 | ptr d=>simp[Rows.uptoBulk]
 | slice elems spare=>simp[Rows.uptoBulk]
 | agg parts=>simp[Rows.uptoBulk]
 | iface t d=>simp[Rows.uptoBulk]
 | map entries=>simp[Rows.uptoBulk]
 | held h=>simp[Rows.uptoBulk]
theorem qnM(l:List (DataW H)):l.length<=Rows.uptoBulkAll l:=by
 induction l with
 | nil=>simp[Rows.uptoBulkAll]
 | cons d r ih=>simp only[Rows.uptoBulkAll,List.length_cons];have:=qty d;omega
theorem qwj{ds:List (DataW H)}(h:Rows.uptoSmall H ds=true):Rows.uptoBulkAll ds<=1048576:=of_decide_eq_true h
theorem qrM{w:World}{a:Addr}(h:w.cell? a=some v):a=⟨a.block,a.off,none⟩:=by
 obtain⟨b,o,s⟩:=a
 cases s with
 | none=>rfl
 | some k =>
  unfold World.cell? at h;split at h
  ·simp at h
  ·cases h
theorem qwk{w:World}{a:Addr}(h:w.cell? a=some v):a.block<w.heap.size:=by
 unfold World.cell? at h;split at h
 ·rename_i h1;exact(Array.getElem?_eq_some_iff.1 h1).1
 ·cases h
theorem qrN(Lk:Looks){p:Pinned}{s:OpenSpec}{c:OpenClaim}(kinds:List LaidKind)(qpz:Bool)(har:Bool×String)(lk:Bool)(hc:c.holds p s)(hw:c.wfByText s=true)(qtv:c.laidByTextAt Lk p kinds qpz)
  (hst:c.start=.entering) (hnb:c.noBlocks=false/\c.again=false) (hm:p.checked.prog.mainIs=some (har.1,har.2.toList)) (hn:(!har.1&&har.2.isEmpty&&!lk)=false)
  (hl:∀f fn,p.checked.prog.funcNamed c.func=some f->p.checked.prog.funcs[f]?=some fn->lk=p.checked.prog.looks []/\∀(j:Nat) t,fn.params[j]?=some t->p.checked.prog.wantsStandIn t=false) (hg:true=c.goesBy p.checked.prog) :
  Claim7.holds p (.plain s) {stood:={row:=c,standIns:=[],harness:=har,looks:=lk},kinds:=[],alts:=[],goes:=true,laidByText:=true,laidKinds:=kinds,laidTests:=qpz,laidLooks:=Lk}:=by
 have h6:Claim7.isSixth {stood:={row:=c,standIns:=[],harness:=har,looks:=lk},kinds:=[]}=false:=by simpa[Claim7.isSixth]using hn
 exact⟨Claim7.tied_new_at Lk kinds qpz (Claim7.new_of_sixth hc har lk hst hnb hm h6 hl) hw,fun _ hD=>(by cases hD),qtv,fun h=>(by cases h),hg⟩
theorem qkl{enc:TypeId×Value->H}{W:World}{base:Nat}{d:DataW H}{ps:List MemPlace}(hv:Value.okWide Tryz.prog W .any base 50 v)(h:DataW.Trod enc Tryz.prog W 0 (fun _=>true) true 50 v d ps) :
  ∃l:Tm.QU,XX W v l:=by
 obtain⟨a,len,cap,rfl⟩:=okWide_slice Tryz.underlying50 hv;obtain⟨n,hn⟩:=h;rcases Deep.open_slice_pairs Tryz.underlying50 Tryz.underlying67 (by kernel_rfl) rfl rfl (by kernel_rfl) (by kernel_rfl) hn with⟨h1,h2⟩|⟨a,len,cap,m,k,V0,V1,D0,D1,P0,P1,h1,_,hl,hm,hmm,h2,hx⟩
 ·simp[Value.cells]at h1;obtain⟨rfl,rfl,rfl⟩:=h1;exact⟨[],none,0,rfl,fun h=>by simp at h⟩
 ·simp[Value.cells]at h1;obtain⟨rfl,rfl,rfl⟩:=h1;simp at hmm;subst hmm
  have each:∀i,i<m->∃q:ByteArray×ByteArray,V0 i=.string q.1/\V1 i=.string q.2:=fun i hi=>by
   obtain⟨s0,e0,_⟩:=DataW.trod_string Tryz.underlying9 (hx i hi).2.2.1;obtain⟨s1,e1,_⟩:=DataW.trod_string Tryz.underlying9 (hx i hi).2.2.2;exact⟨(s0,s1),by simpa using e0,by simpa using e1⟩
  obtain⟨q,hq⟩:=Deep.choose_lt each
  have hlen:((List.range len).map q).length=len:=by simp
  refine⟨(List.range len).map q,some a,m,by rw[hlen],fun hp=>?_⟩;rw[hlen]at hp⊢;have h0:=(hx 0 (by omega)).1;rw[show a.add (0 * 2)=a from rfl]at h0;have hs:=qrM h0;have hlt:=qwk h0;rw[hs]at hx⊢;refine⟨by rw[qbf,hlen],fun g hg=>by simp[Value.ownBlock]at hg;subst hg;exact hlt,_,m,rfl,⟨hl,hm⟩,fun j u hu=>⟨a.block,a.off,rfl,?_⟩⟩
  have hj:j<len * 2:=by have:=(List.getElem?_eq_some_iff.1 hu).1;rw[qbf,hlen]at this;exact this
  have hd:j / 2<len:=by omega
  have hr:=qbP (fun e:ByteArray×ByteArray=>[Value.string e.1,Value.string e.2]) 2 (fun _=>rfl) ((List.range len).map q) (j / 2) (by rw[hlen];exact hd) (j % 2) (by omega);rw[show j / 2 * 2+j % 2=j by omega]at hr;have hu2:(qY ((List.range len).map q))[j]?=some u:=hu;unfold qY at hu2;rw[hr]at hu2;obtain⟨x0,x1,_,_⟩:=hx (j / 2) (by omega);obtain⟨y0,y1⟩:=hq (j / 2) (by omega);rw[add_plain]at x0 x1;rcases(show j % 2=0\/j % 2=1 by omega)with e|e
  ·rw[e]at hu2;simp at hu2;rw[<-hu2,<-y0,show a.off+j=a.off+j / 2 * 2 by omega];exact x0
  ·rw[e]at hu2;simp at hu2;rw[<-hu2,<-y1,show a.off+j=a.off+(j / 2 * 2+1) by omega];exact x1
