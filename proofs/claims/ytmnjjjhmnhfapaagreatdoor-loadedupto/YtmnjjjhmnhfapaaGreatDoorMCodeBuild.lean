import Derived.Test.YtmnjjjhmnhfapaaGreatDoorMRepW
import Derived.Test.YtmnjjjhmnhfapaaGreatDoorMCodeSeq
import Derived.Test.YtmnjjjhmnhfapaaGreatDoorMCodeCatch
namespace Go.Proofs.YtmnjjjhmnhfapaaGreatDoor
set_option maxRecDepth 100000
set_option maxHeartbeats 4000000
open Go.RowKit
variable {n line q st:Int}{ws:List (List UInt8)}{l lns:List Tm.Ln}{r:Option Tm.Ln}{base bd bm cap k bc B:Nat}{w w1 w':World}{e:Ending}{b s:ByteArray}{col:Nat->Int}{p:Tm.Ln->Bool}{a:Option Addr}{sh:Bool}
theorem Tryz.qwm:(Tryz.prog.info? 238).map (fun i=>(i.zero,i.size,i.bytes))=some (some (.agg #[.slice none 0 0,.slice none 0 0]),2,48):=by kernel_rfl
theorem Tryz.qnQ:(Tryz.prog.info? 240).map (fun i=>(i.zero,i.size,i.bytes))=some (some (.agg #[.int .i64 0,.slice none 0 0,.slice none 0 0]),3,56):=by kernel_rfl
theorem qiI{l:Tm.Ln}(h:Tm.qC n ([119]::ws)=some l):Tm.Fit l/\l.kind=[119]/\l.num=n:=by
 by_cases hs: [61]∈ws
 ·obtain⟨a,b,rfl,hb⟩:=Tm.qoW hs;rw[Tm.qhj hb]at h;split at h
  ·rename_i hc
   cases he:Tm.zB b with
   | none=>rw[he]at h;cases h
   | some es =>
    rw[he]at h;simp at h;subst h;exact⟨Tm.qrV hc.1 hc.2.1 hc.2.2.1 hc.2.2.2.1 hc.2.2.2.2 he,rfl,rfl⟩
  ·cases h
 ·rw[Tm.qez hs]at h;cases h
theorem qhW(vs:Value)(bs:List ByteArray)(col:Nat->Int)(base bd bm:Nat)(line:Int)(vp vw:Value)(lns:List Tm.Ln)(w:World)(hr:Reads w vs 1 bs.length (bs.map Value.string))(hl:bs.length<=8193)(hz:∀b∈bs,b.size<=8192)
  (qL:Rep w col base bd bm line vp vw lns) (hn:lns.length<=8192) :
  Calls Tryz.prog 180 #[.pointer (some ⟨bd,0,none⟩),vs] w fun e w'=>yZ (Tm.qC line ([119]::lets bs)) lns base bd bm line w e w':=by
 have HR:=qb hr;have HZ:=qb hz;obtain⟨i0,hi,hz0,hz1,hz2⟩:=info_parts Tryz.qwm;obtain⟨i1,hi',hy0,hy1,hy2⟩:=info_parts Tryz.qnQ;obtain⟨a,cap,rfl⟩:=hr.shape;clear hr hz;go_enter Tryz.func180,Tryz.ntmps180
 go_wp2_with fail
 refine(qhX _ bs line _ HR.out hl HZ.out).mono ?_;rintro e w1 ⟨qw,hb1⟩
 cases hp:Tm.qC line ([119]::lets bs)with
 | none =>
  rw[hp]at qw;obtain rfl:e=_:=qw;have HP:=qb hp;have HB1:=qb hb1;clear hp hb1 qL;go_wp2;exact⟨rfl,je HP.out rfl HB1.out⟩
 | some l =>
  rw[hp]at qw;obtain⟨v1,v2,rfl,jW,qf4,qef,qlX⟩:=qw;obtain⟨qR,qcT,qlY⟩:=qiI hp;have Qe4:=qb qR;have QvF:=qb qcT;have QtL:=qb qlY;have HP:=qb hp;have ZG:Hid (Rep w1 (yA col w.heap.size) base bd bm line vp vw lns):=qL.fresh.below hb1;have HB1:=qb hb1
  have HBW:Hid (base<=w.heap.size):=by have h1:=qL.dr.from_;have h2:=qL.dr.lt;unfold Hid;omega
  obtain⟨r,rs,hrs⟩:∃r rs,l.qh=r::rs:=by
   cases h:l.qh with
   | nil=>exact absurd h qR.some
   | cons x y=>exact⟨x,y,rfl⟩
  have hr0:=qR.rune r (by rw[hrs];simp)
  have QvG:Hid (l.qh.getD 0 0=r):=by unfold Hid;rw[hrs];rfl
  have HT:Hid (Tm.y6 lns l=(Tm.qI lns r).any fun o=>decide (o.qh=l.qh)):=by unfold Hid;rw[Tm.qnR qcT,QvG.out]
  have QhY:Hid (Qce w1 (yA col w.heap.size) (v1,v2) l):=⟨⟨jW,fun g hg=>qdj (qf4 g hg)⟩,⟨qef,fun g hg=>qdj (qlX g hg)⟩⟩
  have hlen:=qR.few;have qAQ:=qR.els;obtain⟨g1,zL,qX,rfl,hg1,qf5⟩:=jW.form (by rw[zw];rw[hrs];simp);have x0:w1.cell? ⟨g1,zL,none⟩=some (.int .i64 r):=qf5 0 _ (by rw[hrs];rfl);obtain⟨a2,zD,rfl⟩:=qef.shape
  have qe5:0<l.qh.length:=by rw[hrs];simp
  obtain⟨f,pv,sv,yq,hfv,hpd,hsr,qQ⟩:=ZG.out.nd.look hr0.1;have d0:=ZG.out.dr.c0;have dl:=ZG.out.dr.lt;have HPD:=qb hpd;have HSR:=qb hsr;have Qdd:=qb qQ;have YY:=qb yq;obtain⟨pa,pc,rfl⟩:=HPD.out.1.shape;obtain⟨sa,sc,rfl⟩:=HSR.out.rd.shape;clear hp hb1 qL jW qef qf4 qlX qR qcT qlY hrs qf5 hpd hsr qQ yq
  have g1n:¬g1=w1.heap.size:=by omega
  have bdn:¬bd=w1.heap.size:=by omega
  have HMA:Hid (Yi (w1.alloc (.cells #[.slice (some ⟨g1,zL,none⟩) l.qh.length qX,.slice a2 l.els.length zD] 238)) bm lns.length f):=YY.out.same (Below.heap_alloc _ _ _ YY.out.lt);go_wp2_with (at_lookup;go_must (refine zQ rfl _ _ rfl bm lns.length f rfl HMA.out r rfl (yV hr0) _ hfv ?_))
  obtain⟨sl,hsl⟩:∃sl,(Tm.qI lns r).length=sl:=⟨_,rfl⟩
  have qA4:sl<=8192:=by have:=qf6 lns r;omega
  have HSL:=qb hsl;obtain⟨pl,hpl⟩:∃pl,(Tm.parts lns r).length=pl:=⟨_,rfl⟩
  have HPL:=qb hpl;rw[hsl,hpl];rw[hsl,hpl]at hfv;rw[hsl]at HSR;rw[hpl]at HPD;clear hsl hpl;have hbA:Below w1.heap.size w1 ((w1.alloc (.cells #[.slice (some ⟨g1,zL,none⟩) l.qh.length qX,.slice a2 l.els.length zD] 238)).alloc (.cells #[.int .i64 (Tm.qd lns r),.slice pa pl pc,.slice sa sl sc] 251)):=((Below.refl _ _).alloc (Nat.le_refl _) _).alloc (by simp) _;refine(qoX _ _ (Tm.qI lns r) l.qh _ (HSR.out.rd.below hbA) (QhY.out.1.1.below hbA QhY.out.1.1.2.1) (by rw[HSL.out];omega) (fun o ho=>by have:=(ZG.out.fit o (List.mem_filter.1 ho).1).few;omega) (by omega) (qlZ ZG.out.fit)).mono ?_;rintro e wC ⟨rfl,hbC⟩;have hsC:=hbC.size;simp only[World.size_alloc]at hsC;have HBC:Hid (Below w1.heap.size w1 wC):=hbA.trans (hbC.mono (by simp;omega))
  have qtM:w1.heap.size<((w1.alloc (.cells #[.slice (some ⟨g1,zL,none⟩) l.qh.length qX,.slice a2 l.els.length zD] 238)).alloc (.cells #[.int .i64 (Tm.qd lns r),.slice pa pl pc,.slice sa sl sc] 251)).heap.size:=by simp;omega
  have qbd:w1.heap.size+1<((w1.alloc (.cells #[.slice (some ⟨g1,zL,none⟩) l.qh.length qX,.slice a2 l.els.length zD] 238)).alloc (.cells #[.int .i64 (Tm.qd lns r),.slice pa pl pc,.slice sa sl sc] 251)).heap.size:=by simp
  have s0:wC.cell? ⟨w1.heap.size,0,none⟩=some (.slice (some ⟨g1,zL,none⟩) l.qh.length qX):=by rw[hbC.cell (p:=⟨w1.heap.size,0,none⟩) qtM,qJ (by simp),ql rfl];rfl
  have s1:wC.cell? ⟨w1.heap.size,1,none⟩=some (.slice a2 l.els.length zD):=by rw[hbC.cell (p:=⟨w1.heap.size,1,none⟩) qtM,qJ (by simp),ql rfl];rfl
  have n0:wC.cell? ⟨w1.heap.size+1,0,none⟩=some (.int .i64 (Tm.qd lns r)):=by rw[hbC.cell (p:=⟨w1.heap.size+1,0,none⟩) qbd,ql (by simp)];rfl
  have n1:wC.cell? ⟨w1.heap.size+1,1,none⟩=some (.slice pa pl pc):=by rw[hbC.cell (p:=⟨w1.heap.size+1,1,none⟩) qbd,ql (by simp)];rfl
  have n2:wC.cell? ⟨w1.heap.size+1,2,none⟩=some (.slice sa sl sc):=by rw[hbC.cell (p:=⟨w1.heap.size+1,2,none⟩) qbd,ql (by simp)];rfl
  have nf:∀o,wC.frozen? ⟨w1.heap.size+1,o,none⟩=false:=fun o=>by rw[hbC.frozen (p:=⟨w1.heap.size+1,o,none⟩) qbd,zx (by simp)]
  clear hbC hbA qtM qbd;have HSZ:=qb HB1.out.size;cases hany:(Tm.qI lns r).any fun o=>decide (o.qh=l.qh)
  case true =>
   have HT2:Hid (Tm.y6 lns l=true):=by unfold Hid;rw[HT.out,hany]
   go_wp2_with fail
   refine(zA 2 _).mono ?_;rintro e w2' ⟨rfl,rfl⟩;go_wp2;exact⟨rfl,qcD HP.out HT2.out rfl (HB1.out.trans (HBC.out.mono HSZ.out))⟩
  have HT2:Hid (Tm.y6 lns l=false):=by unfold Hid;rw[HT.out,hany]
  clear hany;go_wp2_with fail
  refine(zl 2 _).mono ?_;rintro e wC' ⟨rfl,rfl⟩;go_wp2_with fail
  refine(Qf0 _ l.els _ (QhY.out.2.1.below HBC.out QhY.out.2.1.2.1) (by omega)).mono ?_;rintro e wD ⟨rfl,hbD⟩;have hsD:=hbD.size;have HBD:Hid (Below w1.heap.size w1 wD):=HBC.out.trans (hbD.mono (by omega))
  have k0:w1.heap.size<wC'.heap.size:=by omega
  have k1:w1.heap.size+1<wC'.heap.size:=by omega
  have t0:wD.cell? ⟨w1.heap.size,0,none⟩=some (.slice (some ⟨g1,zL,none⟩) l.qh.length qX):=by rw[hbD.cell (p:=⟨w1.heap.size,0,none⟩) k0];exact s0
  have t1:wD.cell? ⟨w1.heap.size,1,none⟩=some (.slice a2 l.els.length zD):=by rw[hbD.cell (p:=⟨w1.heap.size,1,none⟩) k0];exact s1
  have m0:wD.cell? ⟨w1.heap.size+1,0,none⟩=some (.int .i64 (Tm.qd lns r)):=by rw[hbD.cell (p:=⟨w1.heap.size+1,0,none⟩) k1];exact n0
  have m1:wD.cell? ⟨w1.heap.size+1,1,none⟩=some (.slice pa pl pc):=by rw[hbD.cell (p:=⟨w1.heap.size+1,1,none⟩) k1];exact n1
  have m2:wD.cell? ⟨w1.heap.size+1,2,none⟩=some (.slice sa sl sc):=by rw[hbD.cell (p:=⟨w1.heap.size+1,2,none⟩) k1];exact n2
  have mf:∀o,wD.frozen? ⟨w1.heap.size+1,o,none⟩=false:=fun o=>by rw[hbD.frozen (p:=⟨w1.heap.size+1,o,none⟩) k1];exact nf o
  clear hbD s0 s1 n0 n1 n2 nf;cases hlight:l.els.any Tm.zK
  case true =>
   have HLT:=qb hlight;clear hlight;go_wp2_with fail
   refine(zA 4 _).mono ?_;rintro e w2' ⟨rfl,rfl⟩;go_wp2;exact⟨rfl,qk4 HP.out HT2.out HLT.out rfl (HB1.out.trans (HBD.out.mono HSZ.out))⟩
  have HLT:=qb hlight;clear hlight;obtain⟨xs,hxl,jV,hok⟩:=HSR.out;rw[HSL.out]at jV;have HXL:=qb hxl;have QhZ:=qb jV;have HOK:=qb hok;have Qxb:Hid ((wD.alloc (.cells #[.slice (some ⟨g1,zL,none⟩) l.qh.length qX,.slice a2 l.els.length zD] 238)).ownsRow base 238 2 (.slice sa sl sc) sl (zV false xs (Tm.qI lns r))):=(xE jV.1 HBD.out).alloc _
  have qzk:base<=wD.heap.size:=by have h1:=HBW.out;have h2:=HSZ.out;omega
  clear hxl jV hok;go_wp2_with fail
  refine(zl 4 _).mono ?_;rintro e wD' ⟨rfl,rfl⟩;go_wp2_with (at_builtin;go_must (refine wpList_append_own_at _ rfl _ _ 247 rfl base 238 i0 (.agg #[.slice none 0 0,.slice none 0 0]) 2 48 Tryz.underlying247 hi hz0 hz1 hz2 rfl (by decide) _ _ _ rfl Qxb.out ⟨wD'.heap.size,0,none⟩ 1 1 [.slice (some ⟨g1,zL,none⟩) l.qh.length qX,.slice a2 l.els.length zD] rfl rfl (qh0 rfl) (by intro u hu;simp at hu;rcases hu with rfl|rfl<;>rfl) (by unfold maxLen;omega) (by omega) (by simp;omega) ?_))
  intro sv' w5 qpM hg5 _ qxc;have QeA:Hid (∀g,(Value.slice sa sl sc).ownBlock=some g->g<w1.heap.size):=fun g hg=>(QhZ.out.1.lt g hg).2;have QjG:=qb YY.out.lt
  have Qzl:Hid ((Value.slice sa sl sc).ownBlock≠some bm):=fun e=>by have:=QhZ.out.2 bm e;rw[ZG.out.nd.hue]at this;omega
  have Qzm:Hid ((Value.slice sa sl sc).ownBlock≠some bd):=fun e=>by have:=QhZ.out.2 bd e;rw[ZG.out.dr.hue]at this;omega
  have QA5:=qb hsD;have q0:w5.cell? ⟨w1.heap.size+1,0,none⟩=some (.int .i64 (Tm.qd lns r)):=hg5.cell (by rw[qJ (by omega)];exact m0) (fun e=>by have:=QeA.out _ e.symm;simp at this;omega);have q1:w5.cell? ⟨w1.heap.size+1,1,none⟩=some (.slice pa pl pc):=hg5.cell (by rw[qJ (by omega)];exact m1) (fun e=>by have:=QeA.out _ e.symm;simp at this;omega);have q2:w5.cell? ⟨w1.heap.size+1,2,none⟩=some (.slice sa sl sc):=hg5.cell (by rw[qJ (by omega)];exact m2) (fun e=>by have:=QeA.out _ e.symm;simp at this;omega)
  have qf:∀o,w5.frozen? ⟨w1.heap.size+1,o,none⟩=false:=fun o=>by
   rw[World.frozen?_of_block (w:=wD'.alloc _) (a:=⟨w1.heap.size+1,o,none⟩) (hg5.block (w1.heap.size+1) (by simp;omega) (fun e=>by have:=QeA.out _ e.symm;omega)),zP (by omega)];exact mf o
  have u0:w5.cell? ⟨w1.heap.size,0,none⟩=some (.slice (some ⟨g1,zL,none⟩) l.qh.length qX):=hg5.cell (by rw[qJ (by omega)];exact t0) (fun e=>by have:=QeA.out _ e.symm;simp at this);have u1:w5.cell? ⟨w1.heap.size,1,none⟩=some (.slice a2 l.els.length zD):=hg5.cell (by rw[qJ (by omega)];exact t1) (fun e=>by have:=QeA.out _ e.symm;simp at this);have e0:w5.cell? ⟨bd,0,none⟩=some (.map (some bm)):=hg5.cell (by rw[qJ (by omega),HBD.out.cell (p:=⟨bd,0,none⟩) dl];exact d0) (fun e=>Qzm.out e.symm);have hz5:=hg5.size;simp only[World.size_alloc]at hz5;have Qyz:Hid (w5.ownsRow base 238 2 sv' (sl+1) (zV false xs (Tm.qI lns r)++[.slice (some ⟨g1,zL,none⟩) l.qh.length qX,.slice a2 l.els.length zD])):=qpM;have HG5:=qb hg5;have Qzn:Hid (sv'.ownBlock=(Value.slice sa sl sc).ownBlock\/sv'.ownBlock=some (wD'.alloc (.cells #[.slice (some ⟨g1,zL,none⟩) l.qh.length qX,.slice a2 l.els.length zD] 238)).heap.size):=qxc.imp id (fun h=>h.trans (by simp))
  have bn1:¬bd=w1.heap.size+1:=by omega
  have bn2:¬w1.heap.size+1=bd:=by omega
  have bn3:¬w1.heap.size=bd:=by omega
  obtain⟨a5,c5,rfl⟩:=(Reads.qn qpM).shape;clear qpM hg5 qxc m0 m1 m2 mf t0 t1 d0 Qxb;go_wp2_with fail
  have HM6:Hid (Yi (w5.setCell ⟨w1.heap.size+1,2,none⟩ (.slice a5 (sl+1) c5)).drew bm lns.length f):=YY.out.same (by
   rw[show((w5.setCell ⟨w1.heap.size+1,2,none⟩ (.slice a5 (sl+1) c5)).drew).heap[bm]?=(w5.setCell ⟨w1.heap.size+1,2,none⟩ (.slice a5 (sl+1) c5)).heap[bm]? from rfl,Below.heap_setCell _ _ _ _ (by have:=QjG.out;simp;omega),HG5.out.block bm (by have:=QjG.out;simp;omega) (fun e=>Qzl.out e.symm),Below.heap_alloc _ _ _ (by have:=QjG.out;omega)]
   exact HBD.out.block bm QjG.out)
  obtain⟨w7,zk,hm7,hg7⟩:=HM6.out.put (by unfold maxLen;omega) (yV hr0) (.agg #[.int .i64 (Tm.qd lns r),.slice pa pl pc,.slice a5 (sl+1) c5])
  have Qzo:Hid (Data w1 (yA col w.heap.size) (.slice pa pl pc) 1 (Tm.parts lns r).length (ints (Tm.parts lns r))):=by unfold Hid;rw[HPL.out];exact HPD.out
  have qtN:=Nd.grown (o:=.cells #[.slice (some ⟨g1,zL,none⟩) l.qh.length qX,.slice a2 l.els.length zD] 238) (nb:=w1.heap.size+1) ZG.out.nd Qdd.out QvF.out QvG.out hr0.1 Qzo.out HXL.out (by rw[HSL.out];exact QhZ.out) HOK.out QhY.out HBD.out ⟨by omega,by omega⟩ (by rw[HSL.out];exact Qyz.out) HG5.out Qzn.out rfl hg7 hm7;have Qzp:=qb qtN.1;have HK7:=qb qtN.2;have Qdk:Hid (Dr w7 (jB (yA col w.heap.size) (wD'.alloc (.cells #[.slice (some ⟨g1,zL,none⟩) l.qh.length qX,.slice a2 l.els.length zD] 238)).heap.size r) base bd bm line vp vw):=ZG.out.dr.zc HK7.out ⟨by omega,by omega⟩;have Qzq:Hid (Pt w7 (jB (yA col w.heap.size) (wD'.alloc (.cells #[.slice (some ⟨g1,zL,none⟩) l.qh.length qX,.slice a2 l.els.length zD] 238)).heap.size r) base vp lns):=ZG.out.pt.zc HK7.out ⟨by omega,by omega⟩;have QyA:Hid (Qce w7 (jB (yA col w.heap.size) (wD'.alloc (.cells #[.slice (some ⟨g1,zL,none⟩) l.qh.length qX,.slice a2 l.els.length zD] 238)).heap.size r) (.slice (some ⟨g1,zL,none⟩) l.qh.length qX,.slice a2 l.els.length zD) l):=⟨QhY.out.1.zc HK7.out ⟨by omega,by omega⟩,QhY.out.2.zc HK7.out ⟨by omega,by omega⟩⟩
  obtain⟨xs2,qxd,qpN,qf7⟩:=ZG.out.wt.zc HK7.out ⟨by omega,by omega⟩ ⟨by omega,by omega⟩;have Qzr:=qb qxd;have Qlx:=qb qpN;have Qzs:=qb qf7;obtain⟨wl,hwl⟩:∃wl,(Tm.zi lns).length=wl:=⟨_,rfl⟩
  have qA6:wl<=8192:=by have:=qdL lns;omega
  have HWL:=qb hwl;have ql0:=qpN.1;rw[hwl]at ql0;obtain⟨va,vc,rfl⟩:=(Reads.qn ql0).shape;have hz7:=hg7.size
  have hz6:(w5.setCell ⟨w1.heap.size+1,2,none⟩ (.slice a5 (sl+1) c5)).drew.heap.size=w5.heap.size:=by simp[World.setCell,World.drew]
  have c60:(w5.setCell ⟨w1.heap.size+1,2,none⟩ (.slice a5 (sl+1) c5)).drew.cell? ⟨w1.heap.size,0,none⟩=some (.slice (some ⟨g1,zL,none⟩) l.qh.length qX):=(World.cell?_setCell_other _ _ _ _ (by simp)).trans u0;have c61:(w5.setCell ⟨w1.heap.size+1,2,none⟩ (.slice a5 (sl+1) c5)).drew.cell? ⟨w1.heap.size,1,none⟩=some (.slice a2 l.els.length zD):=(World.cell?_setCell_other _ _ _ _ (by simp)).trans u1;have HC0:=qb (hg7.cell c60 (by have:=QjG.out;simp;omega));have HC1:=qb (hg7.cell c61 (by have:=QjG.out;simp;omega))
  have HBF:Hid (QB base bm w w7):=by
   have h1:Below base w wD':=(HB1.out.mono HBW.out).trans (HBD.out.mono (by have:=HBW.out;have:=HSZ.out;omega));have h2:=(h1.alloc qzk (.cells #[.slice (some ⟨g1,zL,none⟩) l.qh.length qX,.slice a2 l.els.length zD] 238)).grown HG5.out (by simp;omega) (fun j hj=>(QhZ.out.1.lt j hj).1);have h3:Below base w (w5.setCell ⟨w1.heap.size+1,2,none⟩ (.slice a5 (sl+1) c5)).drew:=(h2.setCell (p:=⟨w1.heap.size+1,2,none⟩) (by have:=HBW.out;have:=HSZ.out;simp;omega) _).drew;exact(QB.of h3).grown hg7 (by rw[hz6];omega) (fun j hj=>by cases hj;exact .inr rfl)
  clear hm7 hg7 qtN qxd qpN qf7 ql0 hwl c60 c61 hz6;have y1:=Qdk.out.c1;have y3:=Qdk.out.c3;have hl7:=Qdk.out.lt;have x70:=HC0.out;have x71:=HC1.out;have VC:Hid ((w7.drew.alloc (.cells #[.int .i64 line,.slice (some ⟨g1,zL,none⟩) l.qh.length qX,.slice a2 l.els.length zD] 240)).ownsRow base 240 3 (.slice va wl vc) wl (zV true xs2 (Tm.zi lns))):=(qO (w':=w7.drew) (by have:=Qlx.out.1;rw[HWL.out]at this;exact this) (fun _ _=>rfl)).alloc _;have QiJ:Hid (∀j u,[Value.int .i64 line,.slice (some ⟨g1,zL,none⟩) l.qh.length qX,.slice a2 l.els.length zD][j]?=some u->(w7.drew.alloc (.cells #[.int .i64 line,.slice (some ⟨g1,zL,none⟩) l.qh.length qX,.slice a2 l.els.length zD] 240)).cell? ((⟨w7.heap.size,0,none⟩:Addr).add j)=some u):=qe3 rfl
  have QhT:Hid (∀u∈[Value.int .i64 line,.slice (some ⟨g1,zL,none⟩) l.qh.length qX,.slice a2 l.els.length zD],u.oneCell'=true):=by intro u hu;simp at hu;rcases hu with rfl|rfl|rfl<;>rfl
  have HNB:Hid ((Value.slice va wl vc).ownBlock≠some bd):=fun e=>by have:=Qlx.out.2 bd e;rw[Qdk.out.hue]at this;omega
  have HBA:Hid (base<=(w7.drew.alloc (.cells #[.int .i64 line,.slice (some ⟨g1,zL,none⟩) l.qh.length qX,.slice a2 l.els.length zD] 240)).heap.size):=by have h1:=Qdk.out.from_;have h2:=Qdk.out.lt;unfold Hid;simp;omega
  have HC2:Hid ((w7.drew.alloc (.cells #[.int .i64 line,.slice (some ⟨g1,zL,none⟩) l.qh.length qX,.slice a2 l.els.length zD] 240)).cell? ⟨bd,3,none⟩=some (.slice va wl vc)):=by unfold Hid;rw[qJ (by exact hl7)];exact y3
  have HF2:Hid ((w7.drew.alloc (.cells #[.int .i64 line,.slice (some ⟨g1,zL,none⟩) l.qh.length qX,.slice a2 l.els.length zD] 240)).frozen? ⟨bd,3,none⟩=false):=by unfold Hid;rw[zP (by exact hl7)];exact Qdk.out.free 3
  have HL2:Hid (bd<(w7.drew.alloc (.cells #[.int .i64 line,.slice (some ⟨g1,zL,none⟩) l.qh.length qX,.slice a2 l.els.length zD] 240)).heap.size):=by unfold Hid;simp;omega
  have HBG:Hid (QB base bm w (w7.drew.alloc (.cells #[.int .i64 line,.slice (some ⟨g1,zL,none⟩) l.qh.length qX,.slice a2 l.els.length zD] 240))):=HBF.out.drew.alloc (by have h1:=Qdk.out.from_;have h2:=Qdk.out.lt;simp;omega) _
  go_region
  all_goals go_wp2_with fail
  all_goals go_region_law (refine vY rfl _ _ 200 rfl base 240 i1 (.agg #[.int .i64 0,.slice none 0 0,.slice none 0 0]) 3 56 Tryz.underlying200 hi' hy0 hy1 hy2 rfl (by decide) _ _ _ (by simp[Act.eval]) VC.out ⟨w7.heap.size,0,none⟩ 1 1 [.int .i64 line,.slice (some ⟨g1,zL,none⟩) l.qh.length qX,.slice a2 l.els.length zD] (by simp[Act.eval]) rfl QiJ.out QhT.out (by unfold maxLen;omega) (by omega) HBA.out ?_;intro v' w4 xF hg4 qbY;have QpO:=qb xF;have HG4:=qb hg4;have QtO:=qb qbY;have z2:=hg4.cell HC2.out (fun e=>HNB.out e.symm);have zf:w4.frozen? ⟨bd,3,none⟩=false:=(World.frozen?_of_block (hg4.block bd HL2.out (fun e=>HNB.out e.symm))).trans HF2.out;obtain⟨a4,c4,rfl⟩:=(Reads.qn xF).shape;clear xF hg4 qbY)
  all_goals go_wp2
  all_goals go_end0
  all_goals exact qe6 HP.out HT2.out HLT.out rfl ((HBG.out.grown HG4.out HBA.out (fun j hj=>.inl (Qlx.out.1.lt j hj).1)).setCell (p:=⟨bd,3,none⟩) Qdk.out.from_ _) ⟨_,_,_,Rep.yX (x:=(.slice (some ⟨g1,zL,none⟩) l.qh.length qX,.slice a2 l.els.length zD)) Qdk.out Qzp.out Qzq.out Qzr.out Qlx.out Qzs.out QyA.out ZG.out.fit (fun q hq=>by rw[HK7.out.same q (by have h1:=ZG.out.dr.from_;have h2:=ZG.out.dr.lt;omega)];exact ZG.out.low q hq) Qe4.out QvF.out (by rw[HWL.out,QtL.out];exact QpO.out) HG4.out QtO.out⟩
theorem Tryz.qpP:(Tryz.prog.info? 234).map (fun i=>(i.zero,i.size,i.bytes))=some (some (.agg #[.int .i64 0,.int .i64 0]),2,16):=by kernel_rfl
theorem qf8(h2:ws.length≠2)(h3:ws.length≠3):Tm.qC n ([100]::ws)=none:=by
 rw[Tm.qai (by simp)]
 have:Tm.fits [100] (ws.map Tm.num) 0 false=false:=by
  simp[Tm.fits];exact⟨h2,h3⟩
 rw[this];simp
theorem ql1(h:ws.length=2\/ws.length=3):Tm.qC n ([100]::ws)=if ws.all Tm.zN=true then some ⟨[100],ws.map Tm.num,[],n⟩else none:=by
 rw[Tm.qai (by simp)]
 have:Tm.fits [100] (ws.map Tm.num) 0 false=true:=by
  simp[Tm.fits];exact h
 rw[this,Bool.and_true]
theorem qjH(vs:Value)(bs:List ByteArray)(col:Nat->Int)(base bd bm:Nat)(line:Int)(vp vw:Value)(lns:List Tm.Ln)(w:World)(hr:Reads w vs 1 bs.length (bs.map Value.string))(hl:bs.length<=8193)(hz:∀b∈bs,b.size<=8192)
  (qL:Rep w col base bd bm line vp vw lns) (hn:lns.length<=8192) :
  Calls Tryz.prog 179 #[.pointer (some ⟨bd,0,none⟩),vs] w fun e w'=>yZ (Tm.qC line ([100]::lets bs)) lns base bd bm line w e w':=by
 have HR:=qb hr;have HZ:=qb hz;obtain⟨i0,hi,hz0,hz1,hz2⟩:=info_parts Tryz.qpP;obtain⟨va,vc,rfl⟩:=(Reads.qn qL.pt.1).shape;obtain⟨a,cap,rfl⟩:=hr.shape;clear hr hz;by_cases qc7:bs.length≠2/\bs.length≠3
 ·obtain⟨h2,h3⟩:=qc7
  have hd:((bs.length:Int) != 2)=true:=by simp;omega
  have hd':((bs.length:Int) != 3)=true:=by simp;omega
  have HN:=qb (qf8 (n:=line) (ws:=lets bs) (by rw[jC];exact h2) (by rw[jC];exact h3));clear h2 h3 qL;go_enter Tryz.func179,Tryz.ntmps179
  go_wp2_with fail
  refine(zA 1 _).mono ?_;rintro e w' ⟨rfl,rfl⟩;go_wp2;exact⟨rfl,je HN.out rfl (Below.refl _ _)⟩
 have qjI:bs.length=2\/bs.length=3:=by omega
 have qzt:bs.length=2\/bs.length=3:=qjI;have HP:=qb (ql1 (n:=line) (ws:=lets bs) (by rw[jC];exact qjI));have hdl:=qko lns
 have qyB:∀Q:Prop,(((bs.length:Int) != 2)=false->Q)->(((bs.length:Int) != 2)=true->((bs.length:Int) != 3)=false->Q)->Q:=by
  intro Q h1 h2;rcases qzt with h|h
  ·exact h1 (by rw[h];rfl)
  ·exact h2 (by rw[h];rfl) (by rw[h];rfl)
 refine qyB _ (fun hd=>?_) (fun hd hd'=>?_)
 all_goals
  go_enter Tryz.func179,Tryz.ntmps179
  go_wp2_with fail
  refine(zl 1 _).mono ?_;rintro e w' ⟨rfl,rfl⟩;go_wp2_with fail
  refine(qfI _ bs _ HR.out hl HZ.out).mono ?_;rintro e w1 ⟨qw,hb1⟩;unfold qbQ at qw;rw[qlL,qkm]at qw;cases ha:(lets bs).all Tm.zN
  ·rw[ha]at qw;obtain rfl:e=_:=qw
   have HN:Hid (Tm.qC line ([100]::lets bs)=none):=by unfold Hid;rw[HP.out,if_neg (by rw[ha];simp)]
   have HB1:=qb hb1;clear hb1 qL;go_wp2;exact⟨rfl,je HN.out rfl HB1.out⟩
  rw[ha]at qw;obtain⟨v1,rfl,jW,qf4⟩:=qw
  have hnl:((lets bs).map Tm.num).length=bs.length:=by rw[List.length_map,jC]
  have qtP:=Tm.qdM ha;have Qe4:Hid (Tm.Fit ⟨[100],(lets bs).map Tm.num,[],line⟩):=Tm.qrW ha (by rw[jC];exact qjI)
  have HN:Hid (Tm.qC line ([100]::lets bs)=some ⟨[100],(lets bs).map Tm.num,[],line⟩):=by unfold Hid;rw[HP.out,if_pos ha]
  rw[<-hnl]at jW
  obtain⟨r,rs,hrs⟩:∃r rs,(lets bs).map Tm.num=r::rs:=by
   cases h:(lets bs).map Tm.num with
   | nil=>rw[h]at hnl;simp at hnl;omega
   | cons x y=>exact⟨x,y,rfl⟩
  rw[hrs]at jW HN Qe4 qtP hnl;have hr0:=qtP r (by simp)
  have hrl:rs.length+1=bs.length:=by simpa using hnl
  have ZG:Hid (Rep w1 (yA col w'.heap.size) base bd bm line (.slice va (Tm.zo lns).length vc) vw lns):=qL.fresh.below hb1;have HB1:=qb hb1
  have HBW:Hid (base<=w'.heap.size):=by have h1:=qL.dr.from_;have h2:=qL.dr.lt;unfold Hid;omega
  have HT:Hid (Tm.y6 lns ⟨[100],r::rs,[],line⟩=decide (0<(Tm.parts lns r).length)):=Tm.qnS qL.fit rfl;clear qL hb1 qtP ha hrs hnl HR HZ hd;obtain⟨g1,zL,qX,rfl,hg1,qf5⟩:=jW.form (by simp[ints]);have x0:=qf5 0 _ rfl;rw[Nat.add_zero]at x0;have qiK:=jW.fits
  have HTL:Hid (Data w1 (yA col w'.heap.size) (.slice (some ⟨g1,zL+1,none⟩) (bs.length-1) (qX-1)) 1 rs.length (ints rs)) :=
   ⟨by have:=jW.tail (by simp);rw[show(r::rs).length-1=bs.length-1 from by simp;omega]at this;exact this,fun g hg=>by
    have hg':g1=g:=by simpa[Value.ownBlock]using hg
    subst hg'
    exact qdj (qf4 g1 rfl)⟩
  have qvH:¬qX=1:=by have:=qiK.2.1;simp at this;omega
  have qpQ:1<=qX:=by have:=qiK.2.1;simp at this;omega
  have qAR:qX<=9223372036854775807:=by have:=qiK.2.2;unfold maxLen at this;omega
  have qAS:=qiK.2.1;obtain⟨f,pv,sv,yq,hfv,hpd,hsr,qQ⟩:=ZG.out.nd.look hr0.1;have d0:=ZG.out.dr.c0;have dl:=ZG.out.dr.lt;have HPD:=qb hpd;have HSR:=qb hsr;have Qdd:=qb qQ;have YY:=qb yq;clear hpd hsr qQ yq jW qf4 qf5 qiK;obtain⟨pa,pc,rfl⟩:=HPD.out.1.shape;obtain⟨sa,sc,rfl⟩:=HSR.out.rd.shape;generalize hpl:(Tm.parts lns r).length=pl at *;have HPL:=qb hpl;clear hpl;go_wp2_with (at_lookup;go_must (refine zQ rfl _ _ rfl bm lns.length f rfl YY.out r rfl (yV hr0) _ hfv ?_))
  have hbw:Below w1.heap.size w1 (w1.alloc (.cells #[.int .i64 (Tm.qd lns r),.slice pa pl pc,.slice sa (Tm.qI lns r).length sc] 251)):=(Below.refl _ _).alloc (Nat.le_refl _) _;refine(qbi _ pl (ints (Tm.parts lns r)) _ (HPD.out.1.below hbw HPD.out.1.2.1)).mono ?_;rintro e w2 ⟨rfl,hb2⟩;have hs2:=hb2.size
  have hsz:w1.heap.size<(w1.alloc (.cells #[.int .i64 (Tm.qd lns r),.slice pa pl pc,.slice sa (Tm.qI lns r).length sc] 251)).heap.size:=by simp
  have n0:w2.cell? ⟨w1.heap.size,0,none⟩=some (.int .i64 (Tm.qd lns r)):=by rw[hb2.cell (p:=⟨w1.heap.size,0,none⟩) hsz,ql rfl];rfl
  have n1:w2.cell? ⟨w1.heap.size,1,none⟩=some (.slice pa pl pc):=by rw[hb2.cell (p:=⟨w1.heap.size,1,none⟩) hsz,ql rfl];rfl
  have n2:w2.cell? ⟨w1.heap.size,2,none⟩=some (.slice sa (Tm.qI lns r).length sc):=by rw[hb2.cell (p:=⟨w1.heap.size,2,none⟩) hsz,ql rfl];rfl
  have nf:∀o,w2.frozen? ⟨w1.heap.size,o,none⟩=false:=fun o=>by rw[hb2.frozen (p:=⟨w1.heap.size,o,none⟩) hsz,zx rfl]
  have HB2:Hid (Below w1.heap.size w1 w2):=hbw.trans (hb2.mono (by simp));simp only[World.size_alloc]at hs2
  have e0:w2.cell? ⟨bd,0,none⟩=some (.map (some bm)):=by rw[HB2.out.cell (p:=⟨bd,0,none⟩) dl];exact d0
  have hne:¬bd=w1.heap.size:=by omega
  have qc8:¬w1.heap.size=bd:=by omega
  have HSZ:=qb HB1.out.size;clear hb2 hsz hbw;cases hpp:decide (0<pl)
  case true =>
   have HT2:Hid (Tm.y6 lns ⟨[100],r::rs,[],line⟩=true):=by unfold Hid;rw[HT.out,hpp]
   go_wp2_with fail
   refine(zA 2 _).mono ?_;rintro e w2' ⟨rfl,rfl⟩;go_wp2;exact⟨rfl,qcD HN.out HT2.out rfl (HB1.out.trans (HB2.out.mono HSZ.out))⟩
  have HT2:Hid (Tm.y6 lns ⟨[100],r::rs,[],line⟩=false):=by unfold Hid;rw[HT.out,hpp]
  have HP0:Hid ((Tm.parts lns r).length=0):=by unfold Hid;rw[HPL.out];simpa using hpp
  go_wp2_with fail
  refine(zl 2 _).mono ?_;rintro e w2' ⟨rfl,rfl⟩;go_wp2_with fail
  have HWB:Hid (Below w1.heap.size w1 (w2'.setCell ⟨w1.heap.size,1,none⟩ (.slice (some ⟨g1,zL+1,none⟩) (bs.length-1) (qX-1))).drew):=(HB2.out.setCell (p:=⟨w1.heap.size,1,none⟩) (Nat.le_refl _) _).drew;have HM1:Hid (Yi (w2'.setCell ⟨w1.heap.size,1,none⟩ (.slice (some ⟨g1,zL+1,none⟩) (bs.length-1) (qX-1))).drew bm lns.length f):=YY.out.same (HWB.out.block bm YY.out.lt);obtain⟨w3,zk,hm3,hg3⟩:=HM1.out.put (by unfold maxLen;omega) (yV hr0) (.agg #[.int .i64 (Tm.qd lns r),.slice (some ⟨g1,zL+1,none⟩) (bs.length-1) (qX-1),.slice sa (Tm.qI lns r).length sc]);have HK3:Hid (ZS w1 w3 (yA col w'.heap.size) (yA col w'.heap.size) (· ≠-2)):=(ZS.below HWB.out).trans (ZS.grown hg3 ZG.out.nd.hue);have Qzu:Hid (Nd w3 (yA col w'.heap.size) base bm (lns++[⟨[100],r::rs,[],line⟩])):=ZG.out.nd.parts Qdd.out HTL.out HSR.out hr0.1 hm3 HK3.out HP0.out ZG.out.fit;have QcE:Hid (Dr w3 (yA col w'.heap.size) base bd bm line (.slice va (Tm.zo lns).length vc) vw):=ZG.out.dr.zc HK3.out (by decide);have QpR:Hid (Pt w3 (yA col w'.heap.size) base (.slice va (Tm.zo lns).length vc) lns):=ZG.out.pt.zc HK3.out (by decide);have Qzv:Hid (Wt w3 (yA col w'.heap.size) base vw lns):=ZG.out.wt.zc HK3.out (by decide) (by decide)
  have HBF:Hid (QB base bm w' w3):=by
   have hbd:=ZG.out.dr.from_;have h2:Below base w1 (w2'.setCell ⟨w1.heap.size,1,none⟩ (.slice (some ⟨g1,zL+1,none⟩) (bs.length-1) (qX-1))).drew:=HWB.out.mono (by omega);have h3:QB base bm w1 w3:=(QB.of h2).grown hg3 (by have:=HWB.out.size;omega) (fun j hj=>by cases hj;exact .inr rfl);exact(QB.of (HB1.out.mono (HBW.out))).trans h3
  have y0:=QcE.out.c0;have y1:=QcE.out.c1;have y2:=QcE.out.c2;have hl3:=QcE.out.lt;clear hm3 hg3;have VC:Hid ((w3.drew.alloc (.cells #[.int .i64 line,.int .i64 r] 234)).ownsRow base 234 2 (.slice va (Tm.zo lns).length vc) (Tm.zo lns).length (jJ (Tm.zo lns))):=(qO (w':=w3.drew) QpR.out.1 (fun _ _=>rfl)).alloc _;have QiJ:Hid (∀j u,[Value.int .i64 line,.int .i64 r][j]?=some u->(w3.drew.alloc (.cells #[.int .i64 line,.int .i64 r] 234)).cell? ((⟨w3.heap.size,0,none⟩:Addr).add j)=some u):=qh0 rfl
  have QhT:Hid (∀u∈[Value.int .i64 line,.int .i64 r],u.oneCell'=true):=by intro u hu;simp at hu;rcases hu with rfl|rfl<;>rfl
  have HNB:Hid ((Value.slice va (Tm.zo lns).length vc).ownBlock≠some bd):=fun e=>by have:=QpR.out.2 bd e;rw[QcE.out.hue]at this;omega
  have HBA:Hid (base<=(w3.drew.alloc (.cells #[.int .i64 line,.int .i64 r] 234)).heap.size):=by have h1:=QcE.out.from_;have h2:=QcE.out.lt;unfold Hid;simp;omega
  have HC2:Hid ((w3.drew.alloc (.cells #[.int .i64 line,.int .i64 r] 234)).cell? ⟨bd,2,none⟩=some (.slice va (Tm.zo lns).length vc)):=by unfold Hid;rw[qJ (by exact hl3)];exact y2
  have HF2:Hid ((w3.drew.alloc (.cells #[.int .i64 line,.int .i64 r] 234)).frozen? ⟨bd,2,none⟩=false):=by unfold Hid;rw[zP (by exact hl3)];exact QcE.out.free 2
  have HL2:Hid (bd<(w3.drew.alloc (.cells #[.int .i64 line,.int .i64 r] 234)).heap.size):=by unfold Hid;simp;omega
  have HBG:Hid (QB base bm w' (w3.drew.alloc (.cells #[.int .i64 line,.int .i64 r] 234))):=HBF.out.drew.alloc (by have h1:=QcE.out.from_;have h2:=QcE.out.lt;simp;omega) _
  go_region
  all_goals go_wp2_with fail
  all_goals go_region_law (refine vY rfl _ _ 199 rfl base 234 i0 (.agg #[.int .i64 0,.int .i64 0]) 2 16 Tryz.underlying199 hi hz0 hz1 hz2 rfl (by decide) _ _ _ (by simp[Act.eval]) VC.out ⟨w3.heap.size,0,none⟩ 1 1 [.int .i64 line,.int .i64 r] (by simp[Act.eval]) rfl QiJ.out QhT.out (by unfold maxLen;omega) (by omega) HBA.out ?_;intro v' w4 xF hg4 qbY;have QpO:=qb xF;have HG4:=qb hg4;have QtO:=qb qbY;have z2:=hg4.cell HC2.out (fun e=>HNB.out e.symm);have zf:w4.frozen? ⟨bd,2,none⟩=false:=(World.frozen?_of_block (hg4.block bd HL2.out (fun e=>HNB.out e.symm))).trans HF2.out;obtain⟨a4,c4,rfl⟩:=(Reads.qn xF).shape;clear xF hg4 qbY)
  all_goals go_wp2
  all_goals go_end0
  all_goals exact qe6 HN.out HT2.out rfl rfl ((HBG.out.grown HG4.out HBA.out (fun j hj=>.inl (QpR.out.1.lt j hj).1)).setCell (p:=⟨bd,2,none⟩) QcE.out.from_ _) ⟨_,_,_,Rep.parts QcE.out Qzu.out QpR.out Qzv.out ZG.out.fit ZG.out.low Qe4.out rfl QpO.out HG4.out QtO.out⟩
theorem yZ.since(h:yZ r lns base bd bm line w1 e w')(hb:Below w.heap.size w w1)(hB:base<=w.heap.size):yZ r lns base bd bm line w e w':=by
 unfold yZ at *;have hs:=hb.size;split
 ·exact⟨h.1,hb.trans (h.2.mono hs)⟩
 ·simp only at h;split
  ·rename_i ht;rw[if_pos ht]at h;exact⟨h.1,hb.trans (h.2.mono hs)⟩
  ·rename_i ht;rw[if_neg ht]at h;split
   ·rename_i hg;rw[if_pos hg]at h;exact⟨h.1,hb.trans (h.2.mono hs)⟩
   ·rename_i hg;rw[if_neg hg]at h;exact⟨h.1,(QB.of (hb.mono hB)).trans h.2.1,h.2.2⟩
theorem qdl(h:yZ r lns base bd bm line w e w'):e=.returned (.tuple #[])\/∃q,yU e q:=by
 unfold yZ at h;split at h
 ·exact .inr ⟨1,h.1⟩
 ·split at h
  ·exact .inr ⟨2,h.1⟩
  ·split at h
   ·exact .inr ⟨4,h.1⟩
   ·exact .inl h.1
theorem Reads.rest{g off n:Nat}{bs:List ByteArray}(h:Reads w (.slice (some ⟨g,off,none⟩) n cap) 1 (b::bs).length ((b::bs).map Value.string)) :
  Reads w (.slice (if cap=1 then some ⟨g,off,none⟩else some ⟨g,off+1,none⟩) ((b::bs).length-1) (cap-1)) 1 bs.length (bs.map Value.string):=by
 by_cases hc:cap=1
 ·rw[if_pos hc];have hf:=h.fits;have h0:bs=[]:=List.eq_nil_of_length_eq_zero (by have:=hf.2.1;simp at this;omega);subst h0;subst hc;exact⟨rfl,fun g' hg'=>h.2.1 g' (by simpa[Value.ownBlock]using hg'),_,_,rfl,⟨Nat.le_refl _,Nat.zero_le _⟩,by simp⟩
 ·rw[if_neg hc];exact h.behind (k:=1) (by simp)
def vA(x:List UInt8):Bool:=decide (x.head?=none\/x.head?=some 35)
def qbZ(x:List UInt8)(lns:List Tm.Ln)(base bd bm:Nat)(line:Int)(w:World)(e:Ending)(w':World):Prop :=
 if vA x=true then e=.returned (.tuple #[])/\w'=w else yZ (Tm.parse x line) lns base bd bm line w e w'
theorem qnT{k:List UInt8}(h1:k≠[99])(h2:k≠[100])(h3:k≠[119]):Tm.qC n (k::ws)=none:=by
 rw[Tm.qai h3]
 have:Tm.fits k (ws.map Tm.num) 0 false=false:=by
  unfold Tm.fits;rw[if_neg h1,if_neg h2,if_neg h3]
 rw[this];simp
theorem qh1{c:UInt8}(h:(b.toList == [c])=true):b.data.toList=[c]:=by
 rw[ByteArray.toList_eq]at h;simpa using h
theorem qjJ{c:UInt8}(h:(b.toList == [c])=false):b.data.toList≠[c]:=by
 rw[ByteArray.toList_eq]at h;simpa using h
theorem qf9(s:ByteArray)(col:Nat->Int)(base bd bm:Nat)(line:Int)(vp vw:Value)(lns:List Tm.Ln)(w:World)(hs:s.size<=8192)
  (qL:Rep w col base bd bm line vp vw lns) (hn:lns.length<=8192) :
  Calls Tryz.prog 153 #[.pointer (some ⟨bd,0,none⟩),.string s] w fun e w'=>qbZ s.data.toList lns base bd bm line w e w':=by
 by_cases h0:s.size=0
 ·have he:s=⟨#[]⟩:=by
   cases s with
   | mk a=>congr 1;exact Array.eq_empty_of_size_eq_zero h0
  subst he;clear qL;go_enter Tryz.func153,Tryz.ntmps153
  go_wp2;go_end0;exact⟨rfl,rfl⟩
 have qe5:0<s.size:=by omega
 have hh:=qjK s qe5
 have hne:(s.toList == [])=false:=by
  rw[ByteArray.toList_eq,beq_eq_false_iff_ne];intro e;have:=zI s;rw[e]at this;simp at this;omega
 cases hx:((s[0].toNat:Int) == 35)
 case true =>
  have HQ:Hid (vA s.data.toList=true):=by
   unfold Hid vA;rw[hh,decide_eq_true_iff];right
   congr 1
   apply UInt8.toNat_inj.1
   have:(s[0].toNat:Int)=35:=by simpa using hx
   have:s[0].toNat=35:=by omega
   rw[this];rfl
  clear qL hh;go_enter Tryz.func153,Tryz.ntmps153
  go_wp2;go_end0;unfold qbZ;rw[if_pos HQ.out];exact⟨rfl,rfl⟩
 have HQ:Hid (vA s.data.toList=false):=by
  unfold Hid vA;rw[hh,decide_eq_false_iff_not];rintro(h|h)
  ·cases h
  ·have e:=Option.some.inj h;rw[e]at hx;exact absurd hx (by decide)
 have ZG:=qb qL;clear qL hh;go_enter Tryz.func153,Tryz.ntmps153
 go_wp2_with fail
 refine(Qga s 32 _ hs).mono ?_;rintro e w1 ⟨v,bs,rfl,hrd,hsp,hbl,hb1⟩;have hsz:=qe7 hsp (by omega)
 have hlen:bs.length<=8193:=by
  have h1:=Tm.qnU 32 s.data.toList;rw[<-hsp,List.length_map,zI]at h1;omega
 have qxe:bs≠[]:=by
  intro e;subst e;exact Tm.ql2 32 s.data.toList hsp.symm
 obtain⟨b0,rest,rfl⟩:∃b r,bs=b::r:=by
  cases bs with
  | nil=>exact absurd rfl qxe
  | cons b r=>exact⟨b,r,rfl⟩
 have HP:Hid (Tm.parse s.data.toList line=Tm.qC line (b0.data.toList::lets rest)):=by
  unfold Hid Tm.parse;rw[<-hsp];rfl
 have HR1:Hid (Rep w1 col base bd bm line vp vw lns):=ZG.out.below hb1;have HB1:=qb hb1
 have HBW:Hid (base<=w.heap.size):=by have h1:=ZG.out.dr.from_;have h2:=ZG.out.dr.lt;unfold Hid;omega
 obtain⟨g,off,cap,rfl,hg,hc⟩:=hrd.form (by simp);have c0:=hc 0 _ rfl;rw[Nat.add_zero]at c0;have qR:=hrd.fits
 have hc1:1<=cap:=by have:=qR.2.1;simp at this;omega
 have hc2:cap<=9223372036854775807:=by have:=qR.2.2;unfold maxLen at this;omega
 have hc3:rest.length+1<=cap:=by have:=qR.2.1;simpa using this
 have HRD:=qb hrd.rest;have HZR:Hid (∀b∈rest,b.size<=8192):=fun b hb=>Nat.le_trans (hsz b (by simp[hb])) (by omega)
 have hrl:rest.length<=8193:=by simp at hlen;omega
 clear hrd hsp hbl hsz hlen qxe hc qR hb1
 have Qe8:Hid (∀(e:Ending) (w':World),yZ (Tm.qC line (b0.data.toList::lets rest)) lns base bd bm line w1 e w'->qbZ s.data.toList lns base bd bm line w e w'):=by
  intro e w' h;unfold qbZ;rw[if_neg (by rw[HQ.out];simp),HP.out];exact h.since HB1.out HBW.out
 cases k1:(b0.toList == [99])
 case true =>
  have hk:=qh1 k1;rw[hk]at Qe8;go_wp2_with fail
  all_goals
   refine(ql3 _ rest col base bd bm line vp vw lns _ (by have h:=HRD.out;simpa[*]using h) HZR.out HR1.out hn).mono ?_;rintro e w2 qw;have HA:=qb (Qe8.out _ _ qw);rcases qdl qw with rfl|⟨q,ht⟩
   ·clear qw;go_wp2;go_end0;exact HA.out
   ·obtain rfl:e=_:=ht;clear qw;go_wp2;exact⟨rfl,HA.out⟩
 cases k2:(b0.toList == [100])
 case true =>
  have hk:=qh1 k2;rw[hk]at Qe8;go_wp2_with fail
  all_goals
   refine(qjH _ rest col base bd bm line vp vw lns _ (by have h:=HRD.out;simpa[*]using h) hrl HZR.out HR1.out hn).mono ?_;rintro e w2 qw;have HA:=qb (Qe8.out _ _ qw);rcases qdl qw with rfl|⟨q,ht⟩
   ·clear qw;go_wp2;go_end0;exact HA.out
   ·obtain rfl:e=_:=ht;clear qw;go_wp2;exact⟨rfl,HA.out⟩
 cases k3:(b0.toList == [119])
 case true =>
  have hk:=qh1 k3;rw[hk]at Qe8;go_wp2_with fail
  all_goals
   refine(qhW _ rest col base bd bm line vp vw lns _ (by have h:=HRD.out;simpa[*]using h) hrl HZR.out HR1.out hn).mono ?_;rintro e w2 qw;have HA:=qb (Qe8.out _ _ qw);rcases qdl qw with rfl|⟨q,ht⟩
   ·clear qw;go_wp2;go_end0;exact HA.out
   ·obtain rfl:e=_:=ht;clear qw;go_wp2;exact⟨rfl,HA.out⟩
 have HN:=qb (qnT (n:=line) (ws:=lets rest) (qjJ k1) (qjJ k2) (qjJ k3));go_wp2;exact⟨rfl,Qe8.out _ _ (je HN.out rfl (Below.refl _ _))⟩
theorem Rep.qeB{vp vw:Value}(h:Rep w col base bd bm line vp vw lns)(n:Int):Rep (w.setCell ⟨bd,1,none⟩ (.int .i64 n)) col base bd bm n vp vw lns:=by
 have k:ZS w (w.setCell ⟨bd,1,none⟩ (.int .i64 n)) col col (· ≠-3) :=
  ⟨by simp[World.setCell],fun g hg hc=>Below.heap_setCell _ _ _ _ (by simp only;intro e;subst e;exact hc h.dr.hue),fun _ _=>rfl⟩
 refine⟨⟨h.dr.hue,h.dr.from_,by simpa[World.setCell]using h.dr.lt,?_,?_,?_,?_,fun q=>?_⟩,h.nd.zc k (by decide) (by decide) (fun r hr=>by omega),h.pt.zc k (by decide),h.wt.zc k (by decide) (by decide),h.fit,h.low⟩
 ·rw[World.cell?_setCell_other _ _ _ _ (by simp)];exact h.dr.c0
 ·exact World.cell?_setCell_same _ _ _ h.dr.c1
 ·rw[World.cell?_setCell_other _ _ _ _ (by simp)];exact h.dr.c2
 ·rw[World.cell?_setCell_other _ _ _ _ (by simp)];exact h.dr.c3
 ·rw[World.frozen?_setCell];exact h.dr.free q
theorem qeC{x:List UInt8}{vp vw:Value}(qL:Rep w col base bd bm line vp vw lns)(h:qbZ x lns base bd bm line w e w') :
  (e=.returned (.tuple #[])/\∃qbT,(∀r,Tm.qF lns line (x::r)=Tm.qF qbT (line+1) r)/\qbT.length<=lns.length+1/\QB base bm w w'/\∃col vp vw,Rep w' col base bd bm line vp vw qbT) \/
  (∃q,yU e q/\(∀r,Tm.qF lns line (x::r)=(lns,some (line,q)))/\Below w.heap.size w w'):=by
 unfold qbZ at h;by_cases hq:vA x=true
 ·rw[if_pos hq]at h;obtain⟨rfl,rfl⟩:=h;exact .inl ⟨rfl,lns,fun r=>Tm.qjL (by simpa[vA]using hq),by omega,QB.refl _ _ _,_,_,_,qL⟩
 ·rw[if_neg hq]at h
  have hq':¬(x.head?=none\/x.head?=some 35):=by simpa[vA]using hq
  unfold yZ at h
  cases hp:Tm.parse x line with
  | none =>
   rw[hp]at h;exact .inr ⟨1,h.1,fun r=>Tm.qk5 hq' hp,h.2⟩
  | some l =>
   rw[hp]at h;simp only at h;by_cases ht:Tm.y6 lns l=true
   ·rw[if_pos ht]at h;exact .inr ⟨2,h.1,fun r=>Tm.qiL hq' hp ht,h.2⟩
   ·rw[if_neg ht]at h
    have ht':Tm.y6 lns l=false:=by simpa using ht
    by_cases hg:l.els.any Tm.zK=true
    ·rw[if_pos hg]at h;exact .inr ⟨4,h.1,fun r=>Tm.qiM hq' hp ht' hg,h.2⟩
    ·rw[if_neg hg]at h;exact .inl ⟨h.1,lns++[l],fun r=>Tm.ql4 hq' hp ht' (by simpa using hg),by simp,h.2.1,h.2.2⟩
def qh2(r:List Tm.Ln×Option (Int×Int))(base bd bm:Nat)(w:World)(e:Ending)(w':World):Prop:=match r with
 | (lns,none)=>e=.returned (.tuple #[])/\QB base bm w w'/\lns.length<=8192/\∃col line vp vw,Rep w' col base bd bm line vp vw lns
 | (_,some (n,q))=>yU e q/\QB base bm w w'/\w'.cell? ⟨bd,1,none⟩=some (.int .i64 n)
theorem qnV{r:List Tm.Ln×Option (Int×Int)}(h:r=(lns,none))(he:e=.returned (.tuple #[]))(hb:QB base bm w w')(hl:lns.length<=8192)(hr:∃col line vp vw,Rep w' col base bd bm line vp vw lns):qh2 r base bd bm w e w':=by
 subst h;exact⟨he,hb,hl,hr⟩
theorem qhk{r:List Tm.Ln×Option (Int×Int)}(h:r=(lns,some (n,q)))(he:yU e q)(hb:QB base bm w w')(hc:w'.cell? ⟨bd,1,none⟩=some (.int .i64 n)):qh2 r base bd bm w e w':=by
 subst h;exact⟨he,hb,hc⟩
theorem qnW(h:s.size=0):s=⟨#[]⟩:=by
 cases s with
 | mk a=>congr 1;exact Array.eq_empty_of_size_eq_zero h
theorem qwn(h:0<s.size):(s.toList == [])=false:=by
 rw[ByteArray.toList_eq,beq_eq_false_iff_ne];intro e;have:=zI s;rw[e]at this;simp at this;omega
theorem qk6(s:ByteArray)(col:Nat->Int)(base bd bm:Nat)(vp vw:Value)(w:World)(hs:s.size<=8192)(qL:Rep w col base bd bm 0 vp vw []) :
  Calls Tryz.prog 120 #[.pointer (some ⟨bd,0,none⟩),.string s] w fun e w'=>qh2 (Tm.qF [] 1 (Tm.split 10 s.data.toList)) base bd bm w e w':=by
 have ZG:=qb qL;clear qL;go_enter Tryz.func120,Tryz.ntmps120
 go_wp2;go_loopw [4] (fun v wr=>∃(s':ByteArray) (k:Nat) (lns:List Tm.Ln) (col:Nat->Int) (vp vw:Value),v=.string s'/\k+s'.size<=s.size/\lns.length<=k/\Tm.qF [] 1 (Tm.split 10 s.data.toList)=Tm.qF lns ((k:Int)+1) (Tm.split 10 s'.data.toList)/\Rep wr col base bd bm (k:Int) vp vw lns/\QB base bm w wr) (fun v _=>match v with|.string b=>b.size|_=>0)
 case atStart=>exact⟨s,0,[],_,_,_,rfl,by omega,by simp,rfl,ZG.out,QB.refl _ _ _⟩
 case round =>
  obtain⟨s',k,lns,jf,vp',vw',rfl,hk,hln,qvI,qL,hb⟩:=hrel;have HRD:=qb qvI;have HR:=qb qL;have HB:=qb hb;clear qvI qL hb;by_cases h0:s'.size=0
  ·obtain rfl:=qnW h0
   have HF:Hid (Tm.qF [] 1 (Tm.split 10 s.data.toList)=(lns,none)):=by
    unfold Hid;rw[HRD.out];rfl
   go_wp2;go_end0;exact qnV HF.out rfl HB.out (by omega) ⟨_,_,_,_,HR.out⟩
  have hne:=qwn (s:=s') (by omega);go_wp2_with fail
  refine(Qwo s' 10 _ (by omega)).mono ?_;rintro e w1 ⟨qw,nd,rfl⟩;have d1:=HR.out.dr.c1;have df:=HR.out.dr.free 1;have HBD:Hid (Below wr.heap.size wr (wr.drewN nd)):=⟨rfl,rfl,rfl,Nat.le_refl _,fun _ _=>rfl⟩
  have HR1:=qb (HR.out.below HBD.out);have e1:=HR1.out.dr.c1;have ef:=HR1.out.dr.free 1;have HB1:Hid (QB base bm w (wr.drewN nd)):=HB.out.then ⟨rfl,rfl,rfl,Nat.le_refl _,fun _ _=>rfl⟩;generalize wr.drewN nd=w1 at *
  have hkk:(k:Int)+1<=9223372036854775807:=by omega
  rcases qw with⟨m,hm,rfl,hsp⟩|⟨rfl,hsp⟩
  ·have HSP:=qb hsp
   have hx1:(s'.extract 0 m).size<=8192:=by rw[ByteArray.size_extract];omega
   have hx2:(s'.extract (m+1) s'.size).size<s'.size:=by rw[ByteArray.size_extract];omega
   have HX2:=qb hx2;generalize s'.extract 0 m=text at *;generalize s'.extract (m+1) s'.size=rest at *;clear hsp hx2;go_wp2_with fail
   have HR2:=qb (HR1.out.qeB ((k:Int)+1));refine(qf9 text _ base bd bm ((k:Int)+1) _ _ lns _ hx1 HR2.out (by omega)).mono ?_;rintro e w2 qw;rcases qeC HR2.out qw with⟨rfl,qbT,jq,hl',hb2,qpS,vp2,vw2,qdN⟩|⟨q,ht,jq,hb2⟩
   ·have HST:=qb (jq (Tm.split 10 rest.data.toList));have HB2:Hid (QB base bm w w2):=(HB1.out.setCell (p:=⟨bd,1,none⟩) HR1.out.dr.from_ _).trans hb2;have HR3:=qb qdN;clear qw jq hb2 qdN;go_wp2;go_roundw
    case rel=>exact⟨rest,k+1,qbT,qpS,vp2,vw2,rfl,by have:=HX2.out;omega,by omega,by rw[HRD.out,HSP.out,HST.out];rfl,HR3.out,HB2.out⟩
    case measure=>exact HX2.out
   ·obtain rfl:e=_:=ht;have HST:=qb (jq (Tm.split 10 rest.data.toList));have HB2:Hid (QB base bm w w2):=(HB1.out.setCell (p:=⟨bd,1,none⟩) HR1.out.dr.from_ _).then (hb2.mono (by have h1:=HR2.out.dr.lt;have h2:=HR2.out.dr.from_;omega))
    have HC:Hid (w2.cell? ⟨bd,1,none⟩=some (.int .i64 ((k:Int)+1))):=by unfold Hid;rw[hb2.cell (p:=⟨bd,1,none⟩) HR2.out.dr.lt];exact HR2.out.dr.c1
    clear qw jq hb2;go_wp2;exact⟨rfl,qhk (by rw[HRD.out,HSP.out];exact HST.out) rfl HB2.out HC.out⟩
  ·have HSP:=qb hsp;clear hsp;go_wp2_with fail
   have HR2:=qb (HR1.out.qeB ((k:Int)+1));refine(qf9 s' _ base bd bm ((k:Int)+1) _ _ lns _ (by omega) HR2.out (by omega)).mono ?_;rintro e w2 qw;rcases qeC HR2.out qw with⟨rfl,qbT,jq,hl',hb2,qpS,vp2,vw2,qdN⟩|⟨q,ht,jq,hb2⟩
   ·have HST:=qb (jq []);have HB2:Hid (QB base bm w w2):=(HB1.out.setCell (p:=⟨bd,1,none⟩) HR1.out.dr.from_ _).trans hb2;have HR3:=qb qdN;clear qw jq hb2 qdN;go_wp2;go_roundw
    case rel=>exact⟨⟨#[]⟩,k+1,qbT,qpS,vp2,vw2,rfl,by show k+1+0<=s.size;omega,by omega,by rw[HRD.out,HSP.out,HST.out];rfl,HR3.out,HB2.out⟩
    case measure=>show 0<s'.size;omega
   ·obtain rfl:e=_:=ht;have HST:=qb (jq []);have HB2:Hid (QB base bm w w2):=(HB1.out.setCell (p:=⟨bd,1,none⟩) HR1.out.dr.from_ _).then (hb2.mono (by have h1:=HR2.out.dr.lt;have h2:=HR2.out.dr.from_;omega))
    have HC:Hid (w2.cell? ⟨bd,1,none⟩=some (.int .i64 ((k:Int)+1))):=by unfold Hid;rw[hb2.cell (p:=⟨bd,1,none⟩) HR2.out.dr.lt];exact HR2.out.dr.c1
    clear qw jq hb2;go_wp2;exact⟨rfl,qhk (by rw[HRD.out,HSP.out];exact HST.out) rfl HB2.out HC.out⟩
def qdm(r:Option Tm.Ln)(q:Int)(lns:List Tm.Ln)(base bd bm:Nat)(w:World)(e:Ending)(w':World):Prop:=match r with
 | none=>e=.returned (.tuple #[])/\QB base bm w w'/\∃col line vp vw,Rep w' col base bd bm line vp vw lns
 | some o=>yU e q/\QB base bm w w'/\w'.cell? ⟨bd,1,none⟩=some (.int .i64 o.num)
theorem qeg(h:r=none)(he:e=.returned (.tuple #[]))(hb:QB base bm w w')(hr:∃col line vp vw,Rep w' col base bd bm line vp vw lns):qdm r q lns base bd bm w e w':=by
 subst h;exact⟨he,hb,hr⟩
theorem qcg{o:Tm.Ln}(h:r=some o)(he:yU e q)(hb:QB base bm w w')(hc:w'.cell? ⟨bd,1,none⟩=some (.int .i64 o.num)):qdm r q lns base bd bm w e w':=by
 subst h;exact⟨he,hb,hc⟩
theorem qgb(h:(l.take k).find? p=none)(hk:k<l.length)(hx:p l[k]=false):(l.take (k+1)).find? p=none:=by
 rw[List.take_succ_eq_append_getElem hk,List.find?_append,h];simp[hx]
theorem qgc(h:(l.take k).find? p=none)(hk:k<l.length)(hx:p l[k]=true):l.find? p=some l[k]:=by
 have e:l.find? p=(l.take k++l.drop k).find? p:=by rw[List.take_append_drop]
 rw[e,List.find?_append,h,List.drop_eq_getElem_cons hk,List.find?_cons,hx];rfl
theorem qrX{m:Nat}(h:Pt w col base (.slice a m cap) lns)(hk:k<(Tm.zo lns).length) :
  ∃g off,a=some ⟨g,off,none⟩/\g<w.heap.size/\w.cell? ⟨g,off+k * 2,none⟩=some (.int .i64 (Tm.zo lns)[k].num)/\w.cell? ⟨g,off+k * 2+1,none⟩=some (.int .i64 ((Tm.zo lns)[k].qh.getD 0 0)):=by
 have hlen:(jJ (Tm.zo lns)).length=(Tm.zo lns).length * 2:=h.1.1;obtain⟨g,off,z8,he,hg,hc⟩:=(Reads.qn h.1).form (by omega);cases he;refine⟨g,off,rfl,hg,?_,?_⟩
 ·exact hc (k * 2) _ (by have:=qfJ hk (f:=0) (by omega);simpa using this)
 ·exact hc (k * 2+1) _ (by have:=qfJ hk (f:=1) (by omega);simpa using this)
def loops(lns:List Tm.Ln)(o:Tm.Ln):Bool:=!Tm.ends lns 4 (o.qh.getD 0 0)
theorem qiN(lns:List Tm.Ln):(Tm.zo lns).find? (loops lns)=lns.find? (Tm.vP lns):=by
 unfold Tm.zo;rw[List.find?_filter]
 congr 1
 funext o
 rw[Tm.qgd,loops];simp
theorem qjM(lns:List Tm.Ln)(col:Nat->Int)(base bd bm:Nat)(line:Int)(vp vw:Value)(w:World)(qL:Rep w col base bd bm line vp vw lns)(hn:lns.length<=8192) :
  Calls Tryz.prog 121 #[.pointer (some ⟨bd,0,none⟩)] w fun e w'=>qdm (lns.find? (Tm.vP lns)) 3 lns base bd bm w e w':=by
 obtain⟨a,cap,rfl⟩:=(Reads.qn qL.pt.1).shape;have hdl:=qko lns;have d2:=qL.dr.c2;have ZG:=qb qL;clear qL;go_enter Tryz.func121,Tryz.ntmps121
 go_wp2;go_loopw [9] (fun i wr=>∃(k:Nat) (qdO:Int),k<=(Tm.zo lns).length/\i=.int .i64 k/\((Tm.zo lns).take k).find? (loops lns)=none/\Rep wr col base bd bm qdO (.slice a (Tm.zo lns).length cap) vw lns/\QB base bm w wr) (fun i _=>(Tm.zo lns).length-(intOf i).toNat)
 case atStart=>exact⟨0,line,Nat.zero_le _,rfl,by simp,ZG.out,QB.refl _ _ _⟩
 case round =>
  obtain⟨k,qdO,hk,rfl,jQ,qL,hb⟩:=hrel;have HR:=qb qL;have HB:=qb hb;by_cases hlt:k<(Tm.zo lns).length
  ·obtain⟨g,off,rfl,hg,c0,c1⟩:=qrX qL.pt hlt;have Qau:=qb (fun hx=>qgb (p:=loops lns) jQ hlt hx);have Qav:=qb (fun hx=>qgc (p:=loops lns) jQ hlt hx);have qge:(Tm.zo lns)[k]∈lns:=(List.mem_filter.1 (List.getElem_mem hlt)).1;have qR:=qL.fit _ qge
   have hrr:0<=(Tm.zo lns)[k].qh.getD 0 0/\(Tm.zo lns)[k].qh.getD 0 0<=1114111:=by
    cases hr:(Tm.zo lns)[k].qh with
    | nil=>exact absurd hr qR.some
    | cons x y=>exact qR.rune x (by rw[hr];simp)
   have e1:=qL.dr.c1;have ef:=qL.dr.free;have e0:=qL.dr.c0;have el:=qL.dr.lt
   have bn:¬bd=wr.heap.size:=by omega
   have bn':¬wr.heap.size=bd:=by omega
   have gn:¬g=wr.heap.size:=by omega
   have HW:Hid (∀n t:Int,Rep ((wr.setCell ⟨bd,1,none⟩ (.int .i64 n)).alloc (.cells #[.int .i64 n,.int .i64 t] 234)) col base bd bm n (.slice (some ⟨g,off,none⟩) (Tm.zo lns).length cap) vw lns):=fun n t=>(HR.out.qeB n).below ((Below.refl _ _).alloc (Nat.le_refl _) _);have HWB:Hid (∀n t:Int,QB base bm w ((wr.setCell ⟨bd,1,none⟩ (.int .i64 n)).alloc (.cells #[.int .i64 n,.int .i64 t] 234))):=fun n t=>(HB.out.setCell (p:=⟨bd,1,none⟩) HR.out.dr.from_ _).alloc (by have:=HR.out.dr.from_;simp[World.setCell];omega) _;have hlo:loops lns (Tm.zo lns)[k]=!Tm.ends lns 4 ((Tm.zo lns)[k].qh.getD 0 0):=rfl;rw[hlo]at Qau Qav;generalize qlY:(Tm.zo lns)[k].num=num at *;generalize (Tm.zo lns)[k].qh.getD 0 0=top at *;have QtL:=qb qlY;clear jQ qL hb qge qR hlo qlY;go_wp2_with fail
   have HRW:=qb (HW.out num top);have HBW:=qb (HWB.out num top);have y0:=HRW.out.dr.c0;have y1:=HRW.out.dr.c1
   have x1:((wr.setCell ⟨bd,1,none⟩ (.int .i64 num)).alloc (.cells #[.int .i64 num,.int .i64 top] 234)).cell? ⟨wr.heap.size,1,none⟩=some (.int .i64 top):=by
    rw[ql (by simp[World.setCell])];rfl
   generalize ((wr.setCell ⟨bd,1,none⟩ (.int .i64 num)).alloc (.cells #[.int .i64 num,.int .i64 top] 234))=wx at *;cases xB:Tm.ends lns 4 top
   ·have HN:Hid (lns.find? (Tm.vP lns)=some (Tm.zo lns)[k]):=by unfold Hid;rw[<-qiN];exact Qav.out (by rw[xB];rfl)
    clear Qau Qav
    go_region_dies
    all_goals go_wp2_with (go_at_call 155;refine(qeD lns HRW.out.fit bm 4 top _ (Nat.le_refl _) (HRW.out.nd.rd.below (Below.refl _ _).drew) hrr).mono ?_;rintro e w' ⟨rfl,rfl⟩)
    all_goals(refine wpAny_ready (rs:=[7]) (by decide +kernel) (by simp) ?_;refine AllReady.cons rfl (fun K hK=>?_) ?_;go_simp;refine hK _ _ ?_;clear hK K;rotate_left;exact AllReady.nil)
    all_goals(refine wpAny_ready (rs:=[8]) (by decide +kernel) (by simp) ?_;refine AllReady.cons rfl (fun K hK=>?_) ?_;go_simp;rotate_left;exact AllReady.nil)
    all_goals(go_at_call 154;refine(zA 3 _).mono ?_;rintro e w' ⟨rfl,rfl⟩;exact⟨rfl,qcg HN.out rfl HBW.out.drew (by rw[QtL.out];exact y1)⟩)
   ·have HS:=qb (Qau.out (by rw[xB];rfl));clear Qau Qav;go_quiet (first|(go_at_call 155;refine Calls.quiet_of_same ((qeD lns HRW.out.fit bm 4 top _ (Nat.le_refl _) (HRW.out.nd.rd.below ⟨rfl,rfl,rfl,Nat.le_refl _,fun _ _=>rfl⟩) hrr)))|(go_at_call 154;refine Calls.quiet_of_same (zl 3 _)))
    go_wp2;go_roundw
    case rel=>exact⟨k+1,num,by omega,by go_num,HS.out,HRW.out.below ⟨rfl,rfl,rfl,Nat.le_refl _,fun _ _=>rfl⟩,HBW.out.then ⟨rfl,rfl,rfl,Nat.le_refl _,fun _ _=>rfl⟩⟩
    case measure=>simp[intOf];omega
  ·have HN:Hid (lns.find? (Tm.vP lns)=none):=by
    rw[List.take_of_length_le (by omega)]at jQ;unfold Hid;rw[<-qiN];exact jQ
   clear jQ qL hb;go_wp2;go_end0;exact qeg HN.out rfl HB.out ⟨_,_,_,_,HR.out⟩
def Qxf(w:World)(v:Value)(ls:List Tm.Ln):Prop :=
 ∃a cap,v=.slice a ls.length cap/\∀k (hk:k<ls.length),∃g off x1 x2,a=some ⟨g,off,none⟩/\g<w.heap.size/\w.cell? ⟨g,off+k * 3,none⟩=some (.int .i64 ls[k].num)/\w.cell? ⟨g,off+k * 3+1,none⟩=some x1/\w.cell? ⟨g,off+k * 3+2,none⟩=some x2 /\
  Reads w x1 1 ls[k].qh.length (ints ls[k].qh)/\Reads w x2 4 ls[k].els.length (qG ls[k].els)
theorem Wt.rd{v:Value}(h:Wt w col base v lns):Qxf w v (Tm.zi lns):=by
 obtain⟨xs,hl,hr,hok⟩:=h;obtain⟨a,cap,rfl⟩:=(Reads.qn hr.1).shape;refine⟨a,cap,rfl,fun k hk=>?_⟩
 have hk':k<xs.length:=by omega
 have hlen:(zV true xs (Tm.zi lns)).length=(Tm.zi lns).length * 3:=hr.1.1;obtain⟨g,off,z8,he,hg,hc⟩:=(Reads.qn hr.1).form (by omega);cases he;refine⟨g,off,xs[k].1,xs[k].2,rfl,hg,?_,?_,?_,(hok k hk hk').1.1,(hok k hk hk').2.1⟩
 ·exact hc (k * 3) _ (by have:=xx hl hk hk' (f:=0) (by omega);simpa using this)
 ·exact hc (k * 3+1) _ (by have:=xx hl hk hk' (f:=1) (by omega);simpa using this)
 ·exact hc (k * 3+2) _ (by have:=xx hl hk hk' (f:=2) (by omega);simpa using this)
theorem qh3(lns:List Tm.Ln)(vw:Value)(bd:Nat)(w:World)(hc:w.cell? ⟨bd,3,none⟩=some vw)(hw:Qxf w vw (Tm.zi lns))(hf:∀o∈lns,Tm.Fit o)(hn:lns.length<=8192) :
  Calls Tryz.prog 159 #[.pointer (some ⟨bd,0,none⟩)] w fun e w'=>e=.returned (.int .i64 (Tm.bound lns))/\Below w.heap.size w w':=by
 obtain⟨ls,hls⟩:∃ls,Tm.zi lns=ls:=⟨_,rfl⟩
 have HB0:Hid (Tm.bound lns=Tm.xn ls 65536):=by unfold Hid Tm.bound;rw[hls]
 have hle:=qdL lns;have HWT:Hid (∀o∈ls,∀e∈o.els,0<=e.p/\e.p<=65535):=fun o ho e he=>((hf o (by rw[<-hls]at ho;exact(List.mem_filter.1 ho).1)).weight e he).1;have HFW:Hid (∀o∈ls,o.els.length<=4):=fun o ho=>(hf o (by rw[<-hls]at ho;exact(List.mem_filter.1 ho).1)).els;rw[hls]at hw hle;have HW:=qb hw;obtain⟨a,cap,rfl,_⟩:=hw;clear hls hf;go_enter Tryz.func159,Tryz.ntmps159
 go_wp2;go_loopw [3,13] (fun m i wr=>∃(k:Nat) (q:Int),k<=ls.length/\i=.int .i64 k/\m=.int .i64 q/\q=Tm.xn (ls.take k) 65536/\(0<=q/\q<=65536)/\Below w.heap.size w wr) (fun _ i _=>ls.length-(intOf i).toNat)
 case atStart=>exact⟨0,65536,Nat.zero_le _,rfl,rfl,rfl,by omega,Below.refl _ _⟩
 case round =>
  obtain⟨k,q,hk,rfl,rfl,hq,hqr,hb⟩:=hrel;have HB:=qb hb;have HQ:=qb hq;have hz:=hb.size;clear hq;by_cases hlt:k<ls.length
  ·obtain⟨a',z8,he,hcs⟩:=HW.out;cases he;obtain⟨g,off,x1,x2,rfl,hg,c0,c1,c2,r1,r2⟩:=hcs k hlt;have hcc:∀o,wr.cell? ⟨g,o,none⟩=w.cell? ⟨g,o,none⟩:=fun o=>hb.cell (p:=⟨g,o,none⟩) hg;rw[<-hcc]at c0 c1 c2;obtain⟨a1,qX,rfl⟩:=r1.shape;obtain⟨a2,zD,rfl⟩:=r2.shape;have HST:=qb (Tm.qk7 (m:=65536) hlt);have HEW:=qb (HWT.out _ (List.getElem_mem hlt));have hel:=HFW.out _ (List.getElem_mem hlt)
   have gn:¬g=wr.heap.size:=by omega
   generalize ls[k].els=els at *;generalize ls[k].num=num at *;generalize ls[k].qh.length=rl at *;have R2:=qb r2;have HB1:Hid (Below w.heap.size w (wr.alloc (.cells #[.int .i64 num,.slice a1 rl qX,.slice a2 els.length zD] 240))):=HB.out.alloc hz _;clear hcs hb r1 r2 hcc;go_wp2_with fail
   go_loopw [3,21] (fun m i wi=>∃(j:Nat) (p:Int),j<=els.length/\i=.int .i64 j/\m=.int .i64 p/\p=Tm.xo (els.take j) q/\(0<=p/\p<=65536)/\Below w.heap.size w wi) (fun _ i _=>els.length-(intOf i).toNat)
   case atStart=>exact⟨0,q,Nat.zero_le _,rfl,rfl,rfl,hqr,HB1.out⟩
   case round =>
    obtain⟨j,p,hj,rfl,rfl,hp,hpr,hb2⟩:=hrel;have HB2:=qb hb2;have HP:=qb hp;have hz2:=hb2.size;clear hp;by_cases hjt:j<els.length
    ·obtain⟨g2,qzw,rfl,hg2,e0,e1,e2,e3⟩:=qfZ R2.out hjt;have hcc:∀o,wr.cell? ⟨g2,o,none⟩=w.cell? ⟨g2,o,none⟩:=fun o=>hb2.cell (p:=⟨g2,o,none⟩) hg2;rw[<-hcc]at e0 e1 e2 e3;have HS2:=qb (Tm.qk8 (m:=q) hjt);have hx:=HEW.out _ (List.getElem_mem hjt)
     have g2n:¬g2=wr.heap.size:=by omega
     generalize els[j]=x at *;clear hcc hb2;have HB3:Hid (Below w.heap.size w (wr.alloc (.cells #[.int .i64 x.p,.int .i64 x.s,.int .i64 x.t,.bool x.v] 102))):=HB2.out.alloc hz2 _;cases hv:x.v
     ·cases hp0:(x.p != 0)
      ·have HE:Hid (Tm.x8 p x=p):=by unfold Hid Tm.x8;rw[hv,hp0];rfl
       go_wp2;go_roundw
       case rel=>exact⟨j+1,p,by omega,by go_num,rfl,by rw[HS2.out,<-HP.out,HE.out],hpr,by rw[<-hv];exact HB3.out⟩
       case measure=>simp[intOf];omega
      ·have HE:Hid (Tm.x8 p x=min p x.p):=by unfold Hid Tm.x8;rw[hv,hp0];rfl
       go_wp2;go_roundw
       case rel=>exact⟨j+1,min p x.p,by omega,by go_num,by go_num,by rw[HS2.out,<-HP.out,HE.out],by omega,by rw[<-hv];exact HB3.out⟩
       case measure=>simp[intOf];omega
     ·have HE:Hid (Tm.x8 p x=p):=by unfold Hid Tm.x8;rw[hv];rfl
      go_wp2;go_roundw
      case rel=>exact⟨j+1,p,by omega,by go_num,rfl,by rw[HS2.out,<-HP.out,HE.out],hpr,by rw[<-hv];exact HB3.out⟩
      case measure=>simp[intOf];omega
    ·have HE:Hid (p=Tm.xn (ls.take (k+1)) 65536):=by unfold Hid;rw[HST.out,<-HQ.out,HP.out,List.take_of_length_le (by omega)]
     clear hb2;go_wp2;go_roundw
     case rel=>exact⟨k+1,p,by omega,by go_num,rfl,HE.out,hpr,HB2.out⟩
     case measure=>simp[intOf];omega
  ·have HF:Hid (Tm.bound lns=q):=by unfold Hid;rw[HB0.out,HQ.out,List.take_of_length_le (by omega)]
   clear hb;go_wp2;go_ret;exact⟨yf HF.out.symm,HB.out⟩
theorem qiO{m:Nat}(h:Wt w col base (.slice a m cap) lns)(hk:k<(Tm.zi lns).length) :
  ∃g off x1 x2,a=some ⟨g,off,none⟩/\g<w.heap.size/\w.cell? ⟨g,off+k * 3,none⟩=some (.int .i64 (Tm.zi lns)[k].num)/\w.cell? ⟨g,off+k * 3+1,none⟩=some x1/\w.cell? ⟨g,off+k * 3+2,none⟩=some x2 /\
   Qce w col (x1,x2) (Tm.zi lns)[k]:=by
 obtain⟨xs,hl,hr,hok⟩:=h
 have hk':k<xs.length:=by omega
 have hlen:(zV true xs (Tm.zi lns)).length=(Tm.zi lns).length * 3:=hr.1.1;obtain⟨g,off,z8,he,hg,hc⟩:=(Reads.qn hr.1).form (by omega);cases he;refine⟨g,off,xs[k].1,xs[k].2,rfl,hg,?_,?_,?_,hok k hk hk'⟩
 ·exact hc (k * 3) _ (by have:=xx hl hk hk' (f:=0) (by omega);simpa using this)
 ·exact hc (k * 3+1) _ (by have:=xx hl hk hk' (f:=1) (by omega);simpa using this)
 ·exact hc (k * 3+2) _ (by have:=xx hl hk hk' (f:=2) (by omega);simpa using this)
theorem qpT{els:List Tm.El}{p:Tm.El->Bool}(h:(els.take k).any p=false)(hk:k<els.length)(hx:p els[k]=false):(els.take (k+1)).any p=false:=by
 rw[List.take_succ_eq_append_getElem hk,List.any_append,h];simp[hx]
theorem qrY{els:List Tm.El}{p:Tm.El->Bool}(hk:k<els.length)(hx:p els[k]=true):els.any p=true :=
 List.any_eq_true.2 ⟨els[k],List.getElem_mem hk,hx⟩
theorem qgf(lns:List Tm.Ln)(col:Nat->Int)(base bd bm:Nat)(line:Int)(vp vw:Value)(w:World)(qL:Rep w col base bd bm line vp vw lns)(hn:lns.length<=8192) :
  Calls Tryz.prog 123 #[.pointer (some ⟨bd,0,none⟩)] w fun e w'=>qdm (lns.find? (Tm.xf lns)) 4 lns base bd bm w e w':=by
 obtain⟨wl,hwl⟩:∃wl,(Tm.zi lns).length=wl:=⟨_,rfl⟩
 obtain⟨a,cap,rfl⟩:∃a cap,vw=.slice a wl cap:=by
  obtain⟨xs,hl,hr,hok⟩:=qL.wt;rw[<-hwl];exact(Reads.qn hr.1).shape
 have hdl:=qdL lns;have ZG:=qb qL;have HWL:=qb hwl;have QpU:=qb (Tm.qrZ qL.fit);rw[hwl]at hdl;clear qL hwl;go_enter Tryz.func123,Tryz.ntmps123
 go_wp2_with fail
 refine(qh3 lns _ bd _ ZG.out.dr.c3 ZG.out.wt.rd ZG.out.fit hn).mono ?_;rintro e w1 ⟨rfl,hb1⟩;have HR1:=qb (ZG.out.below hb1);have HB1:Hid (QB base bm w w1):=QB.of (hb1.mono (by have h1:=ZG.out.dr.from_;have h2:=ZG.out.dr.lt;omega));have d3:=HR1.out.dr.c3;obtain⟨b,qtQ⟩:∃b,Tm.bound lns=b:=⟨_,rfl⟩
 rw[qtQ]at QpU;rw[qtQ];clear hb1 qtQ;go_wp2_with fail
 go_loopw [14] (fun i wr=>∃(k:Nat) (qdO:Int),k<=wl/\i=.int .i64 k/\((Tm.zi lns).take k).find? (fun o=>o.els.any (Tm.xG b))=none/\Rep wr col base bd bm qdO vp (.slice a wl cap) lns/\QB base bm w wr) (fun i _=>wl-(intOf i).toNat)
 case atStart=>exact⟨0,line,Nat.zero_le _,rfl,by simp,HR1.out,HB1.out⟩
 case round =>
  obtain⟨k,qdO,hk,rfl,jQ,qL,hb⟩:=hrel;have HR:=qb qL;have HB:=qb hb;by_cases hlt:k<wl
  ·have yo:k<(Tm.zi lns).length:=by rw[HWL.out];exact hlt
   obtain⟨g,off,x1,x2,rfl,hg,c0,c1,c2,qe9⟩:=qiO qL.wt yo;have Qau:=qb (fun hx=>qgb (p:=fun o=>o.els.any (Tm.xG b)) jQ yo hx);have Qav:=qb (fun hx=>qgc (p:=fun o=>o.els.any (Tm.xG b)) jQ yo hx);have qge:(Tm.zi lns)[k]∈lns:=(List.mem_filter.1 (List.getElem_mem yo)).1;have qR:=qL.fit _ qge;have e1:=qL.dr.c1;have ef:=qL.dr.free;have el:=qL.dr.lt
   have bn:¬bd=wr.heap.size:=by omega
   have bn':¬wr.heap.size=bd:=by omega
   have gn:¬g=wr.heap.size:=by omega
   generalize hol:(Tm.zi lns)[k]=o at *;have r1:=qe9.1.1;have r2:=qe9.2.1;obtain⟨a1,qX,rfl⟩:=r1.shape;obtain⟨a2,zD,rfl⟩:=r2.shape;have HSQ:=qb qe9;have hel:=qR.els;have HW:Hid (Rep ((wr.setCell ⟨bd,1,none⟩ (.int .i64 o.num)).alloc (.cells #[.int .i64 o.num,.slice a1 o.qh.length qX,.slice a2 o.els.length zD] 240)) col base bd bm o.num vp (.slice (some ⟨g,off,none⟩) wl cap) lns):=(HR.out.qeB o.num).below ((Below.refl _ _).alloc (Nat.le_refl _) _);have HWB:Hid (QB base bm w ((wr.setCell ⟨bd,1,none⟩ (.int .i64 o.num)).alloc (.cells #[.int .i64 o.num,.slice a1 o.qh.length qX,.slice a2 o.els.length zD] 240))):=(HB.out.setCell (p:=⟨bd,1,none⟩) HR.out.dr.from_ _).alloc (by have:=HR.out.dr.from_;simp[World.setCell];omega) _
   have HKX:Hid (ZS wr ((wr.setCell ⟨bd,1,none⟩ (.int .i64 o.num)).alloc (.cells #[.int .i64 o.num,.slice a1 o.qh.length qX,.slice a2 o.els.length zD] 240)) col col (· ≠-3)) :=
    ⟨by simp[World.setCell],fun j hj hc=>by rw[Below.heap_alloc _ _ _ (by simpa[World.setCell]using hj),Below.heap_setCell _ _ _ _ (by simp only;intro e;subst e;exact hc HR.out.dr.hue)],fun _ _=>rfl⟩
   have HRX:=qb (HSQ.out.2.zc HKX.out (by decide)).1;clear jQ qL hb qge qR hol r1 r2 qe9;go_wp2_with fail
   generalize ((wr.setCell ⟨bd,1,none⟩ (.int .i64 o.num)).alloc (.cells #[.int .i64 o.num,.slice a1 o.qh.length qX,.slice a2 o.els.length zD] 240))=wx at *;go_loopw [27] (fun i wi=>∃j:Nat,j<=o.els.length/\i=.int .i64 j/\(o.els.take j).any (Tm.xG b)=false/\Below wx.heap.size wx wi) (fun i _=>o.els.length-(intOf i).toNat)
   case atStart=>exact⟨0,Nat.zero_le _,rfl,by simp,Below.refl _ _⟩
   case round =>
    obtain⟨j,hj,rfl,hno,hb2⟩:=hrel;have HB2:=qb hb2;have hz2:=hb2.size;have HRI:=qb (HW.out.below hb2);have HBI:Hid (QB base bm w wr):=HWB.out.then (hb2.mono (by have h1:=HW.out.dr.from_;have h2:=HW.out.dr.lt;omega));by_cases hjt:j<o.els.length
    ·obtain⟨g2,qzw,rfl,hg2,q0,q1,q2,q3⟩:=qfZ HRX.out hjt;have hcc:∀o,wr.cell? ⟨g2,o,none⟩=wx.cell? ⟨g2,o,none⟩:=fun o=>hb2.cell (p:=⟨g2,o,none⟩) hg2;rw[<-hcc]at q0 q1 q2 q3;have HS2:=qb (fun hx=>qpT (p:=Tm.xG b) hno hjt hx);have HH2:=qb (fun hx=>qrY (p:=Tm.xG b) hjt hx)
     have g2n:¬g2=wr.heap.size:=by omega
     generalize hxx:o.els[j]=x at *;have HB3:Hid (Below wx.heap.size wx (wr.alloc (.cells #[.int .i64 x.p,.int .i64 x.s,.int .i64 x.t,.bool x.v] 102))):=HB2.out.alloc hz2 _;clear hcc hb2 hno hxx;have hne:∀q:Bool,Tm.xG b x=q->q=(x.v&&decide (b<=x.p)):=fun q hq=>hq.symm;cases hv:x.v
     ·have HS3:=qb (HS2.out (by unfold Tm.xG;rw[hv];rfl));clear HS2 HH2 hne;go_wp2_with fail
      refine(zl 4 _).mono ?_;rintro e w' ⟨rfl,rfl⟩;go_wp2;go_roundw
      case rel=>exact⟨j+1,by omega,by go_num,HS3.out,by rw[<-hv];exact HB3.out⟩
      case measure=>simp[intOf];omega
     ·cases hge:decide (b<=x.p)
      ·have HS3:=qb (HS2.out (by unfold Tm.xG;rw[hv,hge];rfl));clear HS2 HH2 hne;go_wp2_with fail
       refine(zl 4 _).mono ?_;rintro e w' ⟨rfl,rfl⟩;go_wp2;go_roundw
       case rel=>exact⟨j+1,by omega,by go_num,HS3.out,by rw[<-hv];exact HB3.out⟩
       case measure=>simp[intOf];omega
      ·have HH3:=qb (HH2.out (by unfold Tm.xG;rw[hv,hge];rfl))
       have HN:Hid (lns.find? (Tm.xf lns)=some o):=by unfold Hid;rw[<-QpU.out];exact Qav.out HH3.out
       clear HS2 HH2 hne;go_wp2_with fail
       refine(zA 4 _).mono ?_;rintro e w' ⟨rfl,rfl⟩;go_wp2;exact⟨rfl,qcg HN.out rfl (by rw[<-hv];exact HWB.out.then (HB3.out.mono (by have h1:=HW.out.dr.from_;have h2:=HW.out.dr.lt;omega))) (by rw[<-hv,HB3.out.cell (p:=⟨bd,1,none⟩) HW.out.dr.lt];exact HW.out.dr.c1)⟩
    ·have HS:=qb (Qau.out (by rw[List.take_of_length_le (by omega)]at hno;exact hno));clear hb2 hno;go_wp2;go_roundw
     case rel=>exact⟨k+1,o.num,by omega,by go_num,HS.out,HRI.out,HBI.out⟩
     case measure=>simp[intOf];omega
  ·have HN:Hid (lns.find? (Tm.xf lns)=none):=by
    rw[List.take_of_length_le (by rw[HWL.out];omega)]at jQ;unfold Hid;rw[<-QpU.out];exact jQ
   clear jQ qL hb;go_wp2;go_end0;exact qeg HN.out rfl HB.out ⟨_,_,_,_,HR.out⟩
theorem ql5(lns:List Tm.Ln)(bd bm:Nat)(r:Int)(w:World)(hc:w.cell? ⟨bd,0,none⟩=some (.map (some bm)))(hrd:ZX w bm lns)(hr:0<=r/\r<=1114111) :
  Calls Tryz.prog 157 #[.pointer (some ⟨bd,0,none⟩),.int .i64 r] w fun e w'=>e=.returned (.bool (!decide ((Tm.parts lns r).length=0)))/\Below w.heap.size w w':=by
 obtain⟨f,vp,vs,yq,hfv,hp,_⟩:=hrd.at hr.1;have YY:=qb yq;have HP:=qb hp;have hf1:=qdn;clear yq hp hrd;go_enter Tryz.func157,Tryz.ntmps157
 go_wp2_with (at_lookup;go_must (refine zQ rfl _ _ rfl bm lns.length f rfl YY.out r rfl (yV hr) _ hfv ?_))
 refine(qbi _ _ _ _ HP.out).mono ?_;rintro e w1 ⟨rfl,hb⟩;have HB:=qb hb;clear hb;go_wp2;go_ret;refine⟨ja ?_,HB.out⟩;generalize (Tm.parts lns r).length=m;cases m<;>simp
theorem qnX{l:List Int}{p:Int->Bool}(h:(l.take k).any p=false)(hk:k<l.length)(hx:p l[k]=false):(l.take (k+1)).any p=false:=by
 rw[List.take_succ_eq_append_getElem hk,List.any_append,h];simp[hx]
theorem qpV{l:List Int}{p:Int->Bool}(hk:k<l.length)(hx:p l[k]=true):l.any p=true :=
 List.any_eq_true.2 ⟨l[k],List.getElem_mem hk,hx⟩
theorem Qh4(lns:List Tm.Ln)(bd bm:Nat)(vr:Value)(rs:List Int)(w:World)(hbd:bd<w.heap.size)(hc:w.cell? ⟨bd,0,none⟩=some (.map (some bm)))(hrd:ZX w bm lns)(hr:Reads w vr 1 rs.length (ints rs))(hrg:∀r∈rs,0<=r/\r<=1114111)(hl:rs.length<=1000000) :
  Calls Tryz.prog 181 #[vr,.func (.func 157) #[.pointer (some ⟨bd,0,none⟩)] #[]] w fun e w'=>qlN (Tm.xp lns rs) e/\Below w.heap.size w w':=by
 obtain⟨a,cap,rfl⟩:=hr.shape;have HR:=qb hr;have HG:=qb hrg;have HRD:=qb hrd;have HH:Hid (Tm.xp lns rs=rs.any fun r=>!decide ((Tm.parts lns r).length=0)):=rfl;clear hr hrg hrd;go_enter Tryz.func181,Tryz.ntmps181
 go_wp2;go_loopw [8] (fun i wr=>∃k:Nat,k<=rs.length/\i=.int .i64 k/\((rs.take k).any fun r=>!decide ((Tm.parts lns r).length=0))=false/\Below w.heap.size w wr) (fun i _=>rs.length-(intOf i).toNat)
 case atStart=>exact⟨0,Nat.zero_le _,rfl,by simp,Below.refl _ _⟩
 case round =>
  obtain⟨k,hk,rfl,hno,hb⟩:=hrel;have hz:=hb.size;have HB:=qb hb;by_cases hlt:k<rs.length
  ·obtain⟨g,off,rfl,hg,c0⟩:=HR.out.at hlt;have hcc:∀o,wr.cell? ⟨g,o,none⟩=w.cell? ⟨g,o,none⟩:=fun o=>hb.cell (p:=⟨g,o,none⟩) hg;rw[<-hcc]at c0
   have hcw:wr.cell? ⟨bd,0,none⟩=some (.map (some bm)):=by rw[hb.cell (p:=⟨bd,0,none⟩) hbd];exact hc
   have HS:=qb (fun hx=>qnX (p:=fun r=>!decide ((Tm.parts lns r).length=0)) hno hlt hx);have HY:=qb (fun hx=>qpV (p:=fun r=>!decide ((Tm.parts lns r).length=0)) hlt hx);have hrr:=HG.out _ (List.getElem_mem hlt);generalize rs[k]=x at *;clear hcc hb hno;go_wp2_with fail
   refine(ql5 lns bd bm x _ hcw (HRD.out.below HB.out) hrr).mono ?_;rintro e w1 ⟨rfl,hb1⟩;have HB1:Hid (Below w.heap.size w w1):=HB.out.trans (hb1.mono hz);clear hb1;generalize hq:(!decide ((Tm.parts lns x).length=0))=q at *;cases q
   ·have HS':=qb (HS.out rfl);clear hq;go_wp2;go_roundw
    case rel=>exact⟨k+1,by omega,by go_num,HS'.out,HB1.out⟩
    case measure=>simp[intOf];omega
   ·have HY':=qb (HY.out rfl);clear hq;go_wp2;go_ret;exact⟨⟨k,rfl,by rw[HH.out,HY'.out];simp⟩,HB1.out⟩
  ·have HN:Hid (Tm.xp lns rs=false):=by
    rw[List.take_of_length_le (by omega)]at hno;unfold Hid;rw[HH.out];exact hno
   clear hno hb;go_wp2;go_ret;exact⟨⟨-1,rfl,by rw[HN.out];rfl⟩,HB.out⟩
theorem QfU(lns:List Tm.Ln)(bd bm:Nat)(vr:Value)(rs:List Int)(w:World)(hbd:bd<w.heap.size)(hc:w.cell? ⟨bd,0,none⟩=some (.map (some bm)))(hrd:ZX w bm lns)(hr:Reads w vr 1 rs.length (ints rs))(hrg:∀r∈rs,0<=r/\r<=1114111)(hl:rs.length<=1000000) :
  Calls Tryz.prog 156 #[vr,.func (.func 157) #[.pointer (some ⟨bd,0,none⟩)] #[]] w fun e w'=>e=.returned (.bool (Tm.xp lns rs))/\Below w.heap.size w w':=by
 go_enter Tryz.func156,Tryz.ntmps156
 go_wp2_with fail
 refine(Qh4 lns bd bm vr rs _ hbd hc hrd hr hrg hl).mono ?_;rintro e w1 ⟨⟨i,rfl,hi⟩,hb⟩;have HI:=qb hi;clear hi;go_wp2;go_ret;exact⟨ja HI.out,hb⟩
def qdP(lns:List Tm.Ln)(o:Tm.Ln):Bool:=Tm.xp lns o.qh || (decide (o.qh.length=3)&&(Tm.yD lns (o.qh.take 2)).isNone)
theorem qfa(lns:List Tm.Ln):(Tm.zi lns).find? (qdP lns)=lns.find? (Tm.vB lns):=by
 unfold Tm.zi;rw[List.find?_filter]
 congr 1
 funext o
 rw[Tm.vB,qdP];generalize (Tm.xp lns o.qh || (decide (o.qh.length=3)&&(Tm.yD lns (o.qh.take 2)).isNone))=q;generalize decide (o.kind=[119])=p;cases p<;>cases q<;>rfl
theorem qhf(lns:List Tm.Ln)(col:Nat->Int)(base bd bm:Nat)(line:Int)(vp vw:Value)(w:World)(qL:Rep w col base bd bm line vp vw lns)(hn:lns.length<=8192) :
  Calls Tryz.prog 122 #[.pointer (some ⟨bd,0,none⟩)] w fun e w'=>qdm (lns.find? (Tm.vB lns)) 5 lns base bd bm w e w':=by
 obtain⟨wl,hwl⟩:∃wl,(Tm.zi lns).length=wl:=⟨_,rfl⟩
 obtain⟨a,cap,rfl⟩:∃a cap,vw=.slice a wl cap:=by
  obtain⟨xs,hl,hr,hok⟩:=qL.wt;rw[<-hwl];exact(Reads.qn hr.1).shape
 have hdl:=qdL lns;have d3:=qL.dr.c3;have ZG:=qb qL;have HWL:=qb hwl;rw[hwl]at hdl;clear qL hwl;go_enter Tryz.func122,Tryz.ntmps122
 go_wp2;go_loopw [9] (fun i wr=>∃(k:Nat) (qdO:Int),k<=wl/\i=.int .i64 k/\((Tm.zi lns).take k).find? (qdP lns)=none/\Rep wr col base bd bm qdO vp (.slice a wl cap) lns/\QB base bm w wr) (fun i _=>wl-(intOf i).toNat)
 case atStart=>exact⟨0,line,Nat.zero_le _,rfl,by simp,ZG.out,QB.refl _ _ _⟩
 case round =>
  obtain⟨k,qdO,hk,rfl,jQ,qL,hb⟩:=hrel;have HR:=qb qL;have HB:=qb hb;by_cases hlt:k<wl
  ·have yo:k<(Tm.zi lns).length:=by rw[HWL.out];exact hlt
   obtain⟨g,off,x1,x2,rfl,hg,c0,c1,c2,qe9⟩:=qiO qL.wt yo;have Qau:=qb (fun hx=>qgb (p:=qdP lns) jQ yo hx);have Qav:=qb (fun hx=>qgc (p:=qdP lns) jQ yo hx);have qge:(Tm.zi lns)[k]∈lns:=(List.mem_filter.1 (List.getElem_mem yo)).1;have qR:=qL.fit _ qge;have e1:=qL.dr.c1;have ef:=qL.dr.free;have e0:=qL.dr.c0;have el:=qL.dr.lt
   have bn:¬bd=wr.heap.size:=by omega
   have bn':¬wr.heap.size=bd:=by omega
   have gn:¬g=wr.heap.size:=by omega
   generalize hol:(Tm.zi lns)[k]=o at *;have r1:=qe9.1.1;have r2:=qe9.2.1;obtain⟨a1,qX,rfl⟩:=r1.shape;obtain⟨a2,zD,rfl⟩:=r2.shape;obtain⟨g1,zL,rfl,hg1,hcx⟩:=r1.at (k:=0) (List.length_pos_iff.2 qR.some)
   have HSQ:=qb qe9;have Qe4:=qb qR;have HW:Hid (Rep ((wr.setCell ⟨bd,1,none⟩ (.int .i64 o.num)).alloc (.cells #[.int .i64 o.num,.slice (some ⟨g1,zL,none⟩) o.qh.length qX,.slice a2 o.els.length zD] 240)) col base bd bm o.num vp (.slice (some ⟨g,off,none⟩) wl cap) lns):=(HR.out.qeB o.num).below ((Below.refl _ _).alloc (Nat.le_refl _) _);have HWB:Hid (QB base bm w ((wr.setCell ⟨bd,1,none⟩ (.int .i64 o.num)).alloc (.cells #[.int .i64 o.num,.slice (some ⟨g1,zL,none⟩) o.qh.length qX,.slice a2 o.els.length zD] 240))):=(HB.out.setCell (p:=⟨bd,1,none⟩) HR.out.dr.from_ _).alloc (by have:=HR.out.dr.from_;simp[World.setCell];omega) _;clear hcx;clear jQ qL hb qge qR hol r1 r2 qe9
   have HKX:Hid (ZS wr ((wr.setCell ⟨bd,1,none⟩ (.int .i64 o.num)).alloc (.cells #[.int .i64 o.num,.slice (some ⟨g1,zL,none⟩) o.qh.length qX,.slice a2 o.els.length zD] 240)) col col (· ≠-3)) :=
    ⟨by simp[World.setCell],fun j hj hc=>by rw[Below.heap_alloc _ _ _ (by simpa[World.setCell]using hj),Below.heap_setCell _ _ _ _ (by simp only;intro e;subst e;exact hc HR.out.dr.hue)],fun _ _=>rfl⟩
   have HRX:=qb (HSQ.out.1.zc HKX.out (by decide)).1
   have x1:((wr.setCell ⟨bd,1,none⟩ (.int .i64 o.num)).alloc (.cells #[.int .i64 o.num,.slice (some ⟨g1,zL,none⟩) o.qh.length qX,.slice a2 o.els.length zD] 240)).cell? ⟨wr.heap.size,1,none⟩=some (.slice (some ⟨g1,zL,none⟩) o.qh.length qX):=by rw[ql (by simp[World.setCell])];rfl
   have hsx:wr.heap.size<((wr.setCell ⟨bd,1,none⟩ (.int .i64 o.num)).alloc (.cells #[.int .i64 o.num,.slice (some ⟨g1,zL,none⟩) o.qh.length qX,.slice a2 o.els.length zD] 240)).heap.size:=by simp[World.setCell]
   go_wp2_with fail
   generalize ((wr.setCell ⟨bd,1,none⟩ (.int .i64 o.num)).alloc (.cells #[.int .i64 o.num,.slice (some ⟨g1,zL,none⟩) o.qh.length qX,.slice a2 o.els.length zD] 240))=wx at *;have j9:=Qe4.out.few;have HLX:=qb HW.out.dr.lt;refine(QfU lns bd bm _ o.qh _ HW.out.dr.lt HW.out.dr.c0 HW.out.nd.rd HRX.out Qe4.out.rune (by omega)).mono ?_;rintro e wy ⟨rfl,hby⟩;have hsy:=hby.size
   have HRY:Hid (Rep wy col base bd bm o.num vp (.slice (some ⟨g,off,none⟩) wl cap) lns):=HW.out.below hby;have HBY:Hid (QB base bm w wy):=HWB.out.then (hby.mono (by have h1:=HW.out.dr.from_;have h2:=HW.out.dr.lt;omega))
   have y1:wy.cell? ⟨wr.heap.size,1,none⟩=some (.slice (some ⟨g1,zL,none⟩) o.qh.length qX):=by rw[hby.cell (p:=⟨wr.heap.size,1,none⟩) hsx];exact x1
   have Qxg:=qb (HRX.out.below hby HRX.out.2.1);have z0:=HRY.out.dr.c0;have z1:=HRY.out.dr.c1
   clear hby;cases hpp:Tm.xp lns o.qh
   case true =>
    have HN:Hid (lns.find? (Tm.vB lns)=some o):=by unfold Hid;rw[<-qfa];exact Qav.out (by unfold qdP;rw[hpp];rfl)
    clear Qau Qav;go_wp2_with fail
    refine(zA 5 _).mono ?_;rintro e w' ⟨rfl,rfl⟩;go_wp2;exact⟨rfl,qcg HN.out rfl HBY.out z1⟩
   have HUN:Hid (qdP lns o=(decide (o.qh.length=3)&&(Tm.yD lns (o.qh.take 2)).isNone)):=by unfold Hid qdP;rw[hpp];rfl
   go_wp2_with fail
   refine(zl 5 _).mono ?_;rintro e wy' ⟨rfl,rfl⟩;go_wp2_with fail
   by_cases h3:o.qh.length=3
   ·have hd3:((o.qh.length:Int) == 3)=true:=by rw[h3];rfl
    have hfx:=Qxg.out.fits
    have hc2:3<=qX:=by have:=hfx.2.1;omega
    have hc3:qX<=9223372036854775807:=by have:=hfx.2.2;unfold maxLen at this;omega
    have hc4:(2:Int)<=(qX:Int):=by omega
    have Qxh:=qb (Qxg.out.two (k:=2) (by omega))
    have qpW:∀wz,Below wy'.heap.size wy' wz->Calls Tryz.prog 158 #[.map (some bm),.slice (some ⟨g1,zL,none⟩) 2 qX] wz fun e w'=>e=.returned (.bool (!(Tm.yD lns (o.qh.take 2)).isNone))/\Below wz.heap.size wz w':=fun wz hz =>
     qbl lns bm _ (o.qh.take 2) wz (HRY.out.nd.rd.below hz) (Qxh.out.below hz Qxh.out.2.1) (by simp;omega) (fun r hr=>Qe4.out.rune r (List.mem_of_mem_take hr)) (by simp;omega) hn HRY.out.fit
    obtain⟨nn,hnn⟩:∃nn,(Tm.yD lns (o.qh.take 2)).isNone=nn:=⟨_,rfl⟩
    rw[hnn]at qpW HUN;have ZZ:=qb qpW;clear qpW hfx hnn;cases nn
    ·have HS:=qb (Qau.out (by rw[HUN.out];simp));clear Qau Qav
     go_region_with (first|(go_at_call 158;refine(ZZ.out _ (Below.refl _ _).drew).mono ?_;rintro e wz ⟨rfl,hbz⟩;have HBZ:Hid (Below wy'.heap.size wy' wz):=(Below.refl _ _).drew.trans hbz;clear hbz)|(go_at_call 154;refine(zl 5 _).mono ?_;rintro e wq ⟨rfl,rfl⟩))
     all_goals go_wp2
     all_goals go_roundw
     all_goals first
      | exact⟨k+1,o.num,by omega,by go_num,HS.out,HRY.out.below HBZ.out,HBY.out.then (HBZ.out.mono (by have h1:=HRY.out.dr.from_;have h2:=HRY.out.dr.lt;omega))⟩
      | (simp[intOf];omega)
    ·have HN:Hid (lns.find? (Tm.vB lns)=some o):=by unfold Hid;rw[<-qfa];exact Qav.out (by rw[HUN.out];simp[h3])
     clear Qau Qav
     go_region_dies
     all_goals go_wp2_with (go_at_call 158;refine(ZZ.out _ (Below.refl _ _).drew).mono ?_;rintro e wz ⟨rfl,hbz⟩;have HBZ:Hid (Below wy'.heap.size wy' wz):=(Below.refl _ _).drew.trans hbz;clear hbz)
     all_goals(refine wpAny_ready (rs:=[15]) (by decide +kernel) (by simp) ?_;refine AllReady.cons rfl (fun K hK=>?_) ?_;go_simp;refine hK _ _ ?_;clear hK K;rotate_left;exact AllReady.nil)
     all_goals(refine wpAny_ready (rs:=[16]) (by decide +kernel) (by simp) ?_;refine AllReady.cons rfl (fun K hK=>?_) ?_;go_simp;refine hK _ _ ?_;clear hK K;rotate_left;exact AllReady.nil)
     all_goals(refine wpAny_ready (rs:=[17]) (by decide +kernel) (by simp) ?_;refine AllReady.cons rfl (fun K hK=>?_) ?_;go_simp;rotate_left;exact AllReady.nil)
     all_goals(go_at_call 154;refine(zA 5 _).mono ?_;rintro e w' ⟨rfl,rfl⟩;exact⟨rfl,qcg HN.out rfl (HBY.out.then (HBZ.out.mono (by have h1:=HRY.out.dr.from_;have h2:=HRY.out.dr.lt;omega))) (by rw[HBZ.out.cell (p:=⟨bd,1,none⟩) HRY.out.dr.lt];exact z1)⟩)
   ·have hd3:((o.qh.length:Int) == 3)=false:=by rw[beq_eq_false_iff_ne];omega
    have HS:=qb (Qau.out (by rw[HUN.out];simp[h3]));clear Qau Qav;go_quiet (first|(go_at_call 154;refine Calls.quiet_of_same (zl 5 _)))
    go_wp2;go_roundw
    case rel=>exact⟨k+1,o.num,by omega,by go_num,HS.out,HRY.out.below ⟨rfl,rfl,rfl,Nat.le_refl _,fun _ _=>rfl⟩,HBY.out.then ⟨rfl,rfl,rfl,Nat.le_refl _,fun _ _=>rfl⟩⟩
    case measure=>simp[intOf];omega
  ·have HN:Hid (lns.find? (Tm.vB lns)=none):=by
    rw[List.take_of_length_le (by rw[HWL.out];omega)]at jQ;unfold Hid;rw[<-qfa];exact jQ
   clear jQ qL hb;go_wp2;go_end0;exact qeg HN.out rfl HB.out ⟨_,_,_,_,HR.out⟩
def z9(s:List UInt8):Int×Int:=match Tm.qF [] 1 (Tm.split 10 s)with
 | (_,some (n,e))=>(n,e)
 | (lns,none)=>Tm.together lns
theorem qaP:∀(xs:List (List UInt8)) (lns l:List Tm.Ln) (n m q:Int),Tm.qF lns n xs=(l,some (m,q))->q≠0
 | [],lns,l,n,m,q,h=>by simp[Tm.qF]at h
 | x::r,lns,l,n,m,q,h=>by
  rw[Tm.qF]at h;split at h
  ·exact qaP r _ _ _ _ _ h
  ·split at h
   ·simp at h;omega
   ·split at h
    ·simp at h;omega
    ·split at h
     ·simp at h;omega
     ·exact qaP r _ _ _ _ _ h
def qfb(w:World)(st:Int)(sh:Bool):World:=(((((((w.alloc (.cells #[.int .i64 st,.bool sh] 27)).alloc (.cells #[.pointer (some ⟨w.heap.size+1+1+1+1+1,0,none⟩)] 23)).alloc (.cells #[.int .i64 0] 3)).alloc (.cells #[.int .i64 0] 30)).alloc (.map #[] 0)).alloc (.cells #[.map (some (w.heap.size+1+1+1+1)),.int .i64 st,.bool sh] 170)).alloc (.cells #[.map (some (w.heap.size+1+1+1+1)),.int .i64 0,.slice none 0 0,.slice none 0 0] 202))
def qfc(bm bd:Nat):Nat->Int:=fun g=>if g=bm then -2 else if g=bd then -3 else if g<bd then -9 else -1
structure Start(w:World)(st:Int)(sh:Bool)(W:World):Prop where
 rep:Rep W (qfc (w.heap.size+1+1+1+1) (w.heap.size+1+1+1+1+1+1)) (w.heap.size+1+1+1+1+1+1) (w.heap.size+1+1+1+1+1+1) (w.heap.size+1+1+1+1) 0 (.slice none 0 0) (.slice none 0 0) []
 below:Below w.heap.size w W
 k1:W.cell? ⟨w.heap.size+1,0,none⟩=some (.pointer (some ⟨w.heap.size+1+1+1+1+1,0,none⟩))
 k2:W.cell? ⟨w.heap.size+1+1,0,none⟩=some (.int .i64 0)
 k3:W.cell? ⟨w.heap.size+1+1+1,0,none⟩=some (.int .i64 0)
 f1:W.frozen? ⟨w.heap.size+1,0,none⟩=false
 f2:W.frozen? ⟨w.heap.size+1+1,0,none⟩=false
 f3:W.frozen? ⟨w.heap.size+1+1+1,0,none⟩=false
 m0:W.cell? ⟨w.heap.size+1+1+1+1+1,0,none⟩=some (.map (some (w.heap.size+1+1+1+1)))
 m1:W.cell? ⟨w.heap.size+1+1+1+1+1,1,none⟩=some (.int .i64 st)
 m2:W.cell? ⟨w.heap.size+1+1+1+1+1,2,none⟩=some (.bool sh)
theorem qh5(w:World)(st:Int)(sh:Bool):Start w st sh (qfb w st sh):=by
 unfold qfb;refine⟨⟨⟨?_,by omega,by simp,?_,?_,?_,?_,fun o=>?_⟩,⟨?_,Nat.zero_le _,fun _=>qde,?_,fun r _=>⟨.slice none 0 0,.slice none 0 0,rfl,⟨?_,fun g hg=>by cases hg⟩,Ji.nil _ _ _ _ _ _⟩⟩,⟨World.ownsRow_nil _ _ _ _,fun g hg=>by cases hg⟩,Ji.nil _ _ _ _ _ _,(fun o ho=>by cases ho),fun g hg=>?_⟩,?_,?_,?_,?_,?_,?_,?_,?_,?_,?_⟩
 ·unfold qfc;rw[if_neg (by omega),if_pos rfl]
 ·rw[ql (by simp)];rfl
 ·rw[ql (by simp)];rfl
 ·rw[ql (by simp)];rfl
 ·rw[ql (by simp)];rfl
 ·rw[zx (by simp)]
 ·unfold qfc;rw[if_pos rfl]
 ·have hm:=Yi.made ((((w.alloc (.cells #[.int .i64 st,.bool sh] 27)).alloc (.cells #[.pointer (some ⟨w.heap.size+1+1+1+1+1,0,none⟩)] 23)).alloc (.cells #[.int .i64 0] 3)).alloc (.cells #[.int .i64 0] 30))
  have e:((((w.alloc (.cells #[.int .i64 st,.bool sh] 27)).alloc (.cells #[.pointer (some ⟨w.heap.size+1+1+1+1+1,0,none⟩)] 23)).alloc (.cells #[.int .i64 0] 3)).alloc (.cells #[.int .i64 0] 30)).heap.size=w.heap.size+1+1+1+1:=by simp
  rw[e]at hm;refine Yi.same hm ?_;rw[Below.heap_alloc _ _ _ (by simp<;>omega),Below.heap_alloc _ _ _ (by simp)]
 ·exact⟨rfl,(fun g hg=>by cases hg),none,0,rfl,⟨Nat.le_refl _,Nat.zero_le _⟩,by simp[Tm.parts,ints]⟩
 ·unfold qfc
  (repeat' split)<;>omega
 ·exact(((((((Below.refl _ _).alloc (by simp) _).alloc (by simp<;>omega) _).alloc (by simp<;>omega) _).alloc (by simp<;>omega) _).alloc (by simp<;>omega) _).alloc (by simp<;>omega) _).alloc (by simp<;>omega) _
 ·rw[qJ (by simp<;>omega),qJ (by simp<;>omega),qJ (by simp<;>omega),qJ (by simp<;>omega),qJ (by simp),ql (by simp)];rfl
 ·rw[qJ (by simp<;>omega),qJ (by simp<;>omega),qJ (by simp<;>omega),qJ (by simp),ql (by simp)];rfl
 ·rw[qJ (by simp<;>omega),qJ (by simp<;>omega),qJ (by simp),ql (by simp)];rfl
 ·rw[zP (by simp<;>omega),zP (by simp<;>omega),zP (by simp<;>omega),zP (by simp<;>omega),zP (by simp),zx (by simp)]
 ·rw[zP (by simp<;>omega),zP (by simp<;>omega),zP (by simp<;>omega),zP (by simp),zx (by simp)]
 ·rw[zP (by simp<;>omega),zP (by simp<;>omega),zP (by simp),zx (by simp)]
 ·rw[qJ (by simp),ql (by simp)];rfl
 ·rw[qJ (by simp),ql (by simp)];rfl
 ·rw[qJ (by simp),ql (by simp)];rfl
structure Jd(w:World)(bc bm:Nat)(st:Int)(sh:Bool)(lns:List Tm.Ln):Prop where
 lt:bc<w.heap.size
 c0:w.cell? ⟨bc,0,none⟩=some (.map (some bm))
 c1:w.cell? ⟨bc,1,none⟩=some (.int .i64 st)
 c2:w.cell? ⟨bc,2,none⟩=some (.bool sh)
 rd:ZX w bm lns
 fit:∀o∈lns,Tm.Fit o
 few:lns.length<=8192
theorem Jd.below(h:Jd w bc bm st sh lns)(hb:Below w.heap.size w w'):Jd w' bc bm st sh lns :=
 ⟨Nat.lt_of_lt_of_le h.lt hb.size,by rw[hb.cell (p:=⟨bc,0,none⟩) h.lt];exact h.c0,by rw[hb.cell (p:=⟨bc,1,none⟩) h.lt];exact h.c1,by rw[hb.cell (p:=⟨bc,2,none⟩) h.lt];exact h.c2,h.rd.below hb,h.fit,h.few⟩
def Xk(w:World)(B bc bm:Nat)(st:Int)(sh:Bool)(lns:List Tm.Ln):Prop :=
 ∀w',w.heap.size<=w'.heap.size->(∀g,B<=g->g<w.heap.size->w'.heap[g]?=w.heap[g]?)->Jd w' bc bm st sh lns
theorem Xk.here(h:Xk w B bc bm st sh lns):Jd w bc bm st sh lns:=h w (Nat.le_refl _) (fun _ _ _=>rfl)
theorem Xk.stays{B':Nat}(h:Xk w B bc bm st sh lns)(hB:B'<=B)(hs:w.heap.size<=w'.heap.size)(hk:∀g,B<=g->g<w.heap.size->w'.heap[g]?=w.heap[g]?):Xk w' B' bc bm st sh lns :=
 fun w'' hs' hk'=>h w'' (Nat.le_trans hs hs') (fun g hg hl=>(hk' g (by omega) (by omega)).trans (hk g hg hl))
def XP(B:Nat)(s:ByteArray)(st:Int)(sh:Bool)(c:Option Addr)(w':World):Prop :=
 ((z9 s.data.toList).2≠0->c=none)/\((z9 s.data.toList).2=0->∃bc bm lns,c=some ⟨bc,0,none⟩/\Xk w' B bc bm st sh lns/\Tm.qF [] 1 (Tm.split 10 s.data.toList)=(lns,none))
theorem XP.no(h:(z9 s.data.toList).2≠0):XP B s st sh none w':=⟨fun _=>rfl,fun h'=>absurd h' h⟩
theorem qcU{w'':World}{n q:Int}{v1 v2 v3:Value}(k1:w1.cell? ⟨w.heap.size+1,0,none⟩=some v1)(k2:w1.cell? ⟨w.heap.size+1+1,0,none⟩=some v2)(k3:w1.cell? ⟨w.heap.size+1+1+1,0,none⟩=some v3)(hb:Below w.heap.size w w1)
  (hw:w''=(((w1.setCell ⟨w.heap.size+1,0,none⟩ (.pointer none)).setCell ⟨w.heap.size+1+1,0,none⟩ (.int .i64 n)).setCell ⟨w.heap.size+1+1+1,0,none⟩ (.int .i64 1)).setCell ⟨w.heap.size+1+1+1,0,none⟩ (.int .i64 q)) :
  w''.cell? ⟨w.heap.size+1,0,none⟩=some (.pointer none)/\w''.cell? ⟨w.heap.size+1+1,0,none⟩=some (.int .i64 n)/\w''.cell? ⟨w.heap.size+1+1+1,0,none⟩=some (.int .i64 q)/\Below w.heap.size w w'':=by
 subst hw
 have e3:((w1.setCell ⟨w.heap.size+1,0,none⟩ (.pointer none)).setCell ⟨w.heap.size+1+1,0,none⟩ (.int .i64 n)).cell? ⟨w.heap.size+1+1+1,0,none⟩=some v3:=by
  rw[World.cell?_setCell_other _ _ _ _ (by simp<;>omega),World.cell?_setCell_other _ _ _ _ (by simp<;>omega)];exact k3
 refine⟨?_,?_,?_,?_⟩
 ·rw[World.cell?_setCell_other _ _ _ _ (by simp<;>omega),World.cell?_setCell_other _ _ _ _ (by simp<;>omega),World.cell?_setCell_other _ _ _ _ (by simp<;>omega)]
  exact World.cell?_setCell_same _ _ _ k1
 ·rw[World.cell?_setCell_other _ _ _ _ (by simp<;>omega),World.cell?_setCell_other _ _ _ _ (by simp<;>omega)]
  exact World.cell?_setCell_same _ _ _ ((World.cell?_setCell_other _ _ _ _ (by simp<;>omega)).trans k2)
 ·exact World.cell?_setCell_same _ _ _ (World.cell?_setCell_same _ _ _ e3)
 ·exact(((hb.setCell (p:=⟨w.heap.size+1,0,none⟩) (by simp only;omega) _).setCell (p:=⟨w.heap.size+1+1,0,none⟩) (by simp only;omega) _).setCell (p:=⟨w.heap.size+1+1+1,0,none⟩) (by simp only;omega) _).setCell (p:=⟨w.heap.size+1+1+1,0,none⟩) (by simp only;omega) _
theorem qr0{w'':World}{v1 v2 v3 x1 x2 x3:Value}(k1:w1.cell? ⟨w.heap.size+1,0,none⟩=some v1)(k2:w1.cell? ⟨w.heap.size+1+1,0,none⟩=some v2)(k3:w1.cell? ⟨w.heap.size+1+1+1,0,none⟩=some v3)(hb:Below w.heap.size w w1)
  (hw:w''=((w1.setCell ⟨w.heap.size+1,0,none⟩ x1).setCell ⟨w.heap.size+1+1,0,none⟩ x2).setCell ⟨w.heap.size+1+1+1,0,none⟩ x3) :
  w''.cell? ⟨w.heap.size+1,0,none⟩=some x1/\w''.cell? ⟨w.heap.size+1+1,0,none⟩=some x2/\w''.cell? ⟨w.heap.size+1+1+1,0,none⟩=some x3/\Below w.heap.size w w'':=by
 subst hw;refine⟨?_,?_,?_,?_⟩
 ·rw[World.cell?_setCell_other _ _ _ _ (by simp<;>omega),World.cell?_setCell_other _ _ _ _ (by simp<;>omega)]
  exact World.cell?_setCell_same _ _ _ k1
 ·rw[World.cell?_setCell_other _ _ _ _ (by simp<;>omega)]
  exact World.cell?_setCell_same _ _ _ ((World.cell?_setCell_other _ _ _ _ (by simp<;>omega)).trans k2)
 ·exact World.cell?_setCell_same _ _ _ ((World.cell?_setCell_other _ _ _ _ (by simp<;>omega)).trans ((World.cell?_setCell_other _ _ _ _ (by simp<;>omega)).trans k3))
 ·exact((hb.setCell (p:=⟨w.heap.size+1,0,none⟩) (by simp only;omega) _).setCell (p:=⟨w.heap.size+1+1,0,none⟩) (by simp only;omega) _).setCell (p:=⟨w.heap.size+1+1+1,0,none⟩) (by simp only;omega) _
theorem qr1(s:ByteArray)(st:Int)(sh:Bool)(w:World)(hs:s.size<=8192) :
  Calls Tryz.prog 77 #[.string s,.agg #[.int .i64 st,.bool sh]] w fun e w'=>∃c,e=.returned (.tuple #[.pointer c,.int .i64 (z9 s.data.toList).1,.int .i64 (z9 s.data.toList).2])/\XP w.heap.size s st sh c w'/\Below w.heap.size w w':=by
 have hmf:∀(fn:Fn) (first cap:Array Value) (w:World),(Instr.makeFunc fn first cap).run Tryz.prog w=.ok (.func fn first cap) w:=fun _ _ _ _=>rfl;have hmm:=@run_makeMap Tryz.prog;have HST:=qb (qh5 w st sh);unfold qfb at HST
 go_enter_defers Tryz.func77,Tryz.ntmps77
 go_wp2_with fail
 generalize (((((((w.alloc (.cells #[.int .i64 st,.bool sh] 27)).alloc (.cells #[.pointer (some ⟨w.heap.size+1+1+1+1+1,0,none⟩)] 23)).alloc (.cells #[.int .i64 0] 3)).alloc (.cells #[.int .i64 0] 30)).alloc (.map #[] 0)).alloc (.cells #[.map (some (w.heap.size+1+1+1+1)),.int .i64 st,.bool sh] 170)).alloc (.cells #[.map (some (w.heap.size+1+1+1+1)),.int .i64 0,.slice none 0 0,.slice none 0 0] 202))=W at *
 have HTE:Hid (z9 s.data.toList=match Tm.qF [] 1 (Tm.split 10 s.data.toList)with
  | (_,some (n,e))=>(n,e)
  | (lns,none)=>Tm.together lns):=rfl
 refine(qk6 s _ _ _ _ _ _ _ hs HST.out.rep).mono ?_;rintro e w1 qw;rcases hrl:Tm.qF [] 1 (Tm.split 10 s.data.toList)with⟨lns,_|⟨n,q⟩⟩
 ·rw[hrl]at qw HTE;obtain⟨rfl,hb1,hn,qA7,qAT,vp1,vw1,qvJ⟩:=qw;have QpX:Hid (z9 s.data.toList=Tm.together lns):=HTE.out;have HB1:=qb hb1;have HR1:=qb qvJ;have HRL:=qb hrl;clear hb1 qvJ hrl HTE;go_wp2_with fail
  refine(qjM lns _ _ _ _ _ _ _ _ HR1.out hn).mono ?_;rintro e w2 qw
  cases hf1:lns.find? (Tm.vP lns)with
  | some o =>
   rw[hf1]at qw;obtain⟨ht,hb2,hc2⟩:=qw;obtain rfl:e=_:=ht
   have VD:Hid (z9 s.data.toList=(o.num,3)):=by unfold Hid;rw[QpX.out,Tm.together,hf1]
   have HB2:Hid (QB (w.heap.size+1+1+1+1+1+1) (w.heap.size+1+1+1+1) W w2):=HB1.out.trans hb2;have HC:=qb hc2;clear hb2 hc2 hf1;go_wp2;refine leaves_cons (f:=119) (args:=#[.pointer (some ⟨w.heap.size+1+1+1+1+1+1,0,none⟩),.pointer (some ⟨w.heap.size+1,0,none⟩),.pointer (some ⟨w.heap.size+1+1,0,none⟩),.pointer (some ⟨w.heap.size+1+1+1,0,none⟩)]) (by simp) (by simp[go_sem]) ?_;refine(vZ (w.heap.size+1+1+1+1+1+1) (w.heap.size+1) (w.heap.size+1+1) (w.heap.size+1+1+1) _ _ _ 3 o.num w2 (by omega) (by omega) (by omega) (by omega) (by rw[HB2.out.cell (p:=⟨w.heap.size+1,0,none⟩) (by simp only;omega) (by simp only;omega)];exact HST.out.k1) (by rw[HB2.out.cell (p:=⟨w.heap.size+1+1,0,none⟩) (by simp only;omega) (by simp only;omega)];exact HST.out.k2) (by rw[HB2.out.cell (p:=⟨w.heap.size+1+1+1,0,none⟩) (by simp only;omega) (by simp only;omega)];exact HST.out.k3) (by rw[HB2.out.frozen (p:=⟨w.heap.size+1,0,none⟩) (by simp only;omega) (by simp only;omega)];exact HST.out.f1) (by rw[HB2.out.frozen (p:=⟨w.heap.size+1+1,0,none⟩) (by simp only;omega) (by simp only;omega)];exact HST.out.f2) (by rw[HB2.out.frozen (p:=⟨w.heap.size+1+1+1,0,none⟩) (by simp only;omega) (by simp only;omega)];exact HST.out.f3) HC.out).mono ?_;rintro x u' w'' ⟨rfl,rfl,hw⟩;have HZ:=qb (qcU (w:=w) (w1:=w2) (n:=o.num) (q:=3) (by rw[HB2.out.cell (p:=⟨w.heap.size+1,0,none⟩) (by simp only;omega) (by simp only;omega)];exact HST.out.k1) (by rw[HB2.out.cell (p:=⟨w.heap.size+1+1,0,none⟩) (by simp only;omega) (by simp only;omega)];exact HST.out.k2) (by rw[HB2.out.cell (p:=⟨w.heap.size+1+1+1,0,none⟩) (by simp only;omega) (by simp only;omega)];exact HST.out.k3) (HST.out.below.trans (HB2.out.below (by omega) (by omega))) hw);have z1:=HZ.out.1;have z2:=HZ.out.2.1;have z3:=HZ.out.2.2.1;have HQ2:=qb HZ.out.2.2.2;clear hw;simp[Leaves,settle,results,Tryz.results77,go_sem,z1,z2,z3];exact⟨none,⟨rfl,by rw[VD.out],by rw[VD.out]⟩,XP.no (by rw[VD.out];simp),HQ2.out⟩
  | none =>
  rw[hf1]at qw;obtain⟨rfl,hb2,qpS,qAU,vp2,vw2,qdN⟩:=qw;have HF1:=qb hf1;have HB2:Hid (QB (w.heap.size+1+1+1+1+1+1) (w.heap.size+1+1+1+1) W w2):=HB1.out.trans hb2;have HR2:=qb qdN;clear hb2 qdN hf1;go_wp2_with fail
  refine(qhf lns _ _ _ _ _ _ _ _ HR2.out hn).mono ?_;rintro e w3 qw
  cases hf2:lns.find? (Tm.vB lns)with
  | some o =>
   rw[hf2]at qw;obtain⟨ht,hb3,hc3⟩:=qw;obtain rfl:e=_:=ht
   have VD:Hid (z9 s.data.toList=(o.num,5)):=by unfold Hid;rw[QpX.out,Tm.together,HF1.out];simp only;rw[hf2]
   have HB3:Hid (QB (w.heap.size+1+1+1+1+1+1) (w.heap.size+1+1+1+1) W w3):=HB2.out.trans hb3;have HC:=qb hc3;clear hb3 hc3 hf2;go_wp2;refine leaves_cons (f:=119) (args:=#[.pointer (some ⟨w.heap.size+1+1+1+1+1+1,0,none⟩),.pointer (some ⟨w.heap.size+1,0,none⟩),.pointer (some ⟨w.heap.size+1+1,0,none⟩),.pointer (some ⟨w.heap.size+1+1+1,0,none⟩)]) (by simp) (by simp[go_sem]) ?_;refine(vZ (w.heap.size+1+1+1+1+1+1) (w.heap.size+1) (w.heap.size+1+1) (w.heap.size+1+1+1) _ _ _ 5 o.num w3 (by omega) (by omega) (by omega) (by omega) (by rw[HB3.out.cell (p:=⟨w.heap.size+1,0,none⟩) (by simp only;omega) (by simp only;omega)];exact HST.out.k1) (by rw[HB3.out.cell (p:=⟨w.heap.size+1+1,0,none⟩) (by simp only;omega) (by simp only;omega)];exact HST.out.k2) (by rw[HB3.out.cell (p:=⟨w.heap.size+1+1+1,0,none⟩) (by simp only;omega) (by simp only;omega)];exact HST.out.k3) (by rw[HB3.out.frozen (p:=⟨w.heap.size+1,0,none⟩) (by simp only;omega) (by simp only;omega)];exact HST.out.f1) (by rw[HB3.out.frozen (p:=⟨w.heap.size+1+1,0,none⟩) (by simp only;omega) (by simp only;omega)];exact HST.out.f2) (by rw[HB3.out.frozen (p:=⟨w.heap.size+1+1+1,0,none⟩) (by simp only;omega) (by simp only;omega)];exact HST.out.f3) HC.out).mono ?_;rintro x u' w'' ⟨rfl,rfl,hw⟩;have HZ:=qb (qcU (w:=w) (w1:=w3) (n:=o.num) (q:=5) (by rw[HB3.out.cell (p:=⟨w.heap.size+1,0,none⟩) (by simp only;omega) (by simp only;omega)];exact HST.out.k1) (by rw[HB3.out.cell (p:=⟨w.heap.size+1+1,0,none⟩) (by simp only;omega) (by simp only;omega)];exact HST.out.k2) (by rw[HB3.out.cell (p:=⟨w.heap.size+1+1+1,0,none⟩) (by simp only;omega) (by simp only;omega)];exact HST.out.k3) (HST.out.below.trans (HB3.out.below (by omega) (by omega))) hw);have z1:=HZ.out.1;have z2:=HZ.out.2.1;have z3:=HZ.out.2.2.1;have HQ2:=qb HZ.out.2.2.2;clear hw;simp[Leaves,settle,results,Tryz.results77,go_sem,z1,z2,z3];exact⟨none,⟨rfl,by rw[VD.out],by rw[VD.out]⟩,XP.no (by rw[VD.out];simp),HQ2.out⟩
  | none =>
  rw[hf2]at qw;obtain⟨rfl,hb3,qA8,qAV,vp3,vw3,qvK⟩:=qw;have HF2:=qb hf2;have HB3:Hid (QB (w.heap.size+1+1+1+1+1+1) (w.heap.size+1+1+1+1) W w3):=HB2.out.trans hb3;have HR3:=qb qvK;clear hb3 qvK hf2;go_wp2_with fail
  refine(qgf lns _ _ _ _ _ _ _ _ HR3.out hn).mono ?_;rintro e w4 qw
  cases hf3:lns.find? (Tm.xf lns)with
  | some o =>
   rw[hf3]at qw;obtain⟨ht,hb4,hc4⟩:=qw;obtain rfl:e=_:=ht
   have VD:Hid (z9 s.data.toList=(o.num,4)):=by unfold Hid;rw[QpX.out,Tm.together,HF1.out];simp only;rw[HF2.out];simp only;rw[hf3]
   have HB4:Hid (QB (w.heap.size+1+1+1+1+1+1) (w.heap.size+1+1+1+1) W w4):=HB3.out.trans hb4;have HC:=qb hc4;clear hb4 hc4 hf3;go_wp2;refine leaves_cons (f:=119) (args:=#[.pointer (some ⟨w.heap.size+1+1+1+1+1+1,0,none⟩),.pointer (some ⟨w.heap.size+1,0,none⟩),.pointer (some ⟨w.heap.size+1+1,0,none⟩),.pointer (some ⟨w.heap.size+1+1+1,0,none⟩)]) (by simp) (by simp[go_sem]) ?_;refine(vZ (w.heap.size+1+1+1+1+1+1) (w.heap.size+1) (w.heap.size+1+1) (w.heap.size+1+1+1) _ _ _ 4 o.num w4 (by omega) (by omega) (by omega) (by omega) (by rw[HB4.out.cell (p:=⟨w.heap.size+1,0,none⟩) (by simp only;omega) (by simp only;omega)];exact HST.out.k1) (by rw[HB4.out.cell (p:=⟨w.heap.size+1+1,0,none⟩) (by simp only;omega) (by simp only;omega)];exact HST.out.k2) (by rw[HB4.out.cell (p:=⟨w.heap.size+1+1+1,0,none⟩) (by simp only;omega) (by simp only;omega)];exact HST.out.k3) (by rw[HB4.out.frozen (p:=⟨w.heap.size+1,0,none⟩) (by simp only;omega) (by simp only;omega)];exact HST.out.f1) (by rw[HB4.out.frozen (p:=⟨w.heap.size+1+1,0,none⟩) (by simp only;omega) (by simp only;omega)];exact HST.out.f2) (by rw[HB4.out.frozen (p:=⟨w.heap.size+1+1+1,0,none⟩) (by simp only;omega) (by simp only;omega)];exact HST.out.f3) HC.out).mono ?_;rintro x u' w'' ⟨rfl,rfl,hw⟩;have HZ:=qb (qcU (w:=w) (w1:=w4) (n:=o.num) (q:=4) (by rw[HB4.out.cell (p:=⟨w.heap.size+1,0,none⟩) (by simp only;omega) (by simp only;omega)];exact HST.out.k1) (by rw[HB4.out.cell (p:=⟨w.heap.size+1+1,0,none⟩) (by simp only;omega) (by simp only;omega)];exact HST.out.k2) (by rw[HB4.out.cell (p:=⟨w.heap.size+1+1+1,0,none⟩) (by simp only;omega) (by simp only;omega)];exact HST.out.k3) (HST.out.below.trans (HB4.out.below (by omega) (by omega))) hw);have z1:=HZ.out.1;have z2:=HZ.out.2.1;have z3:=HZ.out.2.2.1;have HQ2:=qb HZ.out.2.2.2;clear hw;simp[Leaves,settle,results,Tryz.results77,go_sem,z1,z2,z3];exact⟨none,⟨rfl,by rw[VD.out],by rw[VD.out]⟩,XP.no (by rw[VD.out];simp),HQ2.out⟩
  | none =>
  rw[hf3]at qw;obtain⟨rfl,hb4,qA9,qAW,vp4,vw4,qvL⟩:=qw
  have VD:Hid (z9 s.data.toList=(0,0)):=by unfold Hid;rw[QpX.out,Tm.together,HF1.out];simp only;rw[HF2.out];simp only;rw[hf3]
  have HB4:Hid (QB (w.heap.size+1+1+1+1+1+1) (w.heap.size+1+1+1+1) W w4):=HB3.out.trans hb4;have HR4:=qb qvL;clear hb4 qvL hf3;have y1:w4.cell? ⟨w.heap.size+1,0,none⟩=some (.pointer (some ⟨w.heap.size+1+1+1+1+1,0,none⟩)):=(by rw[HB4.out.cell (p:=⟨w.heap.size+1,0,none⟩) (by simp only;omega) (by simp only;omega)];exact HST.out.k1)
  have y2:w4.cell? ⟨w.heap.size+1+1,0,none⟩=some (.int .i64 0):=(by rw[HB4.out.cell (p:=⟨w.heap.size+1+1,0,none⟩) (by simp only;omega) (by simp only;omega)];exact HST.out.k2)
  have y3:w4.cell? ⟨w.heap.size+1+1+1,0,none⟩=some (.int .i64 0):=(by rw[HB4.out.cell (p:=⟨w.heap.size+1+1+1,0,none⟩) (by simp only;omega) (by simp only;omega)];exact HST.out.k3)
  have g1:w4.frozen? ⟨w.heap.size+1,0,none⟩=false:=(by rw[HB4.out.frozen (p:=⟨w.heap.size+1,0,none⟩) (by simp only;omega) (by simp only;omega)];exact HST.out.f1)
  have g2:w4.frozen? ⟨w.heap.size+1+1,0,none⟩=false:=(by rw[HB4.out.frozen (p:=⟨w.heap.size+1+1,0,none⟩) (by simp only;omega) (by simp only;omega)];exact HST.out.f2)
  have g3:w4.frozen? ⟨w.heap.size+1+1+1,0,none⟩=false:=(by rw[HB4.out.frozen (p:=⟨w.heap.size+1+1+1,0,none⟩) (by simp only;omega) (by simp only;omega)];exact HST.out.f3)
  go_wp2;refine leaves_cons (f:=119) (args:=#[.pointer (some ⟨w.heap.size+1+1+1+1+1+1,0,none⟩),.pointer (some ⟨w.heap.size+1,0,none⟩),.pointer (some ⟨w.heap.size+1+1,0,none⟩),.pointer (some ⟨w.heap.size+1+1+1,0,none⟩)]) (by simp) (by simp[go_sem]) ?_;refine(qpY _ _ _ _ _).mono ?_;rintro x u' w'' ⟨rfl,rfl,hw⟩;have HZ:=qb (qr0 (w:=w) y1 y2 y3 (HST.out.below.trans (HB4.out.below (by omega) (by omega))) hw)
  have QyC:Hid (Xk w'' w.heap.size (w.heap.size+1+1+1+1+1) (w.heap.size+1+1+1+1) st sh lns):=by
   intro w3 hs3 hk3
   have e5:∀o v,W.cell? ⟨w.heap.size+1+1+1+1+1,o,none⟩=some v->w''.cell? ⟨w.heap.size+1+1+1+1+1,o,none⟩=some v:=fun o v hv=>by
    rw[hw,World.cell?_setCell_other _ _ _ _ (by simp<;>omega),World.cell?_setCell_other _ _ _ _ (by simp<;>omega),World.cell?_setCell_other _ _ _ _ (by simp<;>omega),HB4.out.cell (p:=⟨w.heap.size+1+1+1+1+1,o,none⟩) (by simp only;omega) (by simp only;omega)];exact hv
   have hz:w''.heap.size=w4.heap.size:=by rw[hw];simp[World.setCell]
   have hk:∀g,w.heap.size+1+1+1+1<=g->w''.heap[g]?=w4.heap[g]?:=fun g hg=>by
    rw[hw,Below.heap_setCell _ _ _ _ (by simp only;omega),Below.heap_setCell _ _ _ _ (by simp only;omega),Below.heap_setCell _ _ _ _ (by simp only;omega)]
   have hlt:=HR4.out.dr.lt
   have e6:∀o v,W.cell? ⟨w.heap.size+1+1+1+1+1,o,none⟩=some v->w3.cell? ⟨w.heap.size+1+1+1+1+1,o,none⟩=some v:=fun o v hv=>by
    rw[World.cell?_of_block (a:=⟨w.heap.size+1+1+1+1+1,o,none⟩) (hk3 (w.heap.size+1+1+1+1+1) (by omega) (by omega))];exact e5 o v hv
   exact⟨by omega,e6 _ _ HST.out.m0,e6 _ _ HST.out.m1,e6 _ _ HST.out.m2,HR4.out.nd.qwp HR4.out.low (by omega) (fun g hg hl=>(hk3 g (by omega) (by omega)).trans (hk g (by omega))) ((hk3 _ (by omega) (by omega)).trans (hk _ (Nat.le_refl _))),HR4.out.fit,hn⟩
  have z1:=HZ.out.1;have z2:=HZ.out.2.1;have z3:=HZ.out.2.2.1;have HQ2:=qb HZ.out.2.2.2;clear hw;simp[Leaves,settle,results,Tryz.results77,go_sem,z1,z2,z3];exact⟨_,⟨rfl,by rw[VD.out],by rw[VD.out]⟩,⟨fun h=>absurd (by rw[VD.out]) h,fun _=>⟨w.heap.size+1+1+1+1+1,w.heap.size+1+1+1+1,lns,rfl,QyC.out,HRL.out⟩⟩,HQ2.out⟩
 ·rw[hrl]at qw HTE;obtain⟨ht,hb1,hc1⟩:=qw;obtain rfl:e=_:=ht;have VD:Hid (z9 s.data.toList=(n,q)):=HTE.out;have HB1:=qb hb1;have HC:=qb hc1;have HQ:Hid (q≠0):=qaP _ _ _ _ _ _ hrl;clear hb1 hc1 hrl;go_wp2;refine leaves_cons (f:=119) (args:=#[.pointer (some ⟨w.heap.size+1+1+1+1+1+1,0,none⟩),.pointer (some ⟨w.heap.size+1,0,none⟩),.pointer (some ⟨w.heap.size+1+1,0,none⟩),.pointer (some ⟨w.heap.size+1+1+1,0,none⟩)]) (by simp) (by simp[go_sem]) ?_;refine(vZ (w.heap.size+1+1+1+1+1+1) (w.heap.size+1) (w.heap.size+1+1) (w.heap.size+1+1+1) _ _ _ q n w1 (by omega) (by omega) (by omega) (by omega) (by rw[HB1.out.cell (p:=⟨w.heap.size+1,0,none⟩) (by simp only;omega) (by simp only;omega)];exact HST.out.k1) (by rw[HB1.out.cell (p:=⟨w.heap.size+1+1,0,none⟩) (by simp only;omega) (by simp only;omega)];exact HST.out.k2) (by rw[HB1.out.cell (p:=⟨w.heap.size+1+1+1,0,none⟩) (by simp only;omega) (by simp only;omega)];exact HST.out.k3) (by rw[HB1.out.frozen (p:=⟨w.heap.size+1,0,none⟩) (by simp only;omega) (by simp only;omega)];exact HST.out.f1) (by rw[HB1.out.frozen (p:=⟨w.heap.size+1+1,0,none⟩) (by simp only;omega) (by simp only;omega)];exact HST.out.f2) (by rw[HB1.out.frozen (p:=⟨w.heap.size+1+1+1,0,none⟩) (by simp only;omega) (by simp only;omega)];exact HST.out.f3) HC.out).mono ?_;rintro x u' w'' ⟨rfl,rfl,hw⟩;have HZ:=qb (qcU (w:=w) (w1:=w1) (n:=n) (q:=q) (by rw[HB1.out.cell (p:=⟨w.heap.size+1,0,none⟩) (by simp only;omega) (by simp only;omega)];exact HST.out.k1) (by rw[HB1.out.cell (p:=⟨w.heap.size+1+1,0,none⟩) (by simp only;omega) (by simp only;omega)];exact HST.out.k2) (by rw[HB1.out.cell (p:=⟨w.heap.size+1+1+1,0,none⟩) (by simp only;omega) (by simp only;omega)];exact HST.out.k3) (HST.out.below.trans (HB1.out.below (by omega) (by omega))) hw);have z1:=HZ.out.1;have z2:=HZ.out.2.1;have z3:=HZ.out.2.2.1;have HQ2:=qb HZ.out.2.2.2;clear hw;simp[Leaves,settle,results,Tryz.results77,go_sem,z1,z2,z3];exact⟨none,⟨rfl,by rw[VD.out],by rw[VD.out]⟩,XP.no (by rw[VD.out];exact HQ.out),HQ2.out⟩
