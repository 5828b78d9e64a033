import Derived.Laws.IdiomStrings
import Derived.Test.YtmnjjjhmnhfapaaGreatDoorMCodeStand
import Derived.Test.YtmnjjjhmnhfapaaGreatDoorMCodeBuild
namespace Go.Proofs.YtmnjjjhmnhfapaaGreatDoor
set_option maxRecDepth 100000
set_option maxHeartbeats 4000000
open Go.RowKit
variable {vs:Nat->Value}
theorem qw4(lns:List Tm.Ln)(st:Int)(sh:Bool)(n:List Int){k:Nat}(hk:k<st.toNat)(h4:k<4):(levels lns st sh n)[k]?=some (Tm.level sh (Tm.elements lns n) k):=by
 unfold levels;rw[List.getElem?_take,if_pos hk];rcases(show k=0\/k=1\/k=2\/k=3 by omega)with rfl|rfl|rfl|rfl<;>rfl
theorem qlO{w:World}{v:Value}{B:Nat}{vs:Nat->Value}{vn:Value}{lns:List Tm.Ln}{st:Int}{sh:Bool}{n:List Int}{t:Nat}(ht:st.toNat=t)(h4:t<=4)
  (qp:Reads w v 1 (t+1) (((List.range t).map vs)++[vn])) (hl:Qdf w B vs (fun k=>Tm.level sh (Tm.elements lns n) k)) (hn:Reads w vn 1 n.length (ints n)):JP w v (stands lns st sh n):=by
 have hll:(levels lns st sh n).length=t:=by unfold levels;rw[List.length_take,ht];simp;omega
 have hlen:(stands lns st sh n).length=t+1:=by unfold stands;rw[List.length_append,hll];rfl
 have hvl:((List.range t).map vs).length=t:=by simp
 refine⟨((List.range t).map vs)++[vn],by rw[hlen,List.length_append,hvl];rfl,by rw[hlen];exact qp,fun k x l hx hl'=>?_⟩;unfold stands at hl';by_cases hk:k<t
 ·rw[List.getElem?_append_left (by rw[hvl];exact hk),List.getElem?_map,List.getElem?_range hk]at hx;rw[List.getElem?_append_left (by rw[hll];exact hk),qw4 lns st sh n (by omega) (by omega)]at hl'
  have e1:vs k=x:=by simpa using hx
  have e2:Tm.level sh (Tm.elements lns n) k=l:=by simpa using hl'
  subst e1 e2;exact Reads.qn (hl k (by omega))
 ·have hkl:=(List.getElem?_eq_some_iff.1 hx).1;rw[List.length_append,hvl]at hkl
  have hkt:k=t:=by simp at hkl;omega
  subst hkt;rw[List.getElem?_append_right (by rw[hvl];exact Nat.le_refl _),hvl]at hx;rw[List.getElem?_append_right (by omega),hll]at hl'
  have e1:vn=x:=by simpa using hx
  have e2:n=l:=by simpa using hl'
  subst e1 e2;exact hn
theorem qiD{w:World}{bl t:Nat}(h4:t<=4)(hlt:bl<w.heap.size)(c:∀k,k<4->w.cell? ⟨bl,k,none⟩=some (vs k)):Reads w (.slice (some ⟨bl,0,none⟩) t 4) 1 ((List.range t).map vs).length ((List.range t).map vs):=by
 refine⟨by simp,fun g hg=>by simp[Value.ownBlock]at hg;subst hg;exact hlt,some ⟨bl,0,none⟩,4,by simp,⟨by simpa using h4,by unfold maxLen;omega⟩,fun j u hu=>⟨bl,0,rfl,?_⟩⟩;have hj:=(List.getElem?_eq_some_iff.1 hu).1;simp at hj;rw[List.getElem?_map,List.getElem?_range hj]at hu
 have e:vs j=u:=by simpa using hu
 subst e;rw[Nat.zero_add];exact c j (by omega)
theorem qdg(lns:List Tm.Ln)(bc bm:Nat)(st:Int)(sh:Bool)(s:ByteArray)(w:World)(hc:Jd w bc bm st sh lns)(xB:∀r,Tm.ends lns 4 r=true)(hh:Tm.QdI lns)(hst:1<=st/\st<=4)(hs:s.size<=64) :
  Calls Tryz.prog 92 #[.pointer (some ⟨bc,0,none⟩),.string s] w fun e w'=>∃v,e=.returned v/\JP w' v (stands lns st sh (zq lns s))/\Below w.heap.size w w':=by
 obtain⟨i1,ki,kz0,kz1,kz2⟩:=info_parts (show(Tryz.prog.info? 83).map (fun i=>(i.zero,i.size,i.bytes))=some (some (.slice none 0 0),1,24) by kernel_rfl)
 have hsl:∀(t b:Nat) (w:World),t<=4->(Instr.sliceAt 213 (.pointer (some ⟨b,0,none⟩)) none (some (.int .i64 t)) none).run Tryz.prog w=.ok (.slice (some ⟨b,0,none⟩) t 4) w:=by
  intro t b w h;rcases(show t=0\/t=1\/t=2\/t=3\/t=4 by omega)with rfl|rfl|rfl|rfl|rfl<;>kernel_rfl
 have HC:=qb hc;have QiE:=qb xB;have HH:=qb hh;have hlt:=hc.lt;have c0:=hc.c0;have j9:=hc.few;have hnl:=qeb hc.fit hs;have hel:=Tm.qdJ hc.fit (zq lns s);obtain⟨t,ht⟩:∃t:Nat,st.toNat=t:=⟨_,rfl⟩
 have ht4:t<=4:=by omega
 have ht0:1<=t:=by omega
 have qzd:st=(t:Int):=by omega
 have HT:=qb ht;have hsl:=fun b w=>hsl t b w ht4;clear hc xB hh ht;subst qzd;clear hst;obtain⟨N,hN⟩:∃N,zq lns s=N:=⟨_,rfl⟩
 have HNN:=qb hN;rw[hN]at hnl hel;rw[hN];obtain⟨E,hE⟩:∃E,Tm.elements lns N=E:=⟨_,rfl⟩
 have HE:=qb hE;rw[hE]at hel;clear hN hE;go_enter Tryz.func92,Tryz.ntmps92
 go_wp2_with fail
 refine(qbU lns HC.out.fit QiE.out bm s _ hs HC.out.rd).mono ?_;rintro e w1 ⟨v1,rfl,yC,hb1⟩;rw[HNN.out]at yC;have HR1:=qb (Reads.qn yC);obtain⟨an,cn,rfl⟩:=(Reads.qn yC).shape;have HB1:=qb hb1;have hz1:=hb1.size;have HC1:=qb (HC.out.below hb1);have c01:=HC1.out.c0;clear yC hb1 c0;go_wp2_with fail
 refine(qf1 lns bm _ N _ HC1.out.rd HR1.out (by rw[<-HNN.out];exact qkn lns s) (by rw[<-HNN.out];exact qat HC.out.fit s) (by omega) j9 HC.out.fit).mono ?_;rintro e w2 ⟨v2,rfl,yx,hb2⟩;rw[HE.out]at yx;have HR2:=qb (Reads.qn yx);obtain⟨ae,ce,rfl⟩:=(Reads.qn yx).shape;have HB2:Hid (Below w.heap.size w w2):=HB1.out.trans (hb2.mono hz1);have hz2:=hb2.size;have Qw5:=qb (HR1.out.below hb2 HR1.out.2.1);have HC2:=qb (HC1.out.below hb2);clear yx hb2 c01;go_wp2_with fail
 refine(qlP _ E _ HR2.out (by omega)).mono ?_;rintro e w3 ⟨vs,rfl,hl3,hb3⟩;have HL3:=qb hl3;have HB3:Hid (Below w.heap.size w w3):=HB2.out.trans (hb3.mono (by omega));have hz3:=hb3.size;have QhS:=qb (Qw5.out.below hb3 Qw5.out.2.1);have HR3:=qb (HR2.out.below hb3 HR2.out.2.1);have HC3:=qb (HC2.out.below hb3);have yL:∀j,j<4->∃aj cj,vs j=.slice aj (Tm.level false E j).length cj:=fun j hj=>(Reads.qn (hl3 j hj)).shape;obtain⟨a0,k0,h0⟩:=yL 0 (by omega);obtain⟨a1,k1,h1⟩:=yL 1 (by omega);obtain⟨a2,k2,h2⟩:=yL 2 (by omega);obtain⟨a3,k3,h3⟩:=yL 3 (by omega);have HV:=qb (And.intro h0 (And.intro h1 (And.intro h2 h3)));rw[h0,h1,h2,h3];clear yL hl3 hb3;have hbx:Below w3.heap.size w3 (w3.alloc (.cells #[.slice a0 (Tm.level false E 0).length k0,.slice a1 (Tm.level false E 1).length k1,.slice a2 (Tm.level false E 2).length k2,.slice a3 (Tm.level false E 3).length k3] 213)):=(Below.refl _ _).alloc (Nat.le_refl _) _;have HBX:=qb hbx
 have qA2:bc<w3.heap.size:=by omega
 have d2:=HC3.out.c2;have d1:=HC3.out.c1;clear hbx h0 h1 h2 h3;obtain⟨W5,hW5⟩:∃W5,w3.alloc (.cells #[.slice a0 (Tm.level false E 0).length k0,.slice a1 (Tm.level false E 1).length k1,.slice a2 (Tm.level false E 2).length k2,.slice a3 (Tm.level false E 3).length k3] 213)=W5:=⟨_,rfl⟩
 rw[hW5]at HBX
 have hz5:W5.heap.size=w3.heap.size+1:=by rw[<-hW5];simp
 have q0:W5.cell? ⟨w3.heap.size,0,none⟩=some (.slice a0 (Tm.level false E 0).length k0):=by rw[<-hW5,ql rfl];rfl
 have q1:W5.cell? ⟨w3.heap.size,1,none⟩=some (.slice a1 (Tm.level false E 1).length k1):=by rw[<-hW5,ql rfl];rfl
 have q2:W5.cell? ⟨w3.heap.size,2,none⟩=some (.slice a2 (Tm.level false E 2).length k2):=by rw[<-hW5,ql rfl];rfl
 have q3:W5.cell? ⟨w3.heap.size,3,none⟩=some (.slice a3 (Tm.level false E 3).length k3):=by rw[<-hW5,ql rfl];rfl
 have qf:∀o,W5.frozen? ⟨w3.heap.size,o,none⟩=false:=fun o=>by rw[<-hW5,zx rfl]
 have HC5:=qb (HC3.out.below HBX.out);have d25:=HC5.out.c2;have d15:=HC5.out.c1;clear d1 d2;cases sh
 ·have HRD:Hid (Reads W5 (.slice (some ⟨w3.heap.size,0,none⟩) t 4) 1 ((List.range t).map vs).length ((List.range t).map vs)):=qiD ht4 (by omega) (xC (by rw[HV.out.1];exact q0) (by rw[HV.out.2.1];exact q1) (by rw[HV.out.2.2.1];exact q2) (by rw[HV.out.2.2.2];exact q3));have HL5:=qb (HL3.out.below HBX.out);have QtC:=qb (QhS.out.below HBX.out QhS.out.2.1);have HB5:Hid (Below w.heap.size w W5):=HB3.out.trans (HBX.out.mono (by omega));clear q0 q1 q2 q3 qf
  have qlQ:∀u∈(List.range t).map vs,u.oneCell'=true:=by
   intro u hu;obtain⟨j,hj,rfl⟩:=List.mem_map.1 hu;have hj':=List.mem_range.1 hj;obtain⟨aj,cj,h⟩:=(Reads.qn (HL5.out j (by omega))).shape;rw[h];rfl
  have QhT:=qb qlQ;clear qlQ;go_wp2_with fail
  refine(QiF _ ((List.range t).map vs) _ HRD.out QhT.out (by simp;omega)).mono ?_;rintro e w6 ⟨v6,rfl,xD,hb6⟩;have hz6:=hb6.size;have HL6:=qb (HL5.out.below hb6);have QtD:=qb (QtC.out.below hb6 QtC.out.2.1);have HB6:Hid (Below w.heap.size w w6):=HB5.out.trans (hb6.mono (by omega))
  have hlr:((List.range t).map vs).length=t:=by simp
  rw[hlr]at xD;obtain⟨a6,c6,rfl⟩:=(Reads.qn xD).shape;have HOF:=qb xD;have HO6:=qb (qco (jD:=w.heap.size) xD (by omega));clear xD hb6 hlr;go_wp2_with (at_builtin;go_must (refine wpList_append_own_at _ rfl _ _ 35 rfl w.heap.size 83 i1 (.slice none 0 0) 1 24 Tryz.underlying35 ki kz0 kz1 kz2 rfl (by decide) _ _ _ rfl (HO6.out.alloc _) ⟨w6.heap.size,0,none⟩ 1 1 [.slice an N.length cn] rfl rfl qbS (by intro u hu;simp at hu;subst hu;rfl) (by unfold maxLen;omega) (by omega) (by simp;omega) ?_))
  intro v7 w7 qeZ qe0 _ qtE;have hz7:=qe0.size;have hb7:∀g,g<W5.heap.size->w7.heap[g]?=w6.heap[g]?:=fun g hg=>(qe0.block g (by simp;omega) (fun h=>by have:=(HOF.out.lt g h.symm).1;omega)).trans (heap_alloc_old w6 _ (by omega))
  have qtF:w6.heap.size<=w7.heap.size:=by simp at hz7;omega
  have QN:Hid (JP w7 v7 (stands lns (t:Int) false N)):=by
   refine qlO (B:=w2.heap.size) (vs:=vs) (vn:=.slice an N.length cn) HT.out ht4 (Reads.qn qeZ) ?_ ?_
   ·intro j hj;have h:=HL6.out j hj;rw[HE.out];exact qO h (fun g hg=>hb7 g ((HL5.out j hj).lt g hg).2)
   ·exact QtD.out.jI qtF (fun g hg=>hb7 g (QtC.out.2.1 g hg))
  have HBF:Hid (Below w.heap.size w w7):=(HB6.out.alloc (by omega) _).grown qe0 (by simp;omega) (fun j hj=>(HO6.out.lt j hj).1);obtain⟨a7,c7,rfl⟩:=(Reads.qn qeZ).shape;clear qeZ qe0 qtE hb7;go_wp2;go_ret;exact⟨_,rfl,QN.out,HBF.out⟩
 ·have HR5:=qb (HR3.out.below HBX.out HR3.out.2.1);go_wp2_with fail
  refine(qfT _ E _ HR5.out (by omega) (by rw[<-HE.out];exact Tm.qlR HH.out N)).mono ?_;rintro e w8 ⟨us,rfl,hl8,hb8⟩;have hz8:=hb8.size
  have p0:w8.cell? ⟨w3.heap.size,0,none⟩=some (.slice a0 (Tm.level false E 0).length k0):=by rw[hb8.cell (p:=⟨w3.heap.size,0,none⟩) (by simp only;omega)];exact q0
  have p1:w8.cell? ⟨w3.heap.size,1,none⟩=some (.slice a1 (Tm.level false E 1).length k1):=by rw[hb8.cell (p:=⟨w3.heap.size,1,none⟩) (by simp only;omega)];exact q1
  have p2:w8.cell? ⟨w3.heap.size,2,none⟩=some (.slice a2 (Tm.level false E 2).length k2):=by rw[hb8.cell (p:=⟨w3.heap.size,2,none⟩) (by simp only;omega)];exact q2
  have p3:w8.cell? ⟨w3.heap.size,3,none⟩=some (.slice a3 (Tm.level false E 3).length k3):=by rw[hb8.cell (p:=⟨w3.heap.size,3,none⟩) (by simp only;omega)];exact q3
  have pf:∀o,w8.frozen? ⟨w3.heap.size,o,none⟩=false:=fun o=>by rw[hb8.frozen (p:=⟨w3.heap.size,o,none⟩) (by simp only;omega)];exact qf o
  have pf0:=pf 0;have pf1:=pf 1;have pf2:=pf 2;have pf3:=pf 3;have yL:∀j,j<4->∃aj cj,us j=.slice aj (Tm.level true E j).length cj:=fun j hj=>(Reads.qn (hl8 j hj)).shape;obtain⟨b0,m0,g0⟩:=yL 0 (by omega);obtain⟨b1,m1,g1⟩:=yL 1 (by omega);obtain⟨b2,m2,g2⟩:=yL 2 (by omega);obtain⟨b3,m3,g3⟩:=yL 3 (by omega);have hC8:=HC5.out.below hb8;have qw6:=(QhS.out.below HBX.out QhS.out.2.1).below hb8 (QhS.out.below HBX.out QhS.out.2.1).2.1;have hB8:Below w.heap.size w w8:=(HB3.out.trans (HBX.out.mono (by omega))).trans (hb8.mono (by omega));obtain⟨W9,hW9⟩:∃W9,xT w8 w3.heap.size (.slice b0 (Tm.level true E 0).length m0) (.slice b1 (Tm.level true E 1).length m1) (.slice b2 (Tm.level true E 2).length m2) (.slice b3 (Tm.level true E 3).length m3)=W9:=⟨_,rfl⟩
  have hz9:W9.heap.size=w8.heap.size:=by rw[<-hW9,qpD]
  have qpE:∀g,g≠w3.heap.size->W9.heap[g]?=w8.heap[g]?:=fun g hg=>by rw[<-hW9];exact qec hg
  have z:=qe1 (v0:=.slice b0 (Tm.level true E 0).length m0) (v1:=.slice b1 (Tm.level true E 1).length m1) (v2:=.slice b2 (Tm.level true E 2).length m2) (v3:=.slice b3 (Tm.level true E 3).length m3) p0 p1 p2 p3;rw[hW9]at z;have HRD:Hid (Reads W9 (.slice (some ⟨w3.heap.size,0,none⟩) t 4) 1 ((List.range t).map us).length ((List.range t).map us)):=qiD ht4 (by omega) (xC (by rw[g0];exact z.1) (by rw[g1];exact z.2.1) (by rw[g2];exact z.2.2.1) (by rw[g3];exact z.2.2.2));have HL9:Hid (Qdf W9 W5.heap.size us (fun k=>Tm.level true E k)):=fun j hj=>qO (hl8 j hj) (fun g hg=>qpE g (by have:=((hl8 j hj).lt g hg).1;omega));have QtG:Hid (Reads W9 (.slice an N.length cn) 1 N.length (ints N)):=qw6.jI (by omega) (fun g hg=>qpE g (by have:=QhS.out.2.1 g hg;omega))
  have HB9:Hid (Below w.heap.size w W9):=by unfold Hid;rw[<-hW9];exact qed hB8 (by omega)
  have d19:W9.cell? ⟨bc,1,none⟩=some (.int .i64 (t:Int)):=by rw[World.cell?_of_block (w:=w8) (qpE bc (by omega))];exact hC8.c1
  rw[g0,g1,g2,g3];unfold xT at hW9;have HW9:=qb hW9;clear hl8 hb8 z qpE hC8 qw6 hB8 hW9 yL q0 q1 q2 q3 qf pf g0 g1 g2 g3 d15 d25
  go_upto_region 6 with fail
  rw[HW9.out];clear p0 p1 p2 p3 pf0 pf1 pf2 pf3
  have qlQ:∀u∈(List.range t).map us,u.oneCell'=true:=by
   intro u hu;obtain⟨j,hj,rfl⟩:=List.mem_map.1 hu;have hj':=List.mem_range.1 hj;obtain⟨aj,cj,h⟩:=(Reads.qn (HL9.out j (by omega))).shape;rw[h];rfl
  have QhT:=qb qlQ;clear qlQ;go_wp2_with fail
  refine(QiF _ ((List.range t).map us) _ HRD.out QhT.out (by simp;omega)).mono ?_;rintro e w6 ⟨v6,rfl,xD,hb6⟩;have hz6:=hb6.size;have HL6:=qb (HL9.out.below hb6);have QtD:=qb (QtG.out.below hb6 QtG.out.2.1);have HB6:Hid (Below w.heap.size w w6):=HB9.out.trans (hb6.mono (by omega))
  have hlr:((List.range t).map us).length=t:=by simp
  rw[hlr]at xD;obtain⟨a6,c6,rfl⟩:=(Reads.qn xD).shape;have HOF:=qb xD;have HO6:=qb (qco (jD:=w.heap.size) xD (by omega));clear xD hb6 hlr;go_wp2_with (at_builtin;go_must (refine wpList_append_own_at _ rfl _ _ 35 rfl w.heap.size 83 i1 (.slice none 0 0) 1 24 Tryz.underlying35 ki kz0 kz1 kz2 rfl (by decide) _ _ _ rfl (HO6.out.alloc _) ⟨w6.heap.size,0,none⟩ 1 1 [.slice an N.length cn] rfl rfl qbS (by intro u hu;simp at hu;subst hu;rfl) (by unfold maxLen;omega) (by omega) (by simp;omega) ?_))
  intro v7 w7 qeZ qe0 _ qtE;have hz7:=qe0.size;have hb7:∀g,g<W9.heap.size->w7.heap[g]?=w6.heap[g]?:=fun g hg=>(qe0.block g (by simp;omega) (fun h=>by have:=(HOF.out.lt g h.symm).1;omega)).trans (heap_alloc_old w6 _ (by omega))
  have qtF:w6.heap.size<=w7.heap.size:=by simp at hz7;omega
  have QN:Hid (JP w7 v7 (stands lns (t:Int) true N)):=by
   refine qlO (B:=W5.heap.size) (vs:=us) (vn:=.slice an N.length cn) HT.out ht4 (Reads.qn qeZ) ?_ ?_
   ·intro j hj;have h:=HL6.out j hj;rw[HE.out];exact qO h (fun g hg=>hb7 g ((HL9.out j hj).lt g hg).2)
   ·exact QtD.out.jI qtF (fun g hg=>hb7 g (QtG.out.2.1 g hg))
  have HBF:Hid (Below w.heap.size w w7):=(HB6.out.alloc (by omega) _).grown qe0 (by simp;omega) (fun j hj=>(HO6.out.lt j hj).1);obtain⟨a7,c7,rfl⟩:=(Reads.qn qeZ).shape;clear qeZ qe0 qtE hb7;go_wp2;go_ret;exact⟨_,rfl,QN.out,HBF.out⟩
namespace Tm
variable {a b:List Int}{k:Nat}
theorem qrQ(ha:k<a.length)(hb:k<b.length):cmpL (a.drop k) (b.drop k)=if a[k]<b[k]then -1 else if b[k]<a[k]then 1 else cmpL (a.drop (k+1)) (b.drop (k+1)):=by
 rw[List.drop_eq_getElem_cons ha,List.drop_eq_getElem_cons hb,cmpL]
theorem qrR(ha:k<a.length)(hb:b.length<=k):cmpL (a.drop k) (b.drop k)=1:=by
 rw[List.drop_eq_getElem_cons ha,List.drop_of_length_le hb,cmpL]
theorem qtH(ha:a.length<=k):cmpL (a.drop k) (b.drop k)=if k<b.length then -1 else 0:=by
 rw[List.drop_of_length_le ha];split
 ·rename_i h;rw[List.drop_eq_getElem_cons h,cmpL]
 ·rename_i h;rw[List.drop_of_length_le (by omega),cmpL]
theorem qpF{a b:List (List Int)}(ha:k<a.length)(hb:k<b.length):zu (a.drop k) (b.drop k)=if cmpL a[k] b[k]=0 then zu (a.drop (k+1)) (b.drop (k+1))else cmpL a[k] b[k]:=by
 rw[List.drop_eq_getElem_cons ha,List.drop_eq_getElem_cons hb,zu]
theorem qpG{a b:List (List Int)}(ha:k<a.length)(hb:b.length<=k):zu (a.drop k) (b.drop k)=1:=by
 rw[List.drop_eq_getElem_cons ha,List.drop_of_length_le hb,zu]
theorem qrS{a b:List (List Int)}(ha:a.length<=k):zu (a.drop k) (b.drop k)=if k<b.length then -1 else 0:=by
 rw[List.drop_of_length_le ha];split
 ·rename_i h;rw[List.drop_eq_getElem_cons h,zu]
 ·rename_i h;rw[List.drop_of_length_le (by omega),zu]
end Tm
theorem QhU(va vb:Value)(a b:List Int)(w:World)(ha:Reads w va 1 a.length (ints a))(hb:Reads w vb 1 b.length (ints b))(_hla:a.length<=1000000)(_hlb:b.length<=1000000) :
  Calls Tryz.prog 93 #[va,vb] w fun e w'=>e=.returned (.int .i64 (Tm.cmpL a b))/\w'=w:=by
 obtain⟨aa,ca,rfl⟩:=ha.shape;obtain⟨ab,cb,rfl⟩:=hb.shape;have HA:=qb ha;have HB:=qb hb;obtain⟨n,hn⟩:∃n,a.length=n:=⟨_,rfl⟩
 obtain⟨m,hm⟩:∃m,b.length=m:=⟨_,rfl⟩
 have HN:=qb hn;have HM:=qb hm;rw[hn]at _hla HA;rw[hm]at HB;rw[hn,hm];clear ha hb hn hm;go_enter Tryz.func93,Tryz.ntmps93
 go_wp2_with fail
 go_loopw [11] (fun i wr=>∃k:Nat,k<=n/\k<=m/\i=.int .i64 k/\Tm.cmpL a b=Tm.cmpL (a.drop k) (b.drop k)/\wr=w) (fun i _=>n-(intOf i).toNat)
 case atStart=>exact⟨0,Nat.zero_le _,Nat.zero_le _,rfl,rfl,rfl⟩
 case round =>
  obtain⟨k,hk,hkm,rfl,hcm,rfl⟩:=hrel;have HCM:=qb hcm;clear hcm;by_cases hlt:k<n
  ·have yo:k<a.length:=by rw[HN.out];exact hlt
   obtain⟨g,off,rfl,hg,ck⟩:=Reads.at (by rw[HN.out];exact HA.out) yo
   have i1:(0:Int)<=(k:Int):=by omega
   have i2:(k:Int)<(n:Int):=by omega
   by_cases hlm:k<m
   ·have qjE:k<b.length:=by rw[HM.out];exact hlm
    obtain⟨gb,ob,rfl,hgb,cbk⟩:=Reads.at (by rw[HM.out];exact HB.out) qjE
    have i3:(k:Int)<(m:Int):=by omega
    have HST:=qb (Tm.qrQ yo qjE);generalize a[k]=x at *;generalize b[k]=y at *;go_wp2_with fail
    refine(Qhh x y _).mono ?_;rintro e w1 ⟨rfl,rfl⟩;by_cases h1:x<y
    ·have hc:yh x y=-1:=by unfold yh;rw[if_pos h1]
     rw[hc];clear hc;go_wp2;go_ret;exact⟨yf (by rw[HCM.out,HST.out,if_pos h1]),rfl⟩
    ·by_cases h2:y<x
     ·have hc:yh x y=1:=by unfold yh;rw[if_neg h1,if_pos h2]
      rw[hc];clear hc;go_wp2;go_ret;exact⟨yf (by rw[HCM.out,HST.out,if_neg (by omega),if_pos h2]),rfl⟩
     ·have hc:yh x y=0:=by unfold yh;rw[if_neg h1,if_neg h2]
      rw[hc];clear hc;go_wp2;go_roundw
      case rel=>exact⟨k+1,by omega,by omega,by go_num,by rw[HCM.out,HST.out,if_neg (by omega),if_neg (by omega)],by first|rfl|trivial⟩
      case measure=>simp[intOf];omega
   ·have HST:=qb (Tm.qrR yo (show b.length<=k by rw[HM.out];omega));go_wp2;go_ret;exact⟨yf (by rw[HCM.out,HST.out]),rfl⟩
  ·have HST:=qb (Tm.qtH (b:=b) (show a.length<=k by rw[HN.out];omega));rw[HM.out]at HST;by_cases hnm:n<m
   ·go_wp2;go_ret;exact⟨yf (by rw[HCM.out,HST.out,if_pos (by omega)]),rfl⟩
   ·go_wp2;go_ret;exact⟨yf (by rw[HCM.out,HST.out,if_neg (by omega)]),rfl⟩
theorem JP.shape{w:World}{v:Value}{ls:List (List Int)}(h:JP w v ls):∃a cap,v=.slice a ls.length cap:=by
 obtain⟨vs,_,h2,_⟩:=h;exact h2.shape
theorem JP.at{w:World}{a:Option Addr}{m cap:Nat}{ls:List (List Int)}(h:JP w (.slice a m cap) ls){k:Nat}(hk:k<ls.length):∃g off x,a=some ⟨g,off,none⟩/\g<w.heap.size/\w.cell? ⟨g,off+k,none⟩=some x/\Reads w x 1 ls[k].length (ints ls[k]):=by
 obtain⟨vs,h1,h2,h3⟩:=h;obtain⟨g,off,z8,he,hg,hc⟩:=h2.form (by omega);cases he;exact⟨g,off,vs[k]'(by omega),rfl,hg,hc k _ (by simp[h1,hk]),h3 k _ _ (by simp[h1,hk]) (by simp[hk])⟩
theorem QiG(va vb:Value)(a b:List (List Int))(w:World)(ha:JP w va a)(hb:JP w vb b)(_hla:a.length<=1000)(_hlb:b.length<=1000)(hea:∀l∈a,l.length<=1000000)(heb:∀l∈b,l.length<=1000000) :
  Calls Tryz.prog 91 #[va,vb,.func (.func 93) #[] #[]] w fun e w'=>e=.returned (.int .i64 (Tm.zu a b))/\w'=w:=by
 obtain⟨aa,ca,rfl⟩:=ha.shape;obtain⟨ab,cb,rfl⟩:=hb.shape;have HA:=qb ha;have HB:=qb hb;have HEA:=qb hea;have HEB:=qb heb;obtain⟨n,hn⟩:∃n,a.length=n:=⟨_,rfl⟩
 obtain⟨m,hm⟩:∃m,b.length=m:=⟨_,rfl⟩
 have HN:=qb hn;have HM:=qb hm;rw[hn]at _hla HA;rw[hm]at HB;rw[hn,hm];clear ha hb hn hm hea heb;go_enter Tryz.func91,Tryz.ntmps91
 go_wp2_with fail
 go_loopw [13] (fun i wr=>∃k:Nat,k<=n/\k<=m/\i=.int .i64 k/\Tm.zu a b=Tm.zu (a.drop k) (b.drop k)/\wr=w) (fun i _=>n-(intOf i).toNat)
 case atStart=>exact⟨0,Nat.zero_le _,Nat.zero_le _,rfl,rfl,rfl⟩
 case round =>
  obtain⟨k,hk,hkm,rfl,hcm,rfl⟩:=hrel;have HCM:=qb hcm;clear hcm;by_cases hlt:k<n
  ·have yo:k<a.length:=by rw[HN.out];exact hlt
   obtain⟨g,off,xa,rfl,hg,ck,hra⟩:=HA.out.at yo;have HRA:=qb hra;have hlx:=HEA.out _ (List.getElem_mem yo);obtain⟨a1,c1,rfl⟩:=hra.shape
   have i1:(0:Int)<=(k:Int):=by omega
   have i2:(k:Int)<(n:Int):=by omega
   clear hra;by_cases hlm:k<m
   ·have qjE:k<b.length:=by rw[HM.out];exact hlm
    obtain⟨gb,ob,xb,rfl,hgb,cbk,hrb⟩:=HB.out.at qjE;have HRB:=qb hrb;have hly:=HEB.out _ (List.getElem_mem qjE);obtain⟨a2,c2,rfl⟩:=hrb.shape
    have i3:(k:Int)<(m:Int):=by omega
    have HST:=qb (Tm.qpF yo qjE);have HRG:=qb (Tm.qe2 a[k] b[k]);clear hrb;generalize a[k]=x at *;generalize b[k]=y at *;go_wp2_with fail
    refine(QhU _ _ x y _ HRA.out HRB.out hlx hly).mono ?_;rintro e w1 ⟨rfl,rfl⟩;generalize Tm.cmpL x y=c at *;cases hc:(c != 0)
    ·have hc0:c=0:=by simpa using hc
     subst hc0;go_wp2;go_roundw
     case rel=>exact⟨k+1,by omega,by omega,by go_num,by rw[HCM.out,HST.out];simp,by first|rfl|trivial⟩
     case measure=>simp[intOf];omega
    ·have hc0:c≠0:=by simpa using hc
     have HC0:=qb hc0;clear hc0;go_wp2;go_ret;exact⟨yf (by rw[HCM.out,HST.out,if_neg HC0.out]),rfl⟩
   ·have HST:=qb (Tm.qpG yo (show b.length<=k by rw[HM.out];omega));go_wp2;go_ret;exact⟨yf (by rw[HCM.out,HST.out]),rfl⟩
  ·have HST:=qb (Tm.qrS (b:=b) (show a.length<=k by rw[HN.out];omega));rw[HM.out]at HST;by_cases hnm:n<m
   ·go_wp2;go_ret;exact⟨yf (by rw[HCM.out,HST.out,if_pos (by omega)]),rfl⟩
   ·go_wp2;go_ret;exact⟨yf (by rw[HCM.out,HST.out,if_neg (by omega)]),rfl⟩
def byteCells(l:List UInt8):List Value:=l.map fun c=>.int .u8 (c.toNat:Int)
theorem byteCells_length(l:List UInt8):(byteCells l).length=l.length:=by simp[byteCells]
theorem byteCells_append(a b:List UInt8):byteCells (a++b)=byteCells a++byteCells b:=by simp[byteCells]
theorem qpH{x:Int}(h1:0<=x)(h2:x<16777216):byteCells (Tm.yF x)=[.int .u8 (x / 65536),.int .u8 (x / 256 % 256),.int .u8 (x % 256)]:=by
 obtain⟨n,rfl⟩:∃n:Nat,x=n:=⟨x.toNat,by omega⟩
 have hn:n<16777216:=by omega
 have e1:(n / 65536) % 256=n / 65536:=Nat.mod_eq_of_lt (by omega);simp only[Tm.yF,byteCells,List.map_cons,List.map_nil,Int.toNat_natCast,UInt8.toNat_ofNat',Nat.reducePow];rw[e1];simp
theorem qdh(v:Value)(l:List UInt8)(x:Int)(B:Nat)(w:World)(qp:w.ownsRow B 5 1 v l.length (byteCells l))(hB:B<=w.heap.size)(hx:0<=x/\x<16777216)(hl:l.length<=100000000) :
  Calls Tryz.prog 149 #[v,.int .i64 x] w fun e w'=>∃v',e=.returned v'/\w'.ownsRow B 5 1 v' (l++Tm.yF x).length (byteCells (l++Tm.yF x))/\Below B w w':=by
 obtain⟨i0,hi,hz0,hz1,hz2⟩:=info_parts (show(Tryz.prog.info? 5).map (fun i=>(i.zero,i.size,i.bytes))=some (some (.int .u8 0),1,1) by kernel_rfl);obtain⟨av,cv,rfl⟩:=(Reads.qn qp).shape;have HO:=qb qp;obtain⟨h1,h2⟩:=hx;clear qp;go_enter Tryz.func149,Tryz.ntmps149
 have HN3:=qb (qpH h1 h2);go_wp2_with (at_builtin;go_must (refine wpList_append_own_at _ rfl _ _ 177 rfl B 5 i0 (.int .u8 0) 1 1 Tryz.underlying177 hi hz0 hz1 hz2 rfl (by decide) _ _ _ rfl (HO.out.alloc _) ⟨w.heap.size,0,none⟩ 3 3 [.int .u8 (x / 65536),.int .u8 (x / 256 % 256),.int .u8 (x % 256)] rfl rfl (qe3 rfl) (by intro u hu;simp at hu;rcases hu with rfl|rfl|rfl<;>rfl) (by unfold maxLen;omega) (by omega) (by simp;omega) ?_))
 intro v' w' j8 qw7 _ _
 have HO':Hid (w'.ownsRow B 5 1 v' (l++Tm.yF x).length (byteCells (l++Tm.yF x))):=by
  unfold Hid;rw[byteCells_append,HN3.out,List.length_append];exact j8
 have HB':Hid (Below B w w'):=((Below.refl _ _).alloc hB _).grown qw7 (by simp;omega) (fun k hk=>(HO.out.lt k hk).1);obtain⟨a',c',rfl⟩:=(Reads.qn j8).shape;clear j8 qw7;go_wp2;go_ret;exact⟨_,rfl,HO'.out,HB'.out⟩
namespace Tm
theorem qee(x:Int):(yF x).length=3:=rfl
theorem qf2(l:List Int):(l.flatMap yF).length=3 * l.length:=by
 induction l with
 | nil=>rfl
 | cons x r ih=>simp only[List.flatMap_cons,List.length_append,ih,qee,List.length_cons];omega
theorem qhi:∀{ls:List (List Int)},(∀l∈ls,l.length<=10000)->(yy ls).length<=30003 * ls.length
 | [],_=>by simp[yy]
 | l::r,h=>by
  have ih:=qhi (ls:=r) (fun l hl=>h l (by simp[hl]));have h1:=h l (by simp);simp only[yy,List.flatMap_cons,List.length_append,List.length_cons]at ih⊢;simp only[xZ,List.length_append,qf2,qee];omega
theorem qpI{ls:List (List Int)}{k:Nat}(h:k<ls.length):yy (ls.take (k+1))=yy (ls.take k)++xZ ls[k]:=by
 rw[List.take_succ_eq_append_getElem h,yy,List.flatMap_append];simp only[List.flatMap_cons,List.flatMap_nil,List.append_nil,yy]
theorem qpJ{l:List Int}{k:Nat}(h:k<l.length):(l.take (k+1)).flatMap yF=(l.take k).flatMap yF++yF l[k]:=by
 rw[List.take_succ_eq_append_getElem h,List.flatMap_append];simp only[List.flatMap_cons,List.flatMap_nil,List.append_nil]
end Tm
variable {s:ByteArray}{st:Int}{lns:List Tm.Ln}{sh:Bool}{n:List Int}
theorem qrT(v:Value)(ls:List (List Int))(w:World)(hr:JP w v ls)(hl:ls.length<=100)(hlen:∀l∈ls,l.length<=10000)(hsm:∀l∈ls,Tm.Small l)(hne:ls≠[]) :
  Calls Tryz.prog 109 #[v] w fun e w'=>∃s:ByteArray,s.data.toList=Tm.yy ls/\e=.returned (.string s)/\Below w.heap.size w w':=by
 obtain⟨a,cap,rfl⟩:=hr.shape;have HR:=qb hr;have XO:=qb hlen;have HSM:=qb hsm;obtain⟨n,hn⟩:∃n,ls.length=n:=⟨_,rfl⟩
 have HN:=qb hn;rw[hn]at hl HR;rw[hn]
 have HKL:Hid (∀k,(Tm.yy (ls.take k)).length<=3000300):=fun k=>by
  have h1:=Tm.qhi (ls:=ls.take k) (fun l hl=>hlen l (List.mem_of_mem_take hl))
  have h2:(ls.take k).length<=n:=by rw[List.length_take,HN.out];omega
  have h3:=Nat.mul_le_mul_left 30003 h2;omega
 have Qzf:Hid (0<(Tm.yy ls).length):=by
  cases ls with
  | nil=>exact absurd rfl hne
  | cons x r=>unfold Hid;simp only[Tm.yy,List.flatMap_cons,Tm.xZ,List.length_append,Tm.qee];omega
 clear hr hlen hsm hn hne;go_enter Tryz.func109,Tryz.ntmps109
 go_wp2_with fail
 go_loopw [3,10] (fun vk i wr=>∃k:Nat,k<=n/\i=.int .i64 k/\wr.ownsRow w.heap.size 5 1 vk (Tm.yy (ls.take k)).length (byteCells (Tm.yy (ls.take k)))/\Below w.heap.size w wr) (fun _ i _=>n-(intOf i).toNat)
 case atStart=>exact⟨0,Nat.zero_le _,rfl,World.ownsRow_nil _ _ _ _,Below.refl _ _⟩
 case round =>
  obtain⟨k,hk,rfl,qp,hb⟩:=hrel;have HO:=qb qp;have HB:=qb hb;have hz:=hb.size;clear qp hb;by_cases hlt:k<n
  ·have yo:k<ls.length:=by rw[HN.out];exact hlt
   obtain⟨g,off,x,rfl,hg,ck,hx⟩:=HR.out.at yo;rw[<-HB.out.cell (p:=⟨g,off+k,none⟩) hg]at ck;have hxl:=XO.out _ (List.getElem_mem yo);have hxs:=HSM.out _ (List.getElem_mem yo);have HSN:=qb (Tm.qpI yo);obtain⟨l,hl'⟩:∃l,ls[k]=l:=⟨_,rfl⟩
   rw[hl']at hx hxl hxs HSN;obtain⟨ax,cx,rfl⟩:=hx.shape;have HX:=qb hx;have HXS:=qb hxs;have hkl:=HKL.out k;obtain⟨m,hm⟩:∃m,l.length=m:=⟨_,rfl⟩
   have HM:=qb hm;rw[hm]at hxl ck HX;obtain⟨K,hK⟩:∃K,Tm.yy (ls.take k)=K:=⟨_,rfl⟩
   rw[hK]at HO HSN hkl
   have i1:(0:Int)<=(k:Int):=by omega
   have i2:(k:Int)<(n:Int):=by omega
   obtain⟨wo,hwo⟩:∃wo:World,wo=wr:=⟨_,rfl⟩
   rw[<-hwo]at HO HB hz ck⊢;clear hx hxs hl' hm hK hwo;go_wp2_with fail
   go_loopw [3,16] (fun vk i wr=>∃j:Nat,j<=m/\i=.int .i64 j/\wr.ownsRow w.heap.size 5 1 vk (K++(l.take j).flatMap Tm.yF).length (byteCells (K++(l.take j).flatMap Tm.yF))/\Below w.heap.size wo wr) (fun _ i _=>m-(intOf i).toNat)
   case atStart=>exact⟨0,Nat.zero_le _,rfl,by simpa using HO.out,Below.refl _ _⟩
   case round =>
    obtain⟨j,hj,rfl,yx,hb2⟩:=hrel;have HO2:=qb yx;have HB2:=qb hb2;have hz2:=hb2.size;clear yx hb2;have Qzg:Hid (Below w.heap.size w wr):=HB.out.trans HB2.out
    have hfl:((l.take j).flatMap Tm.yF).length<=30000:=by rw[Tm.qf2,List.length_take,HM.out];omega
    have hll:(K++(l.take j).flatMap Tm.yF).length<=100000000:=by rw[List.length_append];omega
    by_cases hjl:j<m
    ·have qtJ:j<l.length:=by rw[HM.out];exact hjl
     obtain⟨gx,ox,rfl,hgx,cx'⟩:=Reads.at (by rw[HM.out];exact HX.out.below Qzg.out HX.out.2.1) qtJ;have hyr:=HXS.out _ (List.getElem_mem qtJ);have HFS:=qb (Tm.qpJ qtJ)
     have i3:(0:Int)<=(j:Int):=by omega
     have i4:(j:Int)<(m:Int):=by omega
     generalize l[j]=y at *;go_wp2_with fail
     refine(qdh _ (K++(l.take j).flatMap Tm.yF) y w.heap.size _ HO2.out (by omega) hyr hll).mono ?_;rintro e w3 ⟨v3,rfl,zR,hb3⟩
     have HO3:Hid (w3.ownsRow w.heap.size 5 1 v3 (K++(l.take (j+1)).flatMap Tm.yF).length (byteCells (K++(l.take (j+1)).flatMap Tm.yF))):=by
      unfold Hid;rw[HFS.out,<-List.append_assoc];exact zR
     have HB3:=qb (HB2.out.trans hb3);clear zR hb3;go_wp2;go_roundw
     case rel=>exact⟨j+1,by omega,by go_num,HO3.out,HB3.out⟩
     case measure=>simp[intOf];omega
    ·have xU:l.take j=l:=List.take_of_length_le (by rw[HM.out];omega);rw[xU]at HO2 hll;clear xU;go_wp2_with fail
     refine(qdh _ (K++l.flatMap Tm.yF) 0 w.heap.size _ HO2.out (by omega) ⟨by omega,by omega⟩ hll).mono ?_;rintro e w3 ⟨v3,rfl,zR,hb3⟩
     have HO3:Hid (w3.ownsRow w.heap.size 5 1 v3 (Tm.yy (ls.take (k+1))).length (byteCells (Tm.yy (ls.take (k+1))))):=by
      unfold Hid;rw[HSN.out,Tm.xZ,<-List.append_assoc];exact zR
     have HB3:Hid (Below w.heap.size w w3):=HB.out.trans (HB2.out.trans hb3);clear zR hb3;go_wp2;go_roundw
     case rel=>exact⟨k+1,by omega,by go_num,HO3.out,HB3.out⟩
     case measure=>simp[intOf];omega
  ·have HE:Hid (Tm.yy (ls.take k)=Tm.yy ls):=by unfold Hid;rw[List.take_of_length_le (by rw[HN.out];omega)]
   rw[HE.out]at HO;obtain⟨a2,c2,h2⟩:=(Reads.qn HO.out).shape;subst h2;obtain⟨g2,o2,c3,he,hg2,hc2⟩:=(Reads.qn HO.out).form (by rw[byteCells_length];exact Qzf.out);cases he;have qAP:=run_convert_bytes_back (P:=Tryz.prog) wr 177 9 5 ⟨g2,o2,none⟩ c2 (Tm.yy ls) Tryz.underlying177 Tryz.underlying5 Tryz.underlying9 (fun j hj=>by rw[qbV];exact hc2 j _ (by simp[byteCells,hj]));clear hc2;go_wp2;go_ret;exact⟨_,by simp,rfl,HB.out⟩
structure Zt(st:Int)(lns:List Tm.Ln):Prop where
 ends:∀r,Tm.ends lns 4 r=true
 qpK:Tm.QdI lns
 st:1<=st/\st<=4
theorem Zt.of{s:List UInt8}(h:Tm.zH s st=(lns,0,0))(he:∀r,Tm.ends lns 4 r=true):Zt st lns:=⟨he,(Tm.qbW h).1,(Tm.qbW h).2⟩
theorem qdi(hf:∀o∈lns,Tm.Fit o)(hs:s.size<=64):∀l∈stands lns st sh (zq lns s),l.length<=10000:=by
 have h1:=qeb hf hs;have h2:=Tm.qdJ hf (zq lns s);intro l hl;rcases List.mem_append.1 hl with hl|hl
 ·obtain⟨k,_,rfl⟩:=List.mem_map.1 (List.mem_of_mem_take hl);have:(Tm.level sh (Tm.elements lns (zq lns s)) k).length<=(Tm.elements lns (zq lns s)).length:=Tm.qcR sh k _ _;omega
 ·rw[List.mem_singleton.1 hl];omega
theorem qcC(h:1<=st/\st<=4):(stands lns st sh n).length<=5:=by
 unfold stands;rw[List.length_append,vK h];simp;omega
theorem qlS(hf:∀o∈lns,Tm.Fit o):∀l∈stands lns st sh (zq lns s),Tm.Small l:=by
 intro l hl;rcases List.mem_append.1 hl with hl|hl
 ·exact(qbX hf (qat hf s) l hl).small
 ·rw[List.mem_singleton.1 hl];intro x hx;have:=qat hf s x hx;omega
theorem qrU:stands lns st sh n≠[]:=by simp[stands]
def qe(lns:List Tm.Ln)(st:Int)(sh:Bool)(a b:ByteArray):Int:=Tm.zu (stands lns st sh (zq lns a)) (stands lns st sh (zq lns b))
def keyBytes(lns:List Tm.Ln)(st:Int)(sh:Bool)(s:ByteArray):List UInt8:=Tm.yy (stands lns st sh (zq lns s))
theorem Qbj(lns:List Tm.Ln)(bc bm:Nat)(st:Int)(sh:Bool)(a b:ByteArray)(w:World)(hc:Jd w bc bm st sh lns)(hok:Zt st lns) :
  Calls Tryz.prog 45 #[.pointer (some ⟨bc,0,none⟩),.string a,.string b] w fun e w'=>e=.returned (if a.size<=64/\b.size<=64 then .tuple #[.int .i64 (qe lns st sh a b),.int .i64 0]else .tuple #[.int .i64 0,.int .i64 7])/\Below w.heap.size w w':=by
 have HC:=qb hc;have HOK:=qb hok;have HF:=qb hc.fit;clear hc hok;by_cases ha:a.size<=64
 ·have hda:decide (64<(a.size:Int))=false:=by simp<;>omega
  by_cases hb:b.size<=64
  ·have hdb:decide (64<(b.size:Int))=false:=by simp<;>omega
   rw[if_pos ⟨ha,hb⟩];go_enter Tryz.func45,Tryz.ntmps45
   go_wp2_with fail
   refine(jo a _).mono ?_;rintro e w0 ⟨rfl,rfl⟩;rw[hda];go_wp2_with fail
   refine(jo b _).mono ?_;rintro e w0 ⟨rfl,rfl⟩;rw[hdb];go_wp2_with fail
   refine(qdg lns bc bm st sh a _ HC.out HOK.out.ends HOK.out.qpK HOK.out.st ha).mono ?_;rintro e w1 ⟨v1,rfl,hr1,hb1⟩;have HR1:=qb hr1;have HB1:=qb hb1;have hz1:=hb1.size;clear hr1 hb1;go_wp2_with fail
   refine(qdg lns bc bm st sh b _ (HC.out.below HB1.out) HOK.out.ends HOK.out.qpK HOK.out.st hb).mono ?_;rintro e w2 ⟨v2,rfl,hr2,hb2⟩;have HR2:=qb hr2;have Qzh:=qb (HR1.out.below hb2);have HB2:=qb (HB1.out.trans (hb2.mono hz1));clear hr2 hb2;go_wp2_with fail
   refine(QiG _ _ _ _ _ Qzh.out HR2.out (by have:=qcC (lns:=lns) (sh:=sh) (n:=zq lns a) HOK.out.st;omega) (by have:=qcC (lns:=lns) (sh:=sh) (n:=zq lns b) HOK.out.st;omega) (fun l hl=>by have:=qdi HF.out ha l hl;omega) (fun l hl=>by have:=qdi HF.out hb l hl;omega)).mono ?_;rintro e w3 ⟨rfl,rfl⟩;go_wp2;go_ret2;exact⟨rfl,HB2.out⟩
  ·have hdb:decide (64<(b.size:Int))=true:=by simp<;>omega
   rw[if_neg (fun h=>hb h.2)];go_enter Tryz.func45,Tryz.ntmps45
   go_wp2_with fail
   refine(jo a _).mono ?_;rintro e w0 ⟨rfl,rfl⟩;rw[hda];go_wp2_with fail
   refine(jo b _).mono ?_;rintro e w0 ⟨rfl,rfl⟩;rw[hdb];go_wp2;go_ret2;exact⟨rfl,Below.refl _ _⟩
 ·have hda:decide (64<(a.size:Int))=true:=by simp<;>omega
  rw[if_neg (fun h=>ha h.1)];go_enter Tryz.func45,Tryz.ntmps45
  go_wp2_with fail
  refine(jo a _).mono ?_;rintro e w0 ⟨rfl,rfl⟩;rw[hda];go_wp2;go_ret2;exact⟨rfl,Below.refl _ _⟩
theorem YS(lns:List Tm.Ln)(bc bm:Nat)(st:Int)(sh:Bool)(s:ByteArray)(w:World)(hc:Jd w bc bm st sh lns)(hok:Zt st lns) :
  Calls Tryz.prog 65 #[.pointer (some ⟨bc,0,none⟩),.string s] w fun e w'=>e=.returned (if s.size<=64 then .tuple #[.string ⟨(keyBytes lns st sh s).toArray⟩,.int .i64 0]else .tuple #[.string ⟨#[]⟩,.int .i64 7])/\Below w.heap.size w w':=by
 have HC:=qb hc;have HOK:=qb hok;have HF:=qb hc.fit;clear hc hok;by_cases hs:s.size<=64
 ·have hd:decide (64<(s.size:Int))=false:=by simp<;>omega
  rw[if_pos hs];go_enter Tryz.func65,Tryz.ntmps65
  go_wp2_with fail
  refine(jo s _).mono ?_;rintro e w0 ⟨rfl,rfl⟩;rw[hd];go_wp2_with fail
  refine(qdg lns bc bm st sh s _ HC.out HOK.out.ends HOK.out.qpK HOK.out.st hs).mono ?_;rintro e w1 ⟨v1,rfl,hr1,hb1⟩;have HR1:=qb hr1;have HB1:=qb hb1;have hz1:=hb1.size;clear hr1 hb1;go_wp2_with fail
  refine(qrT _ _ _ HR1.out (by have:=qcC (lns:=lns) (sh:=sh) (n:=zq lns s) HOK.out.st;omega) (qdi HF.out hs) (qlS HF.out) qrU).mono ?_;rintro e w2 ⟨k,hk,rfl,hb2⟩
  have HK:Hid (k=⟨(keyBytes lns st sh s).toArray⟩):=by
   unfold Hid keyBytes;rw[<-hk]
  have HB2:=qb (HB1.out.trans (hb2.mono hz1));clear hk hb2;go_wp2;go_ret2;exact⟨by rw[HK.out];rfl,HB2.out⟩
 ·have hd:decide (64<(s.size:Int))=true:=by simp<;>omega
  rw[if_neg hs];go_enter Tryz.func65,Tryz.ntmps65
  go_wp2_with fail
  refine(jo s _).mono ?_;rintro e w0 ⟨rfl,rfl⟩;rw[hd];go_wp2;go_ret2;exact⟨rfl,Below.refl _ _⟩
def qbk(lns:List Tm.Ln)(s:ByteArray)(w:World)(e:Ending)(w':World):Prop :=
 if s.size<=64 then ∃v,e=.returned (.tuple #[v,.int .i64 0])/\w'.ownsRow w.heap.size 102 4 v (Tm.elements lns (zq lns s)).length (qG (Tm.elements lns (zq lns s)))/\Below w.heap.size w w'
 else e=.returned (.tuple #[.slice none 0 0,.int .i64 7])/\w'=w
theorem QhV(lns:List Tm.Ln)(bc bm:Nat)(st:Int)(sh:Bool)(s:ByteArray)(w:World)(hc:Jd w bc bm st sh lns)(hok:Zt st lns) :
  Calls Tryz.prog 40 #[.pointer (some ⟨bc,0,none⟩),.string s] w fun e w'=>qbk lns s w e w':=by
 have HC:=qb hc;have HOK:=qb hok;have HF:=qb hc.fit;have hlt:=hc.lt;have c0:=hc.c0;have j9:=hc.few;clear hc hok;by_cases hs:s.size<=64
 ·have hd:decide (64<(s.size:Int))=false:=by simp<;>omega
  have hnl:=qeb HF.out hs;go_enter Tryz.func40,Tryz.ntmps40
  go_wp2_with fail
  refine(jo s _).mono ?_;rintro e w0 ⟨rfl,rfl⟩;rw[hd];go_wp2_with fail
  go_region_with (first|(go_at_call 86;refine(qbU lns HF.out HOK.out.ends bm s _ hs (HC.out.below (Below.refl _ _).drew).rd).mono ?_;rintro e w1 ⟨v1,rfl,yC,hb1⟩;have HR1:=qb (Reads.qn yC);have HB1:=qb hb1;have hz1:=hb1.size;have c01:=(hb1.cell (p:=⟨bc,0,none⟩) (by exact hlt)).trans c0;have HC1:=qb ((HC.out.below (Below.refl _ _).drew).below hb1);clear yC hb1)|(go_at_call 85;refine(qf1 lns bm _ (zq lns s) _ HC1.out.rd HR1.out (qkn lns s) (qat HF.out s) (by omega) j9 HF.out).mono ?_;rintro e w2 ⟨v2,rfl,yx,hb2⟩))
  all_goals
   have QN:Hid (qbk lns s w0 (.returned (.tuple #[v2,.int .i64 0])) w2):=by
    unfold Hid qbk;rw[if_pos hs];exact⟨v2,rfl,qco yx (by exact hz1),((Below.refl _ _).drew.trans HB1.out).trans (hb2.mono (by exact hz1))⟩
   clear yx hb2;go_wp2;go_ret2;exact QN.out
 ·have hd:decide (64<(s.size:Int))=true:=by simp<;>omega
  go_enter Tryz.func40,Tryz.ntmps40
  go_wp2_with fail
  refine(jo s _).mono ?_;rintro e w0 ⟨rfl,rfl⟩;rw[hd];go_wp2;go_ret2;unfold qbk;rw[if_neg hs];exact⟨rfl,rfl⟩
