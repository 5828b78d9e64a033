import Derived.Test.YtmnjjjhmnhfapaaGreatDoorMCodeGrow
import Derived.Test.YtmnjjjhmnhfapaaGreatDoorMCodeWeighE
import Derived.Test.YtmnjjjhmnhfapaaGreatDoorMCodeArr
namespace Go.Proofs.YtmnjjjhmnhfapaaGreatDoor
set_option maxRecDepth 100000
set_option maxHeartbeats 4000000
open Go.RowKit
variable {w w':World}{B bl:Nat}{vs:Nat->Value}{L:Nat->List Int}
theorem qr7{lns:List Tm.Ln}(hf:∀o∈lns,Tm.Fit o)(q:List Int):0<(Tm.yX lns q).length/\(Tm.yX lns q).length<=4:=by
 unfold Tm.yX
 cases h:Tm.yD lns q with
 | none=>simp[Tm.implicit]
 | some e=>exact qks hf h
theorem qiQ(a b:List Tm.El):qG (a++b)=qG a++qG b:=by simp[qG]
theorem ql9(l:List Tm.El):∀u∈qG l,u.oneCell'=true:=by
 intro u hu;simp only[qG,List.mem_flatMap]at hu;obtain⟨x,_,hx⟩:=hu;simp[yJ]at hx;rcases hx with rfl|rfl|rfl|rfl<;>rfl
def Qxn(w:World)(B:Nat)(ve:Value)(v:Value)(l:List Int):Prop :=
 ∃a cap,v=.slice a l.length cap/\(l=[]\/∃gr off,a=some ⟨gr,off,none⟩/\B<=gr/\gr<w.heap.size/\Qo w gr off l/\ve.ownBlock≠some gr/\l.length<=cap/\cap<=maxLen)
structure Qp5(lns:List Tm.Ln)(B:Nat)(l:List Int)(w0 w:World)(ve v:Value)(ds:List Tm.El)(l':List Int):Prop where
 same:Tm.elements lns l=ds++Tm.elements lns l'
 own:w.ownsRow B 102 4 ve ds.length (qG ds)
 rest:Qxn w B ve v l'
 calm:Tm.Calm (Tm.qd lns) l'
 rr:∀x∈l',0<=x/\x<=1114111
 few:ds.length+4 * l'.length<=4 * l.length
 below:Below B w0 w
theorem qf1(lns:List Tm.Ln)(bm:Nat)(v:Value)(l:List Int)(w:World)(hrd:ZX w bm lns)(hr:Reads w v 1 l.length (ints l))(qcO:Tm.Calm (Tm.qd lns) l)(hrg:∀r∈l,0<=r/\r<=1114111)(hl:l.length<=100000)(hn:lns.length<=8192)(hf:∀o∈lns,Tm.Fit o) :
  Calls Tryz.prog 85 #[.map (some bm),v] w fun e w'=>∃v',e=.returned v'/\w'.ownsRow w.heap.size 102 4 v' (Tm.elements lns l).length (qG (Tm.elements lns l))/\Below w.heap.size w w':=by
 obtain⟨i0,hi,hz0,hz1,hz2⟩:=info_parts Tryz.qbR;obtain⟨i1,ki,kz0,kz1,kz2⟩:=info_parts Tryz.qr8
 have hmk:∀w:World,(Instr.makeSlice 83 (.int .i64 0) (.int .i64 3)).run Tryz.prog w=.ok (.slice (some ⟨w.heap.size,0,none⟩) 0 3) (w.alloc (.cells #[.int .i64 0,.int .i64 0,.int .i64 0] 3)):=fun _=>by kernel_rfl
 obtain⟨av,cv,rfl⟩:=hr.shape;have HN:Hid (NB lns bm w.heap.size w):=⟨w,hrd,Below.refl _ _,Nat.le_refl _⟩
 have HR:=qb hr;have QyD:=qb qcO;have HRG:=qb hrg;have HF:=qb hf;clear hrd hr qcO hrg hf;go_enter Tryz.func85,Tryz.ntmps85
 go_wp2_with fail
 refine(Qp6 _ l _ HR.out (by omega)).mono ?_;rintro e w1 ⟨v1,rfl,yC,hb1⟩
 have HST:Hid (Qp5 lns w.heap.size l w w1 (.slice none 0 0) v1 [] l):=by
  refine⟨rfl,World.ownsRow_nil _ _ _ _,?_,QyD.out,HRG.out,by simp,hb1⟩;obtain⟨a1,c1,rfl⟩:=(Reads.qn yC).shape;refine⟨a1,c1,rfl,?_⟩;rcases yC.2 with⟨h1,h2⟩|⟨g,c,cur,h1,hg,_⟩
  ·left;exact List.eq_nil_of_length_eq_zero h2
  ·right;cases h1;exact⟨g,0,rfl,hg,(yC.lt g rfl).2,qdK yC,by simp[Value.ownBlock],(Reads.qn yC).fits.2⟩
 clear yC hb1;go_wp2_with fail
 go_loopw [5,6] (fun ve vr wr=>∃ds l',Qp5 lns w.heap.size l w wr ve vr ds l') (fun _ vr _=>qjO vr)
 case atStart=>exact⟨[],l,HST.out⟩
 case round =>
  obtain⟨ds,l',hst⟩:=hrel;have HS:=qb hst;obtain⟨a,cap,rfl,qfd⟩:=hst.rest;obtain⟨ae,ce,rfl⟩:=(Reads.qn hst.own).shape;have j9:=hst.few;have hzr:=hst.below.size;clear hst;obtain⟨m,hm⟩:∃m,l'.length=m:=⟨_,rfl⟩
  have HM:=qb hm;rw[hm]at j9;rw[hm];clear hm;by_cases h0:0<m
  ·have hne:l'≠[]:=fun h=>by have:=HM.out;rw[h]at this;simp at this;omega
   obtain⟨gr,off,rfl,hgr,qt0,hI,hve,hc1,hc2⟩:=qfd.resolve_left hne;rw[HM.out]at hc1;have HI:=qb hI;have HC2:=qb hc2;have HNE:=qb hne
   have HRD:Hid (Reads wr (.slice (some ⟨gr,off,none⟩) m cap) 1 l'.length (ints l')):=by unfold Hid;rw[HM.out];exact hI.reads qt0 HM.out hc1 hc2
   have HNr:=qb (HN.out.below HS.out.below);clear qfd hI hc2 hne;go_wp2_with fail
   refine(qn0 lns bm _ l' _ HNr.out.rd HRD.out (by rw[HM.out];exact h0) HS.out.rr (by rw[HM.out];omega) hn HF.out).mono ?_;rintro e w2 ⟨rfl,hb2⟩;have HB2:=qb hb2;have qzx:=hb2.size;obtain⟨n,hn'⟩:∃n,Tm.lead lns l'=n:=⟨_,rfl⟩
   have hnp:=Tm.qh9 lns l';have hn3:=Tm.qp7 lns l';have hnm:=Tm.qjP (lns:=lns) HNE.out;rw[HM.out]at hnm;rw[hn']at hnp hn3 hnm;have HL:=qb hn';rw[hn'];clear hb2 hn'
   have j1:(0:Int)<=(n:Int):=by omega
   have j2:(n:Int)<=(cap:Int):=by omega
   have j3:(n:Int)<=(m:Int):=by omega
   have hlt:(l'.take n).length=n:=by rw[List.length_take,HM.out];omega
   have Qzy:Hid (∀j u,(ints (l'.take n))[j]?=some u->(w2.alloc (.cells #[.int .i64 0,.int .i64 0,.int .i64 0] 3)).cell? ((⟨gr,off,none⟩:Addr).add j)=some u):=fun j u hu=>by
    rw[qbV,qJ (by omega),HB2.out.cell (p:=⟨gr,off+j,none⟩) qt0];simp only[ints,List.getElem?_map,Option.map_eq_some_iff]at hu;obtain⟨x,hx,rfl⟩:=hu;refine(HI.out j x ?_).1;rw[List.getElem?_take]at hx;split at hx
    ·exact hx
    ·cases hx
   have HSP:Hid (∀j,j<(ints (l'.take n)).length->((w2.alloc (.cells #[.int .i64 0,.int .i64 0,.int .i64 0] 3)).cell? ⟨w2.heap.size,0+0 * 1+j,none⟩).isSome=true/\(w2.alloc (.cells #[.int .i64 0,.int .i64 0,.int .i64 0] 3)).frozen? ⟨w2.heap.size,0+0 * 1+j,none⟩=false):=fun j hj=>by
    rw[zw,hlt]at hj;rw[ql rfl,zx rfl];refine⟨?_,rfl⟩;rcases(show j=0\/j=1\/j=2 by omega)with rfl|rfl|rfl<;>rfl
   have HLT:=qb hlt
   have HL1:Hid ((ints (l'.take n)).length=n * 1):=by unfold Hid;rw[zw,HLT.out,Nat.mul_one]
   clear hlt
   have Qxo:Hid (Value.slice (some ⟨w2.heap.size,0,none⟩) n 3=.slice (some ⟨w2.heap.size,0,none⟩) n 3/\Room ((w2.alloc (.cells #[.int .i64 0,.int .i64 0,.int .i64 0] 3)).drew.setCells w2.heap.size 0 (ints (l'.take n))) w2.heap.size (l'.take n)/\Below w2.heap.size w2 ((w2.alloc (.cells #[.int .i64 0,.int .i64 0,.int .i64 0] 3)).drew.setCells w2.heap.size 0 (ints (l'.take n)))/\w2.heap.size<((w2.alloc (.cells #[.int .i64 0,.int .i64 0,.int .i64 0] 3)).drew.setCells w2.heap.size 0 (ints (l'.take n))).heap.size):=by
    refine⟨rfl,?_,?_,?_⟩
    ·have h0:Qo (w2.alloc (.cells #[.int .i64 0,.int .i64 0,.int .i64 0] 3)).drew w2.heap.size 0 [0,0,0]:=by
      intro j x hx;have hj:=(List.getElem?_eq_some_iff.1 hx).1;simp at hj;show(w2.alloc _).cell? _=_/\(w2.alloc _).frozen? _=_;rw[ql rfl,zx rfl];refine⟨?_,rfl⟩;rcases(show j=0\/j=1\/j=2 by omega)with rfl|rfl|rfl<;>(simp at hx;subst hx;rfl)
     have h1:=Qo.put (k:=0) (news:=l'.take n) h0 (by rw[HLT.out];simp;omega);refine⟨[0,0,0].drop n,by simp[HLT.out];omega,?_⟩;simpa[HLT.out]using h1
    ·exact(QB.setCells (QB.of ((Below.refl w2.heap.size w2).alloc (Nat.le_refl _) _)).drew _ _ (by simp[World.drew])).below (Nat.le_refl _) (Nat.le_refl _)
    ·rw[(qS _ _ _ _).1];simp[World.drew]
   go_upto_region 5 with fail
   go_cut [8]from 11 to 21 (fun t wx=>t=.slice (some ⟨w2.heap.size,0,none⟩) n 3/\Room wx w2.heap.size (l'.take n)/\Below w2.heap.size w2 wx/\w2.heap.size<wx.heap.size)
   case first =>
    go_region_law (refine step_append_room rfl (.tmp 17) (.tmp 20) 83 rfl 3 i0 1 Tryz.underlying83 hi hz1 w2.heap.size 0 0 3 (by simp[Act.eval]) ⟨gr,off,none⟩ n cap (ints (l'.take n)) (by simp[Act.eval]) HL1.out Qzy.out (fun u hu=>qia u hu) (by omega) HSP.out ?_)
    all_goals(go_wp2_with fail;go_meet;exact⟨rfl,Qxo.out.2⟩)
   case rest =>
    obtain⟨rfl,qaQ,hbc,hzc⟩:=hcut
    have hgs:w.heap.size<=w2.heap.size:=by omega
    have hkr:wc.heap[gr]?=wr.heap[gr]?:=(hbc.block gr (by omega)).trans (HB2.out.block gr qt0);have qBc:=hbc.size
    obtain⟨j0,hA,hI'⟩:∃j0,(if cap=n then some (⟨gr,off,none⟩:Addr)else some ⟨gr,off+n,none⟩)=some ⟨gr,j0,none⟩/\Qo wc gr j0 (l'.drop n):=by
     by_cases h:cap=n
     ·refine⟨off,by rw[if_pos h],fun j x hx=>?_⟩;have:=(List.getElem?_eq_some_iff.1 hx).1;rw[List.length_drop,HM.out]at this;omega
     ·refine⟨off+n,by rw[if_neg h],fun j x hx=>?_⟩;have:=(HI.out.jb hkr) (n+j) x (by rw[List.getElem?_drop]at hx;exact hx);rw[Nat.add_assoc];exact this
    have hdl:(l'.drop n).length=m-n:=by rw[List.length_drop,HM.out]
    have HNc:Hid (NB lns bm w.heap.size wc):=HNr.out.below ((HB2.out.mono hzr).trans (hbc.mono hgs))
    have HG:=qb (qtV lns bm w.heap.size w2.heap.size gr j0 (cap-n) (l'.take n) (l'.drop n) wc HNc.out hgs hgr (by omega)
     ⟨rfl,qaQ,hI',Tm.qkt HS.out.calm n,(fun y hy=>by cases hy),by rw[HLT.out];omega,by rw[HLT.out];omega,fun x hx=>HS.out.rr x (List.mem_of_mem_take hx),fun x hx=>HS.out.rr x (List.mem_of_mem_drop hx),by simp,Two.refl _ _ _,hzc,by omega⟩ (by rw[hdl];have:=HC2.out;omega) (by rw[hdl];omega) hn HF.out (by omega))
    rw[HLT.out,hdl]at HG;have Qg2:=qb (Tm.qfK (lns:=lns) HNE.out);rw[HL.out]at Qg2;have hgl:=Tm.qaF lns (l'.drop n) (l'.take n) [];have qt1:=Tm.qcq lns (l'.drop n) (l'.take n) [];have Qt2:=qb (Tm.qfe lns (l'.drop n) (l'.take n) []);have HCA:=qb (Tm.qgh (lns:=lns) (l'.drop n) (l'.take n) [] (Tm.qkt HS.out.calm n));rw[HLT.out,hdl]at hgl;rw[HLT.out]at qt1
    have hoe:wc.ownsRow w.heap.size 102 4 (.slice ae ds.length ce) ds.length (qG ds):=qO HS.out.own (fun g hg=>by
     have:=(HS.out.own.lt g hg).2
     exact(hbc.block g (by omega)).trans (HB2.out.block g this))
    have HOE:=qb hoe;have HBC:Hid (Below w.heap.size w wc):=HS.out.below.trans ((HB2.out.mono hzr).trans (hbc.mono hgs));clear qaQ hbc hI' hdl hkr hoe;go_wp2_with fail
    refine HG.out.mono ?_;rintro e w6 ⟨rfl,hroom6,hI6,hfew6,htwo6,hlts6,hltr6⟩;obtain⟨S,hS⟩:∃S,(Tm.grow lns (l'.take n) [] (l'.drop n)).1=S:=⟨_,rfl⟩
    obtain⟨R,hR⟩:∃R,(Tm.grow lns (l'.take n) [] (l'.drop n)).2=R:=⟨_,rfl⟩
    simp only[hS,hR]at hroom6 hI6 hfew6 hgl qt1 Qt2 HCA Qg2⊢;have QBd:=qb hroom6;have HI6:=qb hI6;have HTW:=qb htwo6;have hz6:=htwo6.size;have HN6:=qb (HNc.out.below (htwo6.below hgs hgr (by omega)))
    have Qxp:Hid (Reads w6 (.slice (some ⟨w2.heap.size,0,none⟩) S.length 3) 1 S.length (ints S)):=by
     obtain⟨pad,h1,h2⟩:=hroom6;exact h2.front.reads hlts6 rfl hfew6 (by unfold maxLen;omega)
    have Qzz:Hid (w6.ownsRow w.heap.size 102 4 (.slice ae ds.length ce) ds.length (qG ds)):=qO HOE.out (fun g hg=>by
     have h1:=(HS.out.own.lt g hg).2
     exact htwo6.block g (by omega) (by omega) (fun h=>hve (by rw[<-h];exact hg)))
    clear hroom6 hI6 htwo6 hS hR;obtain⟨sl,hsl⟩:∃sl,S.length=sl:=⟨_,rfl⟩
    obtain⟨rl,hrl⟩:∃rl,R.length=rl:=⟨_,rfl⟩
    have HSL:=qb hsl;have HRL:=qb hrl;rw[hsl]at Qxp hfew6 qt1 hgl;rw[hrl]at hgl;rw[hsl,hrl];clear hsl hrl;go_wp2_with fail
    refine(qr9 lns bm _ S _ HN6.out.rd (by rw[HSL.out];exact Qxp.out) (by rw[HSL.out];omega) (fun x hx=>by
     rcases(Qt2.out x).1 hx with h|h
     ·exact HS.out.rr x (List.mem_of_mem_take h)
     ·exact HS.out.rr x (List.mem_of_mem_drop h)) (by rw[HSL.out];exact hfew6) hn HF.out).mono ?_
    rintro e w7 ⟨v7,rfl,hr7,hb7⟩;have hwf:=qr7 HF.out S;obtain⟨g7,o7,c7,rfl,hg7,hc7⟩:=hr7.form (by rw[qbn];omega);have hz7:=hb7.size;have Qxq:=qb (xE Qzz.out hb7)
    have HC7:Hid (∀j u,(qG (Tm.yX lns S))[j]?=some u->w7.cell? ((⟨g7,o7,none⟩:Addr).add j)=some u):=fun j u hu=>by rw[qbV];exact hc7 j u hu
    have HB7:=qb hb7;obtain⟨wl,hwl⟩:∃wl,(Tm.yX lns S).length=wl:=⟨_,rfl⟩
    have HWL:=qb hwl
    have HL7:Hid ((qG (Tm.yX lns S)).length=wl * 4):=by unfold Hid;rw[qbn,hwl]
    rw[hwl]at hwf;rw[hwl];clear hr7 hb7 hc7 hwl;go_wp2_with (at_builtin;go_must (refine wpList_append_own_at _ rfl _ _ 84 rfl w.heap.size 102 i1 (.agg #[.int .i64 0,.int .i64 0,.int .i64 0,.bool false]) 4 32 Tryz.underlying84 ki kz0 kz1 kz2 rfl (by decide) _ _ _ rfl Qxq.out ⟨g7,o7,none⟩ wl c7 (qG (Tm.yX lns S)) rfl HL7.out HC7.out (ql9 _) (by unfold maxLen;omega) (by omega) (by omega) ?_))
    intro v8 w8 qvP qp8 _ qxr;have hz8:=qp8.size;simp only[List.length_nil,Nat.add_zero]at hgl;have qxs:∀g,g<w6.heap.size->(Value.slice ae ds.length ce).ownBlock≠some g->w8.heap[g]?=w6.heap[g]?:=fun g hg hne=>(qp8.block g (by omega) (fun h=>hne h.symm)).trans (HB7.out.block g hg)
    have QzA:Hid (Qp5 lns w.heap.size l w w8 v8 (.slice (some ⟨gr,j0,none⟩) rl (cap-n)) (ds++Tm.yX lns S) R):=by
     refine⟨by rw[HS.out.same,Qg2.out,List.append_assoc],?_,⟨_,_,by rw[HRL.out],.inr ⟨gr,j0,rfl,hgr,by omega,HI6.out.jb (qxs gr hltr6 hve),?_,by rw[HRL.out];omega,by have:=HC2.out;omega⟩⟩,HCA.out,fun x hx=>?_,?_,?_⟩
     ·rw[qiQ,List.length_append,HWL.out];exact qvP
     ·rcases qxr with h|h
      ·rw[h];exact hve
      ·rw[h];simp;omega
     ·rcases(Qt2.out x).2 hx with h|h
      ·cases h
      ·exact HS.out.rr x (List.mem_of_mem_drop h)
     ·rw[List.length_append,HWL.out,HRL.out];omega
     ·exact((HBC.out.trans (HTW.out.below hgs hgr (by omega))).trans (HB7.out.mono (by omega))).grown qp8 (by omega) (fun j hj=>(Qxq.out.lt j hj).1)
    have QzB:Hid (qjO (.slice (some ⟨gr,j0,none⟩) rl (cap-n))<m):=by show rl<m;omega
    clear qvP qp8 qxr qxs;go_wp2;go_roundw
    case rel=>exact⟨_,R,QzA.out⟩
    case measure=>exact QzB.out
  ·have hl0:l'=[]:=List.eq_nil_of_length_eq_zero (by rw[HM.out];omega)
   have HD:Hid (wr.ownsRow w.heap.size 102 4 (.slice ae ds.length ce) (Tm.elements lns l).length (qG (Tm.elements lns l))):=by
    unfold Hid;rw[HS.out.same,hl0,Tm.qdo,List.append_nil];exact HS.out.own
   have HBD:=qb HS.out.below;go_wp2;go_ret;exact⟨_,rfl,HD.out,HBD.out⟩
structure Z4(w:World)(B bl:Nat)(vs:Nat->Value)(L:Nat->List Int):Prop where
 lt:bl<w.heap.size
 le:B<=bl
 cell:∀k,k<4->w.cell? ⟨bl,k,none⟩=some (vs k)
 free:∀k,w.frozen? ⟨bl,k,none⟩=false
 own:∀k,k<4->w.ownsRow B 3 1 (vs k) (L k).length (ints (L k))
 qff:∀k,k<4->(vs k).ownBlock≠some bl
 apart:∀j k,j<4->k<4->j≠k->∀g,(vs j).ownBlock=some g->(vs k).ownBlock≠some g
def xq{α:Type}(f:Nat->α)(k:Nat)(x:α):Nat->α:=fun j=>if j=k then x else f j
theorem qaj{α:Type}(f:Nat->α)(k:Nat)(x:α):xq f k x k=x:=by simp[xq]
theorem xJ{α:Type}(f:Nat->α){j k:Nat}(x:α)(h:j≠k):xq f k x j=f j:=by simp[xq,h]
theorem Z4.below(h:Z4 w B bl vs L)(hb:Below w.heap.size w w'):Z4 w' B bl vs L :=
 ⟨Nat.lt_of_lt_of_le h.lt hb.size,h.le,fun k hk=>by rw[hb.cell (p:=⟨bl,k,none⟩) h.lt];exact h.cell k hk,fun k=>by rw[hb.frozen (p:=⟨bl,k,none⟩) h.lt];exact h.free k,
  fun k hk=>xE (h.own k hk) hb,h.qff,h.apart⟩
structure ZM(bl:Nat)(vs vs':Nat->Value)(w w':World):Prop where
 size:w.heap.size<=w'.heap.size
 os:w'.os=w.os
 tape:w'.tape=w.tape
 output:w'.output=w.output
 block:∀g,g<w.heap.size->g≠bl->(∀k,k<4->(vs k).ownBlock≠some g)->w'.heap[g]?=w.heap[g]?
 at':∀k,k<4->∀g,(vs' k).ownBlock=some g->(∃j,j<4/\(vs j).ownBlock=some g)\/w.heap.size<=g
theorem ZM.of(h:Below w.heap.size w w'):ZM bl vs vs w w' :=
 ⟨h.size,h.os,h.tape,h.output,fun g hg _ _=>h.block g hg,fun k hk _ hg=>.inl ⟨k,hk,hg⟩⟩
theorem ZM.trans{v0 v1 v2:Nat->Value}{w0 w1 w2:World}(h:ZM bl v0 v1 w0 w1)(k:ZM bl v1 v2 w1 w2):ZM bl v0 v2 w0 w2:=by
 have hs:=h.size;refine⟨Nat.le_trans h.size k.size,k.os.trans h.os,k.tape.trans h.tape,k.output.trans h.output,fun g h1 h2 h3=>?_,fun i hi g hg=>?_⟩
 ·refine(k.block g (by omega) h2 (fun j hj hv=>?_)).trans (h.block g h1 h2 h3);rcases h.at' j hj g hv with⟨q,hq,h4⟩|h4
  ·exact h3 q hq h4
  ·omega
 ·rcases k.at' i hi g hg with⟨j,hj,h4⟩|h4
  ·exact h.at' j hj g h4
  ·exact .inr (by omega)
theorem ZM.below{vs':Nat->Value}(t:ZM bl vs vs' w w')(h:Z4 w B bl vs L):Below B w w':=by
 have h1:=h.le;have h2:=h.lt;exact⟨t.os,t.tape,t.output,t.size,fun g hg=>t.block g (by omega) (by omega) (fun k hk hv=>by have:=((h.own k hk).lt g hv).1;omega)⟩
theorem Z4.push{w4:World}{o:Obj}{k:Nat}{x:Int}{v':Value}(h:Z4 w B bl vs L)(hk:k<4)(qp:w4.ownsRow B 3 1 v' ((L k).length+1) (ints (L k)++[.int .i64 x]))(hg:(w.drew.alloc o).grownBy w4 (vs k).ownBlock)(hat:v'.ownBlock=(vs k).ownBlock\/v'.ownBlock=some (w.drew.alloc o).heap.size) :
  Z4 (w4.setCell ⟨bl,k,none⟩ v') B bl (xq vs k v') (xq L k (L k++[x]))/\ZM bl vs (xq vs k v') w (w4.setCell ⟨bl,k,none⟩ v'):=by
 have hlt:=h.lt
 have hz:w.heap.size+1<=w4.heap.size:=by have:=hg.size;simpa using this
 have hbl:∀g,g<w.heap.size->(vs k).ownBlock≠some g->w4.heap[g]?=w.heap[g]?:=fun g h1 h2=>(hg.block g (by simp;omega) (fun e=>h2 e.symm)).trans (heap_alloc_old w.drew o (by exact h1))
 have hnb:v'.ownBlock≠some bl:=by
  rcases hat with e|e
  ·rw[e];exact h.qff k hk
  ·rw[e];simp;omega
 have hb4:=hbl bl hlt (h.qff k hk);have hle:=h.le;refine⟨⟨by simp[World.setCell];omega,h.le,fun j hj=>?_,fun j=>?_,fun j hj=>?_,fun j hj=>?_,fun i j hi hj hij g hg'=>?_⟩,?_⟩
 ·by_cases e:j=k
  ·subst e;rw[qaj];exact World.cell?_setCell_same _ _ _ ((World.cell?_of_block (w:=w) hb4).trans (h.cell j hj))
  ·rw[xJ _ _ e,World.cell?_setCell_other _ _ _ _ (by simp<;>omega)]
   exact(World.cell?_of_block (w:=w) hb4).trans (h.cell j hj)
 ·rw[World.frozen?_setCell];exact(World.frozen?_of_block (w:=w) hb4).trans (h.free j)
 ·by_cases e:j=k
  ·subst e;rw[qaj,qaj];refine qgi ?_ hnb _;rw[List.length_append,qku];exact qp
  ·rw[xJ _ _ e,xJ _ _ e];refine qgi (qO (h.own j hj) (fun g hg'=>hbl g ((h.own j hj).lt g hg').2 (h.apart j k hj hk e g hg'))) (h.qff j hj) _
 ·by_cases e:j=k
  ·subst e;rw[qaj];exact hnb
  ·rw[xJ _ _ e];exact h.qff j hj
 ·by_cases e1:i=k
  ·have e2:j≠k:=by omega
   subst e1;rw[qaj]at hg';rw[xJ _ _ e2];intro hj';rcases hat with e|e
   ·rw[e]at hg';exact h.apart i j hi hj hij g hg' hj'
   ·rw[e]at hg';have:=((h.own j hj).lt g hj').2;simp at hg';omega
  ·rw[xJ _ _ e1]at hg';by_cases e2:j=k
   ·subst e2;rw[qaj];intro hj';rcases hat with e|e
    ·rw[e]at hj';exact h.apart i j hi hj hij g hg' hj'
    ·rw[e]at hj';have:=((h.own i hi).lt g hg').2;simp at hj';omega
   ·rw[xJ _ _ e2];exact h.apart i j hi hj hij g hg'
 ·refine⟨by simp[World.setCell];omega,hg.os,hg.tape,hg.output,fun g h1 h2 h3=>?_,fun j hj g hg'=>?_⟩
  ·rw[Below.heap_setCell _ _ _ _ (by simpa using h2)];exact hbl g h1 (h3 k hk)
  ·by_cases e:j=k
   ·subst e;rw[qaj]at hg';rcases hat with e|e
    ·rw[e]at hg';exact .inl ⟨j,hj,hg'⟩
    ·rw[e]at hg';simp at hg';exact .inr (by omega)
   ·rw[xJ _ _ e]at hg';exact .inl ⟨j,hj,hg'⟩
theorem qeG(bl B k:Nat)(lv x:Int)(vs:Nat->Value)(L:Nat->List Int)(w:World)(h:Z4 w B bl vs L)(hk:k<4)(hlv:lv=k+1)(hlen:(L k).length<=1000000) :
  Calls Tryz.prog 168 #[.pointer (some ⟨bl,0,none⟩),.int .i64 lv,.int .i64 x] w fun e w'=>e=.returned (.tuple #[])/\∃vs',Z4 w' B bl vs' (xq L k (L k++[x]))/\ZM bl vs vs' w w':=by
 obtain⟨i0,hi,hz0,hz1,hz2⟩:=info_parts Tryz.qbR;have H:=qb h
 have e1:IntKind.i64.wrap (lv-1)=(k:Int):=by rw[IntKind.wrap_i64];omega
 have j1:(0:Int)<=(k:Int):=by omega
 have j2:(k:Int)<4:=by omega
 have ck:=h.cell k hk;have fk:=h.free k;have hlt:=h.lt;have hle:=h.le;obtain⟨av,cv,hav⟩:=(Reads.qn (h.own k hk)).shape;have HAV:=qb hav;rw[hav]at ck
 have VC:Hid ((w.drew.alloc (.cells #[.int .i64 x] 3)).ownsRow B 3 1 (.slice av (L k).length cv) (L k).length (ints (L k))):=by
  unfold Hid;rw[<-hav];exact(qO (w':=w.drew) (H.out.own k hk) (fun _ _=>rfl)).alloc _
 have QiJ:Hid (∀j u,[Value.int .i64 x][j]?=some u->(w.drew.alloc (.cells #[.int .i64 x] 3)).cell? ((⟨w.heap.size,0,none⟩:Addr).add j)=some u):=fun j u hj=>by
  match j,hj with
  | 0,hj=>simp at hj;subst hj;rw[show((⟨w.heap.size,0,none⟩:Addr).add 0)=⟨w.heap.size,0,none⟩from rfl,ql (by rfl)];rfl
 have HNB:Hid ((Value.slice av (L k).length cv).ownBlock≠some bl):=by unfold Hid;rw[<-hav];exact H.out.qff k hk
 have QyE:Hid (∀(v':Value) (w4:World),w4.ownsRow B 3 1 v' ((L k).length+1) (ints (L k)++[.int .i64 x])->(w.drew.alloc (.cells #[.int .i64 x] 3)).grownBy w4 (Value.slice av (L k).length cv).ownBlock->(v'.ownBlock=(Value.slice av (L k).length cv).ownBlock\/v'.ownBlock=some (w.drew.alloc (.cells #[.int .i64 x] 3)).heap.size)->Z4 (w4.setCell ⟨bl,k,none⟩ v') B bl (xq vs k v') (xq L k (L k++[x]))/\ZM bl vs (xq vs k v') w (w4.setCell ⟨bl,k,none⟩ v')):=fun v' w4 h1 h2 h3 =>
  H.out.push hk h1 (by rw[HAV.out];exact h2) (by rw[HAV.out];exact h3)
 have HC2:Hid ((w.drew.alloc (.cells #[.int .i64 x] 3)).cell? ⟨bl,k,none⟩=some (.slice av (L k).length cv)):=by unfold Hid;rw[qJ (by exact hlt)];exact ck
 have HF2:Hid ((w.drew.alloc (.cells #[.int .i64 x] 3)).frozen? ⟨bl,k,none⟩=false):=by unfold Hid;rw[zP (by exact hlt)];exact fk
 have HL2:Hid (bl<(w.drew.alloc (.cells #[.int .i64 x] 3)).heap.size):=by unfold Hid;simp;omega
 have HBA:Hid (B<=(w.drew.alloc (.cells #[.int .i64 x] 3)).heap.size):=by unfold Hid;simp;omega
 clear h hav hlv;go_enter Tryz.func168,Tryz.ntmps168
 go_wp2_with fail
 go_region_law (refine vY rfl _ _ 83 rfl B 3 i0 (.int .i64 0) 1 8 Tryz.underlying83 hi hz0 hz1 hz2 rfl (by decide) _ _ _ (by simp[Act.eval]) VC.out ⟨w.heap.size,0,none⟩ 1 1 [.int .i64 x] (by simp[Act.eval]) rfl QiJ.out (by intro u hu;simp at hu;subst hu;rfl) (by unfold maxLen;omega) (by omega) HBA.out ?_;intro v' w4 xF hg4 qbY;have HP:=qb (QyE.out v' w4 xF hg4 qbY);have z2:=hg4.cell HC2.out (fun e=>HNB.out e.symm);have zf:w4.frozen? ⟨bl,k,none⟩=false:=(World.frozen?_of_block (hg4.block bl HL2.out (fun e=>HNB.out e.symm))).trans HF2.out;obtain⟨a4,c4,rfl⟩:=(Reads.qn xF).shape;clear xF hg4 qbY)
 all_goals go_wp2
 all_goals go_end0
 all_goals exact⟨rfl,_,HP.out⟩
def jv(e:Tm.El)(n:Nat)(L:Nat->List Int):Nat->List Int:=fun j=>if j<n then L j++Tm.jY e j else L j
theorem qsa(e:Tm.El)(L:Nat->List Int):jv e 0 L=L:=by funext j;simp[jv]
theorem qsb{e:Tm.El}{n:Nat}(h:Tm.jY e n=[]):jv e (n+1) L=jv e n L:=by
 funext j
 unfold jv;by_cases h1:j=n
 ·subst h1;simp[h]
 ·by_cases h2:j<n
  ·rw[if_pos (by omega),if_pos h2]
  ·rw[if_neg (by omega),if_neg h2]
theorem qsc{e:Tm.El}{n:Nat}{x:Int}(h:Tm.jY e n=[x]):jv e (n+1) L=xq (jv e n L) n (jv e n L n++[x]):=by
 funext j
 unfold jv xq;by_cases h1:j=n
 ·subst h1;simp[h]
 ·by_cases h2:j<n
  ·rw[if_pos (by omega),if_neg h1];exact(if_pos h2).symm
  ·rw[if_neg (by omega),if_neg h1];exact(if_neg h2).symm
theorem qfg(e:Tm.El)(n:Nat)(L:Nat->List Int)(k:Nat):(jv e n L k).length<=(L k).length+1:=by
 unfold jv;split
 ·have:=Tm.qfL e k;simp;omega
 ·omega
theorem qaw(bl B:Nat)(el:Tm.El)(vs:Nat->Value)(L:Nat->List Int)(w:World)(h:Z4 w B bl vs L)(hlen:∀k,k<4->(L k).length<=900000) :
  Calls Tryz.prog 167 #[.pointer (some ⟨bl,0,none⟩),.agg #[.int .i64 el.p,.int .i64 el.s,.int .i64 el.t,.bool el.v]] w fun e w'=>e=.returned (.tuple #[])/\∃vs',Z4 w' B bl vs' (jv el 3 L)/\ZM bl vs vs' w w':=by
 have H:=qb h;have XO:=qb hlen;obtain⟨p,s,t,v⟩:=el;obtain⟨W,hW⟩:∃W,(w.alloc (.cells #[.int .i64 p,.int .i64 s,.int .i64 t,.bool v] 102)).alloc (.cells #[.int .i64 p,.int .i64 s,.int .i64 t] 3)=W:=⟨_,rfl⟩
 have hb0:Below w.heap.size w W:=by rw[<-hW];exact((Below.refl _ _).alloc (Nat.le_refl _) _).alloc (by simp) _
 have hz0:W.heap.size=w.heap.size+2:=by rw[<-hW];simp
 have c0:W.cell? ⟨w.heap.size+1,0,none⟩=some (.int .i64 p):=by rw[<-hW,ql (by simp)];rfl
 have c1:W.cell? ⟨w.heap.size+1,1,none⟩=some (.int .i64 s):=by rw[<-hW,ql (by simp)];rfl
 have c2:W.cell? ⟨w.heap.size+1,2,none⟩=some (.int .i64 t):=by rw[<-hW,ql (by simp)];rfl
 have HB0:=qb hb0
 have HC:Hid (∀k (x:Int),k<3->[p,s,t][k]?=some x->W.cell? ⟨w.heap.size+1,k,none⟩=some (.int .i64 x)):=by
  intro k x hk hx;rcases(show k=0\/k=1\/k=2 by omega)with rfl|rfl|rfl<;>(simp at hx;subst hx;assumption)
 have HPW:Hid (∀k (x:Int),k<3->[p,s,t][k]?=some x->Tm.jY ⟨p,s,t,v⟩ k=Tm.nz x):=by
  intro k x hk hx;rcases(show k=0\/k=1\/k=2 by omega)with rfl|rfl|rfl<;>(simp at hx;subst hx;rfl)
 have hlt:=h.lt;clear h hb0 hlen c0 c1 c2;go_enter Tryz.func167,Tryz.ntmps167
 go_wp2_with fail
 go_loopw [14] (fun i wr=>∃(k:Nat) (vs':Nat->Value),k<=3/\i=.int .i64 k/\Z4 wr B bl vs' (jv ⟨p,s,t,v⟩ k L)/\ZM bl vs vs' W wr) (fun i _=>3-(intOf i).toNat)
 case atStart=>exact⟨0,vs,by omega,rfl,by rw[qsa];exact H.out.below HB0.out,ZM.of (Below.refl _ _)⟩
 case round =>
  obtain⟨k,vs',hk,rfl,qej,htu⟩:=hrel;have HL:=qb qej;have HT:=qb htu;clear qej htu;by_cases h3:k<3
  ·obtain⟨x,hx⟩:∃x,[p,s,t][k]?=some x:=⟨[p,s,t][k]'(by simpa using h3),by simp[h3]⟩
   have ck:wr.cell? ⟨w.heap.size+1,k,none⟩=some (.int .i64 x):=by
    rw[World.cell?_of_block (w:=W) (HT.out.block (w.heap.size+1) (by omega) (by omega) (fun j hj hv=>by have:=((H.out.own j hj).lt _ hv).2;omega))];exact HC.out k x h3 hx
   have hpw:=HPW.out k x h3 hx
   have i1:(0:Int)<=(k:Int):=by omega
   have i2:(k:Int)<3:=by omega
   have HLN:Hid ((jv ⟨p,s,t,v⟩ k L k).length<=1000000):=by have h1:=qfg ⟨p,s,t,v⟩ k L k;have h2:=XO.out k (by omega);unfold Hid;omega
   cases hn:(x != 0)
   ·have HN:Hid (Z4 wr B bl vs' (jv ⟨p,s,t,v⟩ (k+1) L)):=by
     unfold Hid;rw[qsb (by rw[hpw];simp at hn;simp[Tm.nz,hn])];exact HL.out
    clear hpw hx;go_wp2;go_roundw
    case rel=>exact⟨k+1,vs',by omega,by go_num,HN.out,HT.out⟩
    case measure=>simp[intOf];omega
   ·have HSM:=qb (qsc (L:=L) (show Tm.jY ⟨p,s,t,v⟩ k=[x] by rw[hpw];simp at hn;simp[Tm.nz,hn]));clear hpw hx;go_wp2_with fail
    refine(qeG bl B k ((k:Int)+1) x vs' _ _ HL.out (by omega) rfl HLN.out).mono ?_;rintro e w2 ⟨rfl,vs2,hl2,ht2⟩
    have HL2:Hid (Z4 w2 B bl vs2 (jv ⟨p,s,t,v⟩ (k+1) L)):=by unfold Hid;rw[HSM.out];exact hl2
    have HT2:=qb (HT.out.trans ht2);clear hl2 ht2;go_wp2;go_roundw
    case rel=>exact⟨k+1,vs2,by omega,by go_num,HL2.out,HT2.out⟩
    case measure=>simp[intOf];omega
  ·have hk3:k=3:=by omega
   subst hk3;have HTF:Hid (ZM bl vs vs' w wr):=(ZM.of HB0.out).trans HT.out;go_wp2;go_end0;exact⟨rfl,vs',HL.out,HTF.out⟩
theorem Z4.congr{L':Nat->List Int}(h:Z4 w B bl vs L)(he:∀k,k<4->L k=L' k):Z4 w B bl vs L' :=
 ⟨h.lt,h.le,h.cell,h.free,fun k hk=>by rw[<-he k hk];exact h.own k hk,h.qff,h.apart⟩
def Qdf(w:World)(B:Nat)(vs:Nat->Value)(L:Nat->List Int):Prop:=∀k,k<4->w.ownsRow B 3 1 (vs k) (L k).length (ints (L k))
theorem Qdf.below(h:Qdf w B vs L)(hb:Below w.heap.size w w'):Qdf w' B vs L:=fun k hk=>xE (h k hk) hb
theorem Z4.new{w':World}{B bl:Nat}(hlt:bl<w'.heap.size)(hle:B<=bl)(hc:∀k,k<4->w'.cell? ⟨bl,k,none⟩=some (.slice none 0 0))(hf:∀k,w'.frozen? ⟨bl,k,none⟩=false):Z4 w' B bl (fun _=>.slice none 0 0) (fun _=>[]) :=
 ⟨hlt,hle,hc,hf,fun _ _=>World.ownsRow_nil _ _ _ _,fun _ _ h=>(by cases h),fun _ _ _ _ _ _ h=>(by cases h)⟩
namespace Tm
theorem qn1{els:List El}{k:Nat}(hk:k<els.length)(j:Nat):level false (els.take (k+1)) j=jv els[k] 3 (fun j=>level false (els.take k) j) j:=by
 rw[List.take_succ_eq_append_getElem hk,qiR];unfold jv;by_cases h:j<3
 ·rw[if_pos h];simp
 ·rw[if_neg h]
  have:jY els[k] j=[]:=by
   unfold jY;split
   ·omega
   ·omega
   ·omega
   ·rfl
  simp[this]
end Tm
variable {w:World}{b:Nat}{v0 v1 v2 v3:Value}{L:Nat->List Int}
theorem xC{P:Nat->Prop}(h0:P 0)(h1:P 1)(h2:P 2)(h3:P 3):∀k,k<4->P k:=by
 intro k hk;rcases(show k=0\/k=1\/k=2\/k=3 by omega)with rfl|rfl|rfl|rfl<;>assumption
def xT(w:World)(b:Nat)(v0 v1 v2 v3:Value):World:=(((w.setCell ⟨b,0,none⟩ v0).setCell ⟨b,1,none⟩ v1).setCell ⟨b,2,none⟩ v2).setCell ⟨b,3,none⟩ v3
theorem qpD(w:World)(b:Nat)(v0 v1 v2 v3:Value):(xT w b v0 v1 v2 v3).heap.size=w.heap.size:=by simp[xT,World.setCell]
theorem qec{g:Nat}(h:g≠b):(xT w b v0 v1 v2 v3).heap[g]?=w.heap[g]?:=by
 unfold xT;rw[Below.heap_setCell _ _ _ _ (by simpa using h),Below.heap_setCell _ _ _ _ (by simpa using h),Below.heap_setCell _ _ _ _ (by simpa using h),Below.heap_setCell _ _ _ _ (by simpa using h)]
theorem qe1{v0 v1 v2 v3 x0 x1 x2 x3:Value}(h0:w.cell? ⟨b,0,none⟩=some x0)(h1:w.cell? ⟨b,1,none⟩=some x1)(h2:w.cell? ⟨b,2,none⟩=some x2)(h3:w.cell? ⟨b,3,none⟩=some x3) :
  (xT w b v0 v1 v2 v3).cell? ⟨b,0,none⟩=some v0/\(xT w b v0 v1 v2 v3).cell? ⟨b,1,none⟩=some v1/\(xT w b v0 v1 v2 v3).cell? ⟨b,2,none⟩=some v2/\(xT w b v0 v1 v2 v3).cell? ⟨b,3,none⟩=some v3:=by
 unfold xT;refine⟨?_,?_,?_,?_⟩
 ·rw[World.cell?_setCell_other _ _ _ _ (by simp),World.cell?_setCell_other _ _ _ _ (by simp),World.cell?_setCell_other _ _ _ _ (by simp)];exact World.cell?_setCell_same _ _ _ h0
 ·rw[World.cell?_setCell_other _ _ _ _ (by simp),World.cell?_setCell_other _ _ _ _ (by simp)];exact World.cell?_setCell_same _ _ _ ((World.cell?_setCell_other _ _ _ _ (by simp)).trans h1)
 ·rw[World.cell?_setCell_other _ _ _ _ (by simp)];exact World.cell?_setCell_same _ _ _ (((World.cell?_setCell_other _ _ _ _ (by simp)).trans (World.cell?_setCell_other _ _ _ _ (by simp))).trans h2)
 ·exact World.cell?_setCell_same _ _ _ ((((World.cell?_setCell_other _ _ _ _ (by simp)).trans (World.cell?_setCell_other _ _ _ _ (by simp))).trans (World.cell?_setCell_other _ _ _ _ (by simp))).trans h3)
theorem qed{w0:World}{B:Nat}(h:Below B w0 w)(hb:B<=b):Below B w0 (xT w b v0 v1 v2 v3):=(((h.setCell (p:=⟨b,0,none⟩) hb _).setCell (p:=⟨b,1,none⟩) hb _).setCell (p:=⟨b,2,none⟩) hb _).setCell (p:=⟨b,3,none⟩) hb _
theorem qlP(v:Value)(els:List Tm.El)(w:World)(hr:Reads w v 4 els.length (qG els))(hl:els.length<=800000) :
  Calls Tryz.prog 132 #[v] w fun e w'=>∃vs:Nat->Value,e=.returned (.agg #[vs 0,vs 1,vs 2,vs 3])/\Qdf w' w.heap.size vs (fun k=>Tm.level false els k)/\Below w.heap.size w w':=by
 obtain⟨a,cap,rfl⟩:=hr.shape;have HR:=qb hr;obtain⟨W,hW⟩:∃W,(w.alloc (.cells #[.slice none 0 0,.slice none 0 0,.slice none 0 0,.slice none 0 0] 213)).alloc (.cells #[.slice none 0 0,.slice none 0 0,.slice none 0 0,.slice none 0 0] 213)=W:=⟨_,rfl⟩
 have hb0:Below w.heap.size w W:=by rw[<-hW];exact((Below.refl _ _).alloc (Nat.le_refl _) _).alloc (by simp) _
 have hz0:W.heap.size=w.heap.size+2:=by rw[<-hW];simp
 have r0:W.cell? ⟨w.heap.size,0,none⟩=some (.slice none 0 0):=by rw[<-hW,qJ (by simp),ql rfl];rfl
 have r1:W.cell? ⟨w.heap.size,1,none⟩=some (.slice none 0 0):=by rw[<-hW,qJ (by simp),ql rfl];rfl
 have r2:W.cell? ⟨w.heap.size,2,none⟩=some (.slice none 0 0):=by rw[<-hW,qJ (by simp),ql rfl];rfl
 have r3:W.cell? ⟨w.heap.size,3,none⟩=some (.slice none 0 0):=by rw[<-hW,qJ (by simp),ql rfl];rfl
 have rf:∀o,W.frozen? ⟨w.heap.size,o,none⟩=false:=fun o=>by rw[<-hW,zP (by simp),zx rfl]
 have HL0:Hid (Z4 W w.heap.size (w.heap.size+1) (fun _=>.slice none 0 0) (fun k=>Tm.level false (els.take 0) k)):=by
  refine Z4.new (by omega) (by omega) (xC ?_ ?_ ?_ ?_) (fun k=>?_)
  ·rw[<-hW,ql (by simp)];rfl
  ·rw[<-hW,ql (by simp)];rfl
  ·rw[<-hW,ql (by simp)];rfl
  ·rw[<-hW,ql (by simp)];rfl
  ·rw[<-hW,zx (by simp)]
 have HB0:=qb hb0;have HRR:=qb (And.intro r0 (And.intro r1 (And.intro r2 (And.intro r3 rf))));obtain⟨n,hn⟩:∃n,els.length=n:=⟨_,rfl⟩
 have HN:=qb hn;rw[hn]at hl HR;rw[hn];clear hr hb0 r0 r1 r2 r3 rf hn;go_enter Tryz.func132,Tryz.ntmps132
 go_wp2_with fail
 go_loopw [8] (fun i wr=>∃(k:Nat) (vs:Nat->Value),k<=n/\i=.int .i64 k/\Z4 wr w.heap.size (w.heap.size+1) vs (fun j=>Tm.level false (els.take k) j)/\ZM (w.heap.size+1) (fun _=>.slice none 0 0) vs W wr) (fun i _=>n-(intOf i).toNat)
 case atStart=>exact⟨0,_,Nat.zero_le _,rfl,HL0.out,ZM.of (Below.refl _ _)⟩
 case round =>
  obtain⟨k,vs,hk,rfl,qej,htu⟩:=hrel;have HL:=qb qej;have HT:=qb htu;have hzr:=htu.size;have qh8:=qej.lt;have HBr:Hid (Below w.heap.size w wr):=HB0.out.trans (htu.below (L:=fun k=>Tm.level false (els.take 0) k) HL0.out);clear qej htu;by_cases hlt:k<n
  ·have yo:k<els.length:=by rw[HN.out];exact hlt
   obtain⟨g,off,rfl,hg,c0,c1,c2,c3⟩:=qfZ (by rw[HN.out];exact HR.out.below HBr.out HR.out.2.1) yo;have HLV:Hid (∀j,Tm.level false (els.take (k+1)) j=jv els[k] 3 (fun j=>Tm.level false (els.take k) j) j):=Tm.qn1 yo
   have XO:Hid (∀j,j<4->(Tm.level false (els.take k) j).length<=900000):=fun j _=>by
    have h1:=Tm.qcR false j (els.take k) false
    have h2:(els.take k).length<=n:=by rw[List.length_take,HN.out];omega
    have:(Tm.level false (els.take k) j).length<=(els.take k).length:=h1;omega
   have i1:(0:Int)<=(k:Int):=by omega
   have i2:(k:Int)<(n:Int):=by omega
   generalize els[k]=x at *;have hbx:Below wr.heap.size wr (wr.alloc (.cells #[.int .i64 x.p,.int .i64 x.s,.int .i64 x.t,.bool x.v] 102)):=(Below.refl _ _).alloc (Nat.le_refl _) _;have HBX:=qb hbx;clear hbx;go_wp2_with fail
   refine(qaw (w.heap.size+1) w.heap.size x vs _ _ (HL.out.below HBX.out) XO.out).mono ?_;rintro e w2 ⟨rfl,vs2,hl2,ht2⟩;have HL2:Hid (Z4 w2 w.heap.size (w.heap.size+1) vs2 (fun j=>Tm.level false (els.take (k+1)) j)):=hl2.congr (fun j _=>(HLV.out j).symm);have HT2:=qb ((HT.out.trans (ZM.of HBX.out)).trans ht2);clear hl2 ht2;go_wp2;go_roundw
   case rel=>exact⟨k+1,vs2,by omega,by go_num,HL2.out,HT2.out⟩
   case measure=>simp[intOf];omega
  ·have xU:els.take k=els:=List.take_of_length_le (by rw[HN.out];omega)
   have HLF:Hid (Z4 wr w.heap.size (w.heap.size+1) vs (fun j=>Tm.level false els j)):=by have h:=HL.out;rw[xU]at h;exact h
   have q0:=HLF.out.cell 0 (by omega);have q1:=HLF.out.cell 1 (by omega);have q2:=HLF.out.cell 2 (by omega);have q3:=HLF.out.cell 3 (by omega);have qax:=HT.out.block w.heap.size (by omega) (by omega) (fun _ _ h=>by cases h);have p0:wr.cell? ⟨w.heap.size,0,none⟩=some (.slice none 0 0):=(World.cell?_of_block qax).trans HRR.out.1;have p1:wr.cell? ⟨w.heap.size,1,none⟩=some (.slice none 0 0):=(World.cell?_of_block qax).trans HRR.out.2.1;have p2:wr.cell? ⟨w.heap.size,2,none⟩=some (.slice none 0 0):=(World.cell?_of_block qax).trans HRR.out.2.2.1;have p3:wr.cell? ⟨w.heap.size,3,none⟩=some (.slice none 0 0):=(World.cell?_of_block qax).trans HRR.out.2.2.2.1;have pf:∀o,wr.frozen? ⟨w.heap.size,o,none⟩=false:=fun o=>(World.frozen?_of_block (a:=⟨w.heap.size,o,none⟩) qax).trans (HRR.out.2.2.2.2 o);have pf0:=pf 0;have pf1:=pf 1;have pf2:=pf 2;have pf3:=pf 3
   have hsz:w.heap.size<wr.heap.size:=by omega
   have yL:∀j,j<4->∃aj cj,vs j=.slice aj (Tm.level false els j).length cj:=fun j hj=>(Reads.qn (HLF.out.own j hj)).shape;obtain⟨a0,k0,h0⟩:=yL 0 (by omega);obtain⟨a1,k1,h1⟩:=yL 1 (by omega);obtain⟨a2,k2,h2⟩:=yL 2 (by omega);obtain⟨a3,k3,h3⟩:=yL 3 (by omega);rw[h0]at q0;rw[h1]at q1;rw[h2]at q2;rw[h3]at q3;have HV:=qb (And.intro h0 (And.intro h1 (And.intro h2 h3)));have VC:Hid (Qdf wr w.heap.size vs (fun k=>Tm.level false els k)):=fun j hj=>HLF.out.own j hj
   have Qt3:Hid (∀j,j<4->(vs j).ownBlock≠some w.heap.size):=fun j hj h=>by
    rcases HT.out.at' j hj _ h with⟨_,_,h4⟩|h4
    ·cases h4
    ·omega
   clear xU qax pf h0 h1 h2 h3 yL;go_wp2;have z:=qe1 (v0:=.slice a0 (Tm.level false els 0).length k0) (v1:=.slice a1 (Tm.level false els 1).length k1) (v2:=.slice a2 (Tm.level false els 2).length k2) (v3:=.slice a3 (Tm.level false els 3).length k3) p0 p1 p2 p3;have HBF:=qb (qed (v0:=.slice a0 (Tm.level false els 0).length k0) (v1:=.slice a1 (Tm.level false els 1).length k1) (v2:=.slice a2 (Tm.level false els 2).length k2) (v3:=.slice a3 (Tm.level false els 3).length k3) HBr.out (Nat.le_refl _));have Qmb:Hid (Qdf (xT wr w.heap.size (.slice a0 (Tm.level false els 0).length k0) (.slice a1 (Tm.level false els 1).length k1) (.slice a2 (Tm.level false els 2).length k2) (.slice a3 (Tm.level false els 3).length k3)) w.heap.size vs (fun k=>Tm.level false els k)):=fun j hj=>qO (VC.out j hj) (fun g hg=>qec (fun e=>Qt3.out j hj (by rw[<-e];exact hg)));unfold xT at z HBF Qmb;generalize (((wr.setCell ⟨w.heap.size,0,none⟩ (.slice a0 (Tm.level false els 0).length k0)).setCell ⟨w.heap.size,1,none⟩ (.slice a1 (Tm.level false els 1).length k1)).setCell ⟨w.heap.size,2,none⟩ (.slice a2 (Tm.level false els 2).length k2)).setCell ⟨w.heap.size,3,none⟩ (.slice a3 (Tm.level false els 3).length k3)=W4 at *;obtain⟨z0,z1,z2,z3⟩:=z;refine bodyPost_ret (v:=.agg #[.slice a0 (Tm.level false els 0).length k0,.slice a1 (Tm.level false els 1).length k1,.slice a2 (Tm.level false els 2).length k2,.slice a3 (Tm.level false els 3).length k3]) (by simp[results,Tryz.results132,go_sem,z0,z1,z2,z3]) rfl ⟨vs,?_,Qmb.out,HBF.out⟩;rw[HV.out.1,HV.out.2.1,HV.out.2.2.1,HV.out.2.2.2]
theorem qjQ{x:Tm.El}(h:Tm.empty x=false):∀j,j<4->L j++Tm.ym false x j=xq (jv x 3 L) 3 (jv x 3 L 3++[65535]) j :=
 xC (by simp[xq,jv,Tm.ym,Tm.jY]) (by simp[xq,jv,Tm.ym,Tm.jY]) (by simp[xq,jv,Tm.ym,Tm.jY]) (by simp[xq,jv,Tm.ym,h])
theorem qwr{x:Tm.El}(h:x.p≠0):∀j,j<4->L j++Tm.ym true x j=xq L 3 (L 3++[x.p]) j :=
 xC (by simp[xq,Tm.ym]) (by simp[xq,Tm.ym]) (by simp[xq,Tm.ym]) (by simp[xq,Tm.ym,Tm.nz,h])
theorem qt4{s t:Int}:∀j,j<4->L j++Tm.ym true ⟨0,s,t,false⟩ j=L j :=
 xC (by simp[Tm.ym]) (by simp[Tm.ym]) (by simp[Tm.ym]) (by simp[Tm.ym,Tm.nz])
theorem qt5:∀j,j<4->L j++Tm.ym false ⟨0,0,0,false⟩ j=L j :=
 xC (by simp[Tm.ym,Tm.nz]) (by simp[Tm.ym,Tm.nz]) (by simp[Tm.ym,Tm.nz]) (by simp[Tm.ym,Tm.empty])
theorem qfT(v:Value)(els:List Tm.El)(w:World)(hr:Reads w v 4 els.length (qG els))(hl:els.length<=800000)(qib:∀x∈els,x.v=true->x.p≠0) :
  Calls Tryz.prog 133 #[v] w fun e w'=>∃vs:Nat->Value,e=.returned (.agg #[vs 0,vs 1,vs 2,vs 3])/\Qdf w' w.heap.size vs (fun k=>Tm.level true els k)/\Below w.heap.size w w':=by
 obtain⟨a,cap,rfl⟩:=hr.shape;have HR:=qb hr;obtain⟨W,hW⟩:∃W,(w.alloc (.cells #[.slice none 0 0,.slice none 0 0,.slice none 0 0,.slice none 0 0] 213)).alloc (.cells #[.slice none 0 0,.slice none 0 0,.slice none 0 0,.slice none 0 0] 213)=W:=⟨_,rfl⟩
 have hb0:Below w.heap.size w W:=by rw[<-hW];exact((Below.refl _ _).alloc (Nat.le_refl _) _).alloc (by simp) _
 have hz0:W.heap.size=w.heap.size+2:=by rw[<-hW];simp
 have r0:W.cell? ⟨w.heap.size,0,none⟩=some (.slice none 0 0):=by rw[<-hW,qJ (by simp),ql rfl];rfl
 have r1:W.cell? ⟨w.heap.size,1,none⟩=some (.slice none 0 0):=by rw[<-hW,qJ (by simp),ql rfl];rfl
 have r2:W.cell? ⟨w.heap.size,2,none⟩=some (.slice none 0 0):=by rw[<-hW,qJ (by simp),ql rfl];rfl
 have r3:W.cell? ⟨w.heap.size,3,none⟩=some (.slice none 0 0):=by rw[<-hW,qJ (by simp),ql rfl];rfl
 have rf:∀o,W.frozen? ⟨w.heap.size,o,none⟩=false:=fun o=>by rw[<-hW,zP (by simp),zx rfl]
 have HL0:Hid (Z4 W w.heap.size (w.heap.size+1) (fun _=>.slice none 0 0) (fun k=>Tm.level true (els.take 0) k)):=by
  refine Z4.new (by omega) (by omega) (xC ?_ ?_ ?_ ?_) (fun k=>?_)
  ·rw[<-hW,ql (by simp)];rfl
  ·rw[<-hW,ql (by simp)];rfl
  ·rw[<-hW,ql (by simp)];rfl
  ·rw[<-hW,ql (by simp)];rfl
  ·rw[<-hW,zx (by simp)]
 have HB0:=qb hb0;have HRR:=qb (And.intro r0 (And.intro r1 (And.intro r2 (And.intro r3 rf))));obtain⟨n,hn⟩:∃n,els.length=n:=⟨_,rfl⟩
 have HN:=qb hn;rw[hn]at hl HR;rw[hn];have QzC:=qb qib;clear hr hb0 r0 r1 r2 r3 rf hn qib;go_enter Tryz.func133,Tryz.ntmps133
 go_wp2_with fail
 go_loopw [4,9] (fun b i wr=>∃(k:Nat) (vs:Nat->Value),k<=n/\b=.bool (Tm.qcV false (els.take k))/\i=.int .i64 k/\Z4 wr w.heap.size (w.heap.size+1) vs (fun j=>Tm.level true (els.take k) j)/\ZM (w.heap.size+1) (fun _=>.slice none 0 0) vs W wr) (fun _ i _=>n-(intOf i).toNat)
 case atStart=>exact⟨0,_,Nat.zero_le _,rfl,rfl,HL0.out,ZM.of (Below.refl _ _)⟩
 case round =>
  obtain⟨k,vs,hk,rfl,rfl,qej,htu⟩:=hrel;have HL:=qb qej;have HT:=qb htu;have hzr:=htu.size;have qh8:=qej.lt;have HBr:Hid (Below w.heap.size w wr):=HB0.out.trans (htu.below (L:=fun k=>Tm.level true (els.take 0) k) HL0.out);clear qej htu;by_cases hlt:k<n
  ·have yo:k<els.length:=by rw[HN.out];exact hlt
   obtain⟨g,off,rfl,hg,c0,c1,c2,c3⟩:=qfZ (by rw[HN.out];exact HR.out.below HBr.out HR.out.2.1) yo;have HLV:=qb (fun j=>Tm.qiR true j els[k] (els.take k));have HLB:=qb (Tm.qiS els[k] (els.take k) false);rw[<-List.take_succ_eq_append_getElem yo]at HLV HLB;have qib:=QzC.out els[k] (List.getElem_mem yo)
   have XO:Hid (∀j,j<4->(Tm.level true (els.take k) j).length<=900000):=fun j _=>by
    have h1:=Tm.qcR true j (els.take k) false
    have h2:(els.take k).length<=n:=by rw[List.length_take,HN.out];omega
    have:(Tm.level true (els.take k) j).length<=(els.take k).length:=h1;omega
   have i1:(0:Int)<=(k:Int):=by omega
   have i2:(k:Int)<(n:Int):=by omega
   generalize els[k]=x at *;obtain⟨p,s,t,v⟩:=x;simp only at c0 c1 c2 c3 qib;generalize Tm.qcV false (els.take k)=bv at *;have hbx:Below wr.heap.size wr (wr.alloc (.cells #[.int .i64 p,.int .i64 s,.int .i64 t,.bool v] 102)):=(Below.refl _ _).alloc (Nat.le_refl _) _;have HBX:=qb hbx;clear hbx;cases hp:(p != 0)
   ·have hp0:p=0:=by simpa using hp
    subst hp0;cases v
    ·cases bv
     ·by_cases hs:s=0
      ·subst hs;by_cases ht:t=0
       ·subst ht;have HL3:Hid (Z4 (wr.alloc (.cells #[.int .i64 0,.int .i64 0,.int .i64 0,.bool false] 102)) w.heap.size (w.heap.size+1) vs (fun j=>Tm.level true (els.take (k+1)) j)):=(HL.out.below HBX.out).congr (fun j hj=>by rw[HLV.out j];exact(qt5 (L:=fun j=>Tm.level true (els.take k) j) j hj).symm);have HT3:=qb (HT.out.trans (ZM.of HBX.out));go_wp2;go_roundw
        case rel=>exact⟨k+1,vs,by omega,by rw[HLB.out];rfl,by go_num,HL3.out,HT3.out⟩
        case measure=>simp[intOf];omega
       ·have Qic:=qb (qjQ (L:=fun j=>Tm.level true (els.take k) j) (x:=⟨0,0,t,false⟩) (by simp[Tm.empty,ht]));go_wp2_with fail
        refine(qaw (w.heap.size+1) w.heap.size ⟨0,0,t,false⟩ vs _ _ (HL.out.below HBX.out) XO.out).mono ?_;rintro e w2 ⟨rfl,vs2,hl2,ht2⟩;have HL2:=qb hl2;have HT2:=qb ((HT.out.trans (ZM.of HBX.out)).trans ht2)
        have HLN:Hid ((jv ⟨0,0,t,false⟩ 3 (fun j=>Tm.level true (els.take k) j) 3).length<=1000000):=by have h1:=qfg ⟨0,0,t,false⟩ 3 (fun j=>Tm.level true (els.take k) j) 3;have h2:=XO.out 3 (by omega);unfold Hid;omega
        clear hl2 ht2;go_wp2_with fail
        refine(qeG (w.heap.size+1) w.heap.size 3 4 65535 vs2 _ _ HL2.out (by omega) rfl HLN.out).mono ?_;rintro e w3 ⟨rfl,vs3,hl3,ht3⟩;have HL3:Hid (Z4 w3 w.heap.size (w.heap.size+1) vs3 (fun j=>Tm.level true (els.take (k+1)) j)):=hl3.congr (fun j hj=>by rw[HLV.out j];exact(Qic.out j hj).symm);have HT3:=qb (HT2.out.trans ht3);clear hl3 ht3;go_wp2;go_roundw
        case rel=>exact⟨k+1,vs3,by omega,by rw[HLB.out];rfl,by go_num,HL3.out,HT3.out⟩
        case measure=>simp[intOf];omega
      ·have Qic:=qb (qjQ (L:=fun j=>Tm.level true (els.take k) j) (x:=⟨0,s,t,false⟩) (by simp[Tm.empty,hs]));go_wp2_with fail
       refine(qaw (w.heap.size+1) w.heap.size ⟨0,s,t,false⟩ vs _ _ (HL.out.below HBX.out) XO.out).mono ?_;rintro e w2 ⟨rfl,vs2,hl2,ht2⟩;have HL2:=qb hl2;have HT2:=qb ((HT.out.trans (ZM.of HBX.out)).trans ht2)
       have HLN:Hid ((jv ⟨0,s,t,false⟩ 3 (fun j=>Tm.level true (els.take k) j) 3).length<=1000000):=by have h1:=qfg ⟨0,s,t,false⟩ 3 (fun j=>Tm.level true (els.take k) j) 3;have h2:=XO.out 3 (by omega);unfold Hid;omega
       clear hl2 ht2;go_wp2_with fail
       refine(qeG (w.heap.size+1) w.heap.size 3 4 65535 vs2 _ _ HL2.out (by omega) rfl HLN.out).mono ?_;rintro e w3 ⟨rfl,vs3,hl3,ht3⟩;have HL3:Hid (Z4 w3 w.heap.size (w.heap.size+1) vs3 (fun j=>Tm.level true (els.take (k+1)) j)):=hl3.congr (fun j hj=>by rw[HLV.out j];exact(Qic.out j hj).symm);have HT3:=qb (HT2.out.trans ht3);clear hl3 ht3;go_wp2;go_roundw
       case rel=>exact⟨k+1,vs3,by omega,by rw[HLB.out];rfl,by go_num,HL3.out,HT3.out⟩
       case measure=>simp[intOf];omega
     ·have HL3:Hid (Z4 (wr.alloc (.cells #[.int .i64 0,.int .i64 s,.int .i64 t,.bool false] 102)) w.heap.size (w.heap.size+1) vs (fun j=>Tm.level true (els.take (k+1)) j)):=(HL.out.below HBX.out).congr (fun j hj=>by rw[HLV.out j];exact(qt4 (L:=fun j=>Tm.level true (els.take k) j) j hj).symm);have HT3:=qb (HT.out.trans (ZM.of HBX.out));go_wp2;go_roundw
      case rel=>exact⟨k+1,vs,by omega,by rw[HLB.out];rfl,by go_num,HL3.out,HT3.out⟩
      case measure=>simp[intOf];omega
    ·exact absurd rfl (qib rfl)
   ·have hp1:p≠0:=by simpa using hp
    have hbe:∀v,Tm.behind bv ⟨p,s,t,v⟩=v:=fun v=>by simp[Tm.behind,hp1]
    rw[hbe]at HLV HLB;cases v
    ·have Qic:=qb (qjQ (L:=fun j=>Tm.level true (els.take k) j) (x:=⟨p,s,t,false⟩) (by simp[Tm.empty,hp1]));clear hbe qib;go_wp2_with fail
     refine(qaw (w.heap.size+1) w.heap.size ⟨p,s,t,false⟩ vs _ _ (HL.out.below HBX.out) XO.out).mono ?_;rintro e w2 ⟨rfl,vs2,hl2,ht2⟩;have HL2:=qb hl2;have HT2:=qb ((HT.out.trans (ZM.of HBX.out)).trans ht2)
     have HLN:Hid ((jv ⟨p,s,t,false⟩ 3 (fun j=>Tm.level true (els.take k) j) 3).length<=1000000):=by have h1:=qfg ⟨p,s,t,false⟩ 3 (fun j=>Tm.level true (els.take k) j) 3;have h2:=XO.out 3 (by omega);unfold Hid;omega
     clear hl2 ht2;go_wp2_with fail
     refine(qeG (w.heap.size+1) w.heap.size 3 4 65535 vs2 _ _ HL2.out (by omega) rfl HLN.out).mono ?_;rintro e w3 ⟨rfl,vs3,hl3,ht3⟩;have HL3:Hid (Z4 w3 w.heap.size (w.heap.size+1) vs3 (fun j=>Tm.level true (els.take (k+1)) j)):=hl3.congr (fun j hj=>by rw[HLV.out j];exact(Qic.out j hj).symm);have HT3:=qb (HT2.out.trans ht3);clear hl3 ht3;go_wp2;go_roundw
     case rel=>exact⟨k+1,vs3,by omega,by rw[HLB.out],by go_num,HL3.out,HT3.out⟩
     case measure=>simp[intOf];omega
    ·have Qic:=qb (qwr (L:=fun j=>Tm.level true (els.take k) j) (x:=⟨p,s,t,true⟩) hp1)
     have HLN:Hid ((Tm.level true (els.take k) 3).length<=1000000):=by have h2:=XO.out 3 (by omega);unfold Hid;omega
     clear hbe qib;go_wp2_with fail
     refine(qeG (w.heap.size+1) w.heap.size 3 4 p vs _ _ (HL.out.below HBX.out) (by omega) rfl HLN.out).mono ?_;rintro e w3 ⟨rfl,vs3,hl3,ht3⟩;have HL3:Hid (Z4 w3 w.heap.size (w.heap.size+1) vs3 (fun j=>Tm.level true (els.take (k+1)) j)):=hl3.congr (fun j hj=>by rw[HLV.out j];exact(Qic.out j hj).symm);have HT3:=qb ((HT.out.trans (ZM.of HBX.out)).trans ht3);clear hl3 ht3;go_wp2;go_roundw
     case rel=>exact⟨k+1,vs3,by omega,by rw[HLB.out],by go_num,HL3.out,HT3.out⟩
     case measure=>simp[intOf];omega
  ·have xU:els.take k=els:=List.take_of_length_le (by rw[HN.out];omega)
   have HLF:Hid (Z4 wr w.heap.size (w.heap.size+1) vs (fun j=>Tm.level true els j)):=by have h:=HL.out;rw[xU]at h;exact h
   have q0:=HLF.out.cell 0 (by omega);have q1:=HLF.out.cell 1 (by omega);have q2:=HLF.out.cell 2 (by omega);have q3:=HLF.out.cell 3 (by omega);have qax:=HT.out.block w.heap.size (by omega) (by omega) (fun _ _ h=>by cases h);have p0:wr.cell? ⟨w.heap.size,0,none⟩=some (.slice none 0 0):=(World.cell?_of_block qax).trans HRR.out.1;have p1:wr.cell? ⟨w.heap.size,1,none⟩=some (.slice none 0 0):=(World.cell?_of_block qax).trans HRR.out.2.1;have p2:wr.cell? ⟨w.heap.size,2,none⟩=some (.slice none 0 0):=(World.cell?_of_block qax).trans HRR.out.2.2.1;have p3:wr.cell? ⟨w.heap.size,3,none⟩=some (.slice none 0 0):=(World.cell?_of_block qax).trans HRR.out.2.2.2.1;have pf:∀o,wr.frozen? ⟨w.heap.size,o,none⟩=false:=fun o=>(World.frozen?_of_block (a:=⟨w.heap.size,o,none⟩) qax).trans (HRR.out.2.2.2.2 o);have pf0:=pf 0;have pf1:=pf 1;have pf2:=pf 2;have pf3:=pf 3
   have hsz:w.heap.size<wr.heap.size:=by omega
   have yL:∀j,j<4->∃aj cj,vs j=.slice aj (Tm.level true els j).length cj:=fun j hj=>(Reads.qn (HLF.out.own j hj)).shape;obtain⟨a0,k0,h0⟩:=yL 0 (by omega);obtain⟨a1,k1,h1⟩:=yL 1 (by omega);obtain⟨a2,k2,h2⟩:=yL 2 (by omega);obtain⟨a3,k3,h3⟩:=yL 3 (by omega);rw[h0]at q0;rw[h1]at q1;rw[h2]at q2;rw[h3]at q3;have HV:=qb (And.intro h0 (And.intro h1 (And.intro h2 h3)));have VC:Hid (Qdf wr w.heap.size vs (fun k=>Tm.level true els k)):=fun j hj=>HLF.out.own j hj
   have Qt3:Hid (∀j,j<4->(vs j).ownBlock≠some w.heap.size):=fun j hj h=>by
    rcases HT.out.at' j hj _ h with⟨_,_,h4⟩|h4
    ·cases h4
    ·omega
   clear xU qax pf h0 h1 h2 h3 yL;go_wp2;have z:=qe1 (v0:=.slice a0 (Tm.level true els 0).length k0) (v1:=.slice a1 (Tm.level true els 1).length k1) (v2:=.slice a2 (Tm.level true els 2).length k2) (v3:=.slice a3 (Tm.level true els 3).length k3) p0 p1 p2 p3;have HBF:=qb (qed (v0:=.slice a0 (Tm.level true els 0).length k0) (v1:=.slice a1 (Tm.level true els 1).length k1) (v2:=.slice a2 (Tm.level true els 2).length k2) (v3:=.slice a3 (Tm.level true els 3).length k3) HBr.out (Nat.le_refl _));have Qmb:Hid (Qdf (xT wr w.heap.size (.slice a0 (Tm.level true els 0).length k0) (.slice a1 (Tm.level true els 1).length k1) (.slice a2 (Tm.level true els 2).length k2) (.slice a3 (Tm.level true els 3).length k3)) w.heap.size vs (fun k=>Tm.level true els k)):=fun j hj=>qO (VC.out j hj) (fun g hg=>qec (fun e=>Qt3.out j hj (by rw[<-e];exact hg)));unfold xT at z HBF Qmb;generalize (((wr.setCell ⟨w.heap.size,0,none⟩ (.slice a0 (Tm.level true els 0).length k0)).setCell ⟨w.heap.size,1,none⟩ (.slice a1 (Tm.level true els 1).length k1)).setCell ⟨w.heap.size,2,none⟩ (.slice a2 (Tm.level true els 2).length k2)).setCell ⟨w.heap.size,3,none⟩ (.slice a3 (Tm.level true els 3).length k3)=W4 at *;obtain⟨z0,z1,z2,z3⟩:=z;refine bodyPost_ret (v:=.agg #[.slice a0 (Tm.level true els 0).length k0,.slice a1 (Tm.level true els 1).length k1,.slice a2 (Tm.level true els 2).length k2,.slice a3 (Tm.level true els 3).length k3]) (by simp[results,Tryz.results133,go_sem,z0,z1,z2,z3]) rfl ⟨vs,?_,Qmb.out,HBF.out⟩;rw[HV.out.1,HV.out.2.1,HV.out.2.2.1,HV.out.2.2.2]
