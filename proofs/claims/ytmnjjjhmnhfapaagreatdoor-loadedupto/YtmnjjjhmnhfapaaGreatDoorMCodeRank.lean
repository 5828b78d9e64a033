import Derived.RegionDies
import Derived.Test.YtmnjjjhmnhfapaaGreatDoorMCodeEnds
namespace Go.Proofs.YtmnjjjhmnhfapaaGreatDoor
set_option maxRecDepth 100000
set_option maxHeartbeats 2000000
open Go.RowKit
variable {r:Option Tm.Ln}{lns:List Tm.Ln}{base bd bm:Nat}{line:Int}{w w':World}{e:Ending}{l:Tm.Ln}
def yZ(r:Option Tm.Ln)(lns:List Tm.Ln)(base bd bm:Nat)(line:Int)(w:World)(e:Ending)(w':World):Prop:=match r with
 | none=>yU e 1/\Below w.heap.size w w'
 | some l=>if Tm.y6 lns l=true then yU e 2/\Below w.heap.size w w' else if l.els.any Tm.zK=true then yU e 4/\Below w.heap.size w w' else
  e=.returned (.tuple #[])/\QB base bm w w'/\∃col vp vw,Rep w' col base bd bm line vp vw (lns++[l])
theorem je(h:r=none)(he:yU e 1)(hb:Below w.heap.size w w'):yZ r lns base bd bm line w e w':=by subst h;exact⟨he,hb⟩
theorem qcD(h:r=some l)(ht:Tm.y6 lns l=true)(he:yU e 2)(hb:Below w.heap.size w w'):yZ r lns base bd bm line w e w':=by
 subst h;unfold yZ;simp only;rw[if_pos ht];exact⟨he,hb⟩
theorem qk4(h:r=some l)(ht:Tm.y6 lns l=false)(hg:l.els.any Tm.zK=true)(he:yU e 4)(hb:Below w.heap.size w w'):yZ r lns base bd bm line w e w':=by
 subst h;unfold yZ;simp only;rw[if_neg (by rw[ht];simp),if_pos hg];exact⟨he,hb⟩
theorem qe6{bd:Nat}{line:Int}(h:r=some l)(ht:Tm.y6 lns l=false)(hg:l.els.any Tm.zK=false)(he:e=.returned (.tuple #[]))(hb:QB base bm w w')
  (hr:∃col vp vw,Rep w' col base bd bm line vp vw (lns++[l])):yZ r lns base bd bm line w e w':=by
 subst h;unfold yZ;simp only;rw[if_neg (by rw[ht];simp),if_neg (by rw[hg];simp)];exact⟨he,hb,hr⟩
theorem qif{n:Int}{ws:List (List UInt8)}(h:ws.length≠2):Tm.qC n ([99]::ws)=none:=by
 rw[Tm.qai (by simp)]
 have:Tm.fits [99] (ws.map Tm.num) 0 false=false:=by
  simp[Tm.fits];intro hx;exact absurd hx h
 rw[this];simp
theorem qqm{n:Int}{a b:List UInt8}:Tm.qC n ([99]::[a,b])=if ze 1114111 a=true/\xY b=true then some ⟨[99],[Tm.num a,Tm.num b],[],n⟩else none:=by
 rw[Tm.qai (by simp)]
 have e:(([a,b].all Tm.zN&&Tm.fits [99] ([a,b].map Tm.num) 0 false)=true)↔(ze 1114111 a=true/\xY b=true):=by
  simp[Tm.fits,Tm.zN,ze,xY];omega
 by_cases h:ze 1114111 a=true/\xY b=true
 ·rw[if_pos h,if_pos (e.2 h)];rfl
 ·rw[if_neg h,if_neg (fun x=>h (e.1 x))]
theorem qxw{α:Type}{l:List α}(h:l.length=2):∃a b,l=[a,b]:=by
 match l,h with
 | [a,b],_=>exact⟨a,b,rfl⟩
theorem ql3(vs:Value)(bs:List ByteArray)(col:Nat->Int)(base bd bm:Nat)(line:Int)(vp vw:Value)(lns:List Tm.Ln)(w:World)(hr:Reads w vs 1 bs.length (bs.map Value.string))(hz:∀b∈bs,b.size<=8192)
  (qL:Rep w col base bd bm line vp vw lns) (hn:lns.length<=8192) :
  Calls Tryz.prog 178 #[.pointer (some ⟨bd,0,none⟩),vs] w fun e w'=>yZ (Tm.qC line ([99]::bs.map fun b=>b.data.toList)) lns base bd bm line w e w':=by
 obtain⟨a,cap,rfl⟩:=hr.shape;by_cases h2:bs.length=2
 case neg =>
  have hd:((bs.length:Int) != 2)=true:=by simp;omega
  have HN:=qb (qif (n:=line) (ws:=bs.map fun b=>b.data.toList) (by simpa using h2));clear h2 qL hr hz;go_enter Tryz.func178,Tryz.ntmps178
  go_wp2_with fail
  refine(zA 1 _).mono ?_;rintro e w' ⟨rfl,rfl⟩;go_wp2;exact⟨rfl,je HN.out rfl (Below.refl _ _)⟩
 obtain⟨b0,b1,rfl⟩:=qxw h2;have hs0:=hz b0 (by simp);have hs1:=hz b1 (by simp);have HP:=qb (qqm (n:=line) (a:=b0.data.toList) (b:=b1.data.toList));obtain⟨g,off,z8,he,hg,hc⟩:=hr.form (by simp);cases he;have c0:=hc 0 _ rfl;have c1:=hc 1 _ rfl;rw[Nat.add_zero]at c0;clear hc hr hz h2;have hd:((2:Int) != 2)=false:=rfl;cases h0:ze 1114111 b0.data.toList
 ·cases h1:xY b1.data.toList
  ·have HN:Hid (Tm.qC line ([99]::[b0,b1].map fun b=>b.data.toList)=none):=by unfold Hid;rw[List.map_cons,List.map_cons,List.map_nil,HP.out,if_neg (by rw[h0];simp)]
   clear qL;go_enter Tryz.func178,Tryz.ntmps178
   go_wp2_with fail
   refine(zl 1 _).mono ?_;rintro e w' ⟨rfl,rfl⟩;go_wp2_with fail
   go_region_dies
   all_goals first|(go_at_call 189;refine(qd8 b0 _ (by unfold maxLen;omega) h0).mono ?_;rintro e w' ⟨rfl,rfl⟩;exact⟨rfl,je HN.out rfl (Below.refl _ _).drew⟩)|(go_at_call 190;refine(qdb b1 _ (by unfold maxLen;omega) h1).mono ?_;rintro e w' ⟨rfl,rfl⟩;exact⟨rfl,je HN.out rfl (Below.refl _ _).drew⟩)
  ·have HN:Hid (Tm.qC line ([99]::[b0,b1].map fun b=>b.data.toList)=none):=by unfold Hid;rw[List.map_cons,List.map_cons,List.map_nil,HP.out,if_neg (by rw[h0];simp)]
   clear qL;go_enter Tryz.func178,Tryz.ntmps178
   go_wp2_with fail
   refine(zl 1 _).mono ?_;rintro e w' ⟨rfl,rfl⟩;go_wp2_with fail
   go_region_dies
   all_goals first|(go_at_call 189;refine(qd8 b0 _ (by unfold maxLen;omega) h0).mono ?_;rintro e w' ⟨rfl,rfl⟩;exact⟨rfl,je HN.out rfl (Below.refl _ _).drew⟩)|(go_wp2_with (go_at_call 190;refine(qfH b1 _ (by unfold maxLen;omega) h1).mono ?_;rintro e w' ⟨rfl,rfl⟩))
 ·cases h1:xY b1.data.toList
  ·have HN:Hid (Tm.qC line ([99]::[b0,b1].map fun b=>b.data.toList)=none):=by unfold Hid;rw[List.map_cons,List.map_cons,List.map_nil,HP.out,if_neg (by rw[h1];simp)]
   clear qL;go_enter Tryz.func178,Tryz.ntmps178
   go_wp2_with fail
   refine(zl 1 _).mono ?_;rintro e w' ⟨rfl,rfl⟩;go_wp2_with fail
   go_region_dies
   all_goals first|(go_at_call 190;refine(qdb b1 _ (by unfold maxLen;omega) h1).mono ?_;rintro e w' ⟨rfl,rfl⟩;exact⟨rfl,je HN.out rfl (Below.refl _ _).drew⟩)|(go_wp2_with (go_at_call 189;refine(qda b0 _ (by unfold maxLen;omega) h0).mono ?_;rintro e w' ⟨rfl,rfl⟩))
   all_goals(try(refine wpAny_ready (rs:=[6]) (by decide +kernel) (by simp) ?_;refine AllReady.cons rfl (fun K hK=>?_) ?_;go_simp;refine hK _ _ ?_;clear hK K;rotate_left;exact AllReady.nil))
   all_goals(refine wpAny_ready (rs:=[7]) (by decide +kernel) (by simp) ?_;refine AllReady.cons rfl (fun K hK=>?_) ?_;go_simp;rotate_left;exact AllReady.nil)
   all_goals(go_at_call 190;refine(qdb b1 _ (by unfold maxLen;omega) h1).mono ?_;rintro e w' ⟨rfl,rfl⟩;exact⟨rfl,je HN.out rfl (Below.refl _ _).drew⟩)
  ·have hq0:0<=Tm.num b0.data.toList/\Tm.num b0.data.toList<=1114111:=by simpa[ze]using h0
   have hq1:1<=Tm.num b1.data.toList/\Tm.num b1.data.toList<=254:=by simpa[xY]using h1
   have HN:Hid (Tm.qC line ([99]::[b0,b1].map fun b=>b.data.toList)=some ⟨[99],[Tm.num b0.data.toList,Tm.num b1.data.toList],[],line⟩):=by unfold Hid;rw[List.map_cons,List.map_cons,List.map_nil,HP.out,if_pos ⟨h0,h1⟩]
   have HF:Hid (Tm.Fit ⟨[99],[Tm.num b0.data.toList,Tm.num b1.data.toList],[],line⟩):=Tm.qsi h0 (by simp[Tm.zN];omega) hq1.1;have HT:Hid (Tm.y6 lns ⟨[99],[Tm.num b0.data.toList,Tm.num b1.data.toList],[],line⟩=(Tm.qd lns (Tm.num b0.data.toList) != 0)):=Tm.qn6 qL.fit rfl;obtain⟨f,pv,sv,yq,hfv,hpd,hsr,qQ⟩:=qL.nd.look hq0.1;have d0:=qL.dr.c0;have dl:=qL.dr.lt;have ZG:=qb qL;have HPD:=qb hpd;have HSR:=qb hsr;have Qdd:=qb qQ;have YY:=qb yq;clear qL hpd hsr qQ yq;obtain⟨pa,pc,rfl⟩:=HPD.out.1.shape;obtain⟨sa,sc,rfl⟩:=HSR.out.rd.shape;go_enter Tryz.func178,Tryz.ntmps178
   go_wp2_with fail
   refine(zl 1 _).mono ?_;rintro e w' ⟨rfl,rfl⟩;go_wp2_with fail
   go_quiet (first|(go_at_call 189;refine Calls.quiet_of_same (qda b0 _ (by unfold maxLen;omega) h0))|(go_at_call 190;refine Calls.quiet_of_same (qfH b1 _ (by unfold maxLen;omega) h1)))
   generalize Tm.num b0.data.toList=r at *;generalize Tm.num b1.data.toList=cls at *;clear h0 h1 HP;have HMD:Hid (Yi (w'.drewN nq) bm lns.length f):=YY.out.same rfl;have HBQ:Hid (Below w'.heap.size w' (w'.drewN nq)):=⟨rfl,rfl,rfl,Nat.le_refl _,fun _ _=>rfl⟩
   have hqs:bd<(w'.drewN nq).heap.size:=dl;have dq:(w'.drewN nq).cell? ⟨bd,0,none⟩=some (.map (some bm)):=d0;have HQS:Hid ((w'.drewN nq).heap.size=w'.heap.size):=rfl;generalize w'.drewN nq=wq at *;go_wp2_with (at_lookup;go_must (refine zQ rfl _ _ rfl bm lns.length f rfl HMD.out r rfl (yV hq0) _ hfv ?_))
   refine(qeY _ _).mono ?_;rintro e w1 ⟨rfl,hb1⟩;have hs1:=hb1.size
   have hsz:wq.heap.size<(wq.alloc (.cells #[.int .i64 (Tm.qd lns r),.slice pa (Tm.parts lns r).length pc,.slice sa (Tm.qI lns r).length sc] 251)).heap.size:=by simp
   have n0:w1.cell? ⟨wq.heap.size,0,none⟩=some (.int .i64 (Tm.qd lns r)):=by rw[hb1.cell (p:=⟨wq.heap.size,0,none⟩) hsz,ql rfl];rfl
   have n1:w1.cell? ⟨wq.heap.size,1,none⟩=some (.slice pa (Tm.parts lns r).length pc):=by rw[hb1.cell (p:=⟨wq.heap.size,1,none⟩) hsz,ql rfl];rfl
   have n2:w1.cell? ⟨wq.heap.size,2,none⟩=some (.slice sa (Tm.qI lns r).length sc):=by rw[hb1.cell (p:=⟨wq.heap.size,2,none⟩) hsz,ql rfl];rfl
   have nf:∀o,w1.frozen? ⟨wq.heap.size,o,none⟩=false:=fun o=>by rw[hb1.frozen (p:=⟨wq.heap.size,o,none⟩) hsz,zx rfl]
   have HB1:Hid (Below wq.heap.size wq w1):=((Below.refl _ _).alloc (Nat.le_refl _) _).trans (hb1.mono (by simp));simp only[World.size_alloc]at hs1
   have e0:w1.cell? ⟨bd,0,none⟩=some (.map (some bm)):=by rw[HB1.out.cell (p:=⟨bd,0,none⟩) hqs];exact dq
   have hne:¬bd=wq.heap.size:=by omega
   have qc8:¬wq.heap.size=bd:=by omega
   clear hb1 hsz;cases hcls:(Tm.qd lns r != 0)
   ·have h00:Tm.qd lns r=0:=by simpa using hcls
    have HT2:Hid (Tm.y6 lns ⟨[99],[r,cls],[],line⟩=false):=by unfold Hid;rw[HT.out,hcls]
    go_wp2_with fail
    refine(zl 2 _).mono ?_;rintro e w1' ⟨rfl,rfl⟩;go_wp2_with fail
    have HM1:Hid (Yi ((w1'.setCell ⟨wq.heap.size,0,none⟩ (.int .i64 cls)).drew) bm lns.length f):=HMD.out.same (by
     rw[show((w1'.setCell ⟨wq.heap.size,0,none⟩ (.int .i64 cls)).drew).heap[bm]?=(w1'.setCell ⟨wq.heap.size,0,none⟩ (.int .i64 cls)).heap[bm]? from rfl,Below.heap_setCell _ _ _ _ (by have:=HMD.out.lt;simp;omega)]
     exact HB1.out.block bm HMD.out.lt)
    obtain⟨w3,zk,hm3,hg3⟩:=HM1.out.put (by unfold maxLen;omega) (yV hq0) (.agg #[.int .i64 cls,.slice pa (Tm.parts lns r).length pc,.slice sa (Tm.qI lns r).length sc]);have HM3:=qb hm3;have HG3:=qb hg3;clear hm3 hg3
    have HBF:Hid (QB base bm w' w3):=by
     have h1:Below wq.heap.size wq (w1'.setCell ⟨wq.heap.size,0,none⟩ (.int .i64 cls)).drew:=(HB1.out.setCell (p:=⟨wq.heap.size,0,none⟩) (Nat.le_refl _) _).drew;have h2:Below w'.heap.size w' (w1'.setCell ⟨wq.heap.size,0,none⟩ (.int .i64 cls)).drew:=HBQ.out.trans (by rw[<-HQS.out];exact h1);have hbl:=ZG.out.dr.lt;have hbd:=ZG.out.dr.from_;exact(QB.of (h2.mono (by omega))).grown HG3.out (by have:=h2.size;omega) (fun j hj=>by cases hj;exact .inr rfl)
    have HRF:Hid (Rep w3 col base bd bm line vp vw (lns++[⟨[99],[r,cls],[],line⟩])):=by
     have h1:Below wq.heap.size wq (w1'.setCell ⟨wq.heap.size,0,none⟩ (.int .i64 cls)).drew:=(HB1.out.setCell (p:=⟨wq.heap.size,0,none⟩) (Nat.le_refl _) _).drew;have h2:Below w'.heap.size w' (w1'.setCell ⟨wq.heap.size,0,none⟩ (.int .i64 cls)).drew:=HBQ.out.trans (by rw[<-HQS.out];exact h1);have hk:ZS w' w3 col col (· ≠-2):=(ZS.below h2).trans (ZS.grown HG3.out ZG.out.nd.hue);exact ZG.out.class Qdd.out HPD.out HSR.out hq0.1 HM3.out hk h00 HF.out
    go_region
    all_goals go_wp2
    all_goals go_end0
    all_goals exact qe6 HN.out HT2.out rfl rfl HBF.out ⟨_,_,_,HRF.out⟩
   ·have HT2:Hid (Tm.y6 lns ⟨[99],[r,cls],[],line⟩=true):=by unfold Hid;rw[HT.out,hcls]
    go_wp2_with fail
    refine(zA 2 _).mono ?_;rintro e w1' ⟨rfl,rfl⟩;go_wp2;exact⟨rfl,qcD HN.out HT2.out rfl (HBQ.out.trans (by rw[<-HQS.out];exact HB1.out))⟩
