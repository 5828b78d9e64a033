import Derived.OrdersHeld
import Derived.Test.YtmnjjjhmnhfapaaGreatDoorMKpBegin
import Derived.Test.YtmnjjjhmnhfapaaGreatDoorMLdOpen
namespace Go.Proofs.YtmnjjjhmnhfapaaGreatDoor
set_option maxRecDepth 100000
set_option maxHeartbeats 8000000
open Go.RowKit
def qac(fn:Func):Code:=match fn.body with
 | some (.seq _ (.seq _ (.seq _ c)))=>c
 | _=>.skip
theorem qmR{P:Program}{fn:Func}{c1 c2 c3 c:Code}(hb:fn.body=some (.seq c1 (.seq c2 (.seq c3 c)))){Q:Exit->Act->World->Prop}{a:Act}{w:World}(h:c.wp P Q a w):(qac fn).wp P Q a w:=by
 unfold qac;rw[hb];exact h
def qm3(n st:Int)(sh:Bool)(bc:Nat):Act:=⟨#[.int .i64 n,.int .i64 st,.bool sh,undef,undef,undef,.pointer none,.pointer (some ⟨bc,0,none⟩),.bool true,undef,undef,undef,undef,undef,undef,undef,undef,undef,.int .i64 n,.int .i64 st,.bool sh,.pointer (some ⟨bc,0,none⟩),.pointer (some ⟨bc,0,none⟩),.bool true,undef,undef,undef,undef,undef,undef,undef,undef,undef,undef,undef,undef,undef,undef,undef,undef,undef,undef,undef,undef,undef,undef,undef,undef,undef,undef,undef,undef,undef,undef,undef,undef,undef,undef,undef,undef,undef,undef,undef,undef,undef,undef,undef,undef,undef,undef,undef,undef,undef,undef,undef,undef,undef,undef,undef,undef,undef,undef,undef,undef,undef,undef,undef,undef],[]⟩
def Qjc(t:Int)(sh:Bool)(lns:List Tm.Ln)(bc bm:Nat)(w2:World)(e:Ending)(w':World):Prop :=
 ∃(F S:Nat->Prop) (bb bx:Nat) (s:Qt),e=.returned (.pointer (some ⟨bb,0,none⟩))/\Bk w' w2.heap.size F S (.slice none 0 0) bb bx bc bm t sh lns [] s/\(qv s=[]/\s.held=[]/\s.given=0)/\Below w2.heap.size w2 w'
theorem qqZ(n st:Int)(sh:Bool)(t:Int)(lns:List Tm.Ln)(bc bm:Nat)(w2:World)(hc2:Jd w2 bc bm t sh lns)(hok:Zt t lns)(hwy:Tm.QdB lns) :
  (qac Tryz.f18).wp Tryz.prog (bodyPost Tryz.prog Tryz.f18 (fun e w'=>∃v,e=.returned v/\Qjc t sh lns bc bm w2 (.returned v) w')) (qm3 n st sh bc) w2:=by
 refine qmR rfl ?_;unfold qm3;have HC2:=qb hc2;have HOK:=qb hok;have HWY:=qb hwy;clear hc2 hok hwy;go_wp2_with fail
 refine(Qsr lns bc bm t sh w2 w2.heap.size HC2.out (Nat.le_refl _)).mono ?_;rintro e w3 ⟨bx,S3,rfl,hx3,hb3,hS3⟩;have HX3:=qb hx3;have HB3:=qb hb3;have hz3:=hb3.size;clear hx3 hb3
 have qq0:qW (qe lns t sh) qab ⟨#[195,161]⟩ ⟨#[49]⟩=0:=by
  unfold qW;rw[if_neg (by decide),if_neg (by rw[qkC];simp)]
 have qc9:qv (zg (qe lns t sh) qab ⟨#[195,161]⟩ ⟨#[49]⟩)=[(⟨#[195,161]⟩,⟨#[49]⟩)]:=by
  rw[qdR qq0,qkC];rfl
 have QxW:=qb qc9;have hac:=HWY.out.qyN t sh
 have XR:Hid (Tm.yd (qe lns t sh) (qv (zg (qe lns t sh) qab ⟨#[195,161]⟩ ⟨#[49]⟩)) ⟨#[97,204,129]⟩=true):=by
  unfold Hid;rw[qc9];simp[Tm.yd,hac]
 have QuU:Hid ((Tm.qcX (qe lns t sh) (qv (zg (qe lns t sh) qab ⟨#[195,161]⟩ ⟨#[49]⟩)) ⟨#[97,204,129]⟩).getD ⟨#[]⟩=⟨#[49]⟩):=by
  unfold Hid;rw[qc9];simp[Tm.qcX,hac]
 have QyS:Hid ((Tm.vM (qe lns t sh) (qv (zg (qe lns t sh) qab ⟨#[195,161]⟩ ⟨#[49]⟩)) ⟨#[]⟩ ⟨#[]⟩).take (5:Int).toNat=[(⟨#[195,161]⟩,⟨#[49]⟩)]):=by
  unfold Hid;rw[qc9];have:=qi9 lns HOK.out.st sh ⟨#[195,161]⟩;unfold Tm.vM;rw[List.filter_cons_of_pos (by unfold Tm.within;rw[decide_eq_true this,decide_eq_true (show(ByteArray.mk #[]).size=0 from rfl)];rfl)];rfl
 have QyT:Hid (qv (z5 (qe lns t sh) (zg (qe lns t sh) qab ⟨#[195,161]⟩ ⟨#[49]⟩) ⟨#[97,204,129]⟩)=[]):=by
  unfold Hid;rw[qc0 (by decide),qc9];simp[Tm.qaH,hac]
 have QyU:Hid ((z5 (qe lns t sh) (zg (qe lns t sh) qab ⟨#[195,161]⟩ ⟨#[49]⟩) ⟨#[97,204,129]⟩).held=[]/\(z5 (qe lns t sh) (zg (qe lns t sh) qab ⟨#[195,161]⟩ ⟨#[49]⟩) ⟨#[97,204,129]⟩).given=0):=by
  unfold Hid;rw[(qhy _ _ _).1,(qhy _ _ _).2,(qi6 _ _ _ _).1,(qi6 _ _ _ _).2];exact⟨rfl,rfl⟩
 clear qc9 hac;go_wp2_with fail
 refine(QgA lns bc bm t sh w2.heap.size S3 bx qab ⟨#[195,161]⟩ ⟨#[49]⟩ w3 (HC2.out.below HB3.out) HOK.out HX3.out hz3).mono ?_;rw[qq0];rintro e w4 ⟨rfl,S4,hx4,hf4,hS4⟩;have HX4:=qb hx4;have hz4:=hf4.size;have HB4:Hid (Below w2.heap.size w2 w4):=HB3.out.trans (hf4.below (fun i hi=>hS3 i hi) hz3);have HC4:=qb (HC2.out.below HB4.out);clear hx4 hf4 qq0;generalize zg (qe lns t sh) qab ⟨#[195,161]⟩ ⟨#[49]⟩=s1 at *;go_wp2_with fail
 refine(Qss lns bc bm t sh w2.heap.size S4 bx s1 ⟨#[97,204,129]⟩ w4 HC4.out HOK.out HX4.out).mono ?_;rw[if_pos (by decide),XR.out,QuU.out];rintro e w5 ⟨rfl,hb5⟩;have HX5:=qb (HX4.out.below hb5);have hz5:=hb5.size;have HB5:Hid (Below w2.heap.size w2 w5):=HB4.out.trans (hb5.mono (by omega));have HC5:=qb (HC2.out.below HB5.out);clear hb5;go_wp2_with fail
 refine(Qi0 lns bc bm t sh w2.heap.size S4 bx s1 ⟨#[]⟩ ⟨#[]⟩ 5 w5 HC5.out HOK.out HX5.out (by omega)).mono ?_;rintro e w6 ⟨hb6,qw⟩;rw[if_neg (by decide),if_neg (by decide),QyS.out]at qw;obtain⟨v6,rfl,xD⟩:=qw;obtain⟨g6,o6,c6,rfl,hg6,hc6⟩:=(Reads.qn xD).form (by simp[qY]);have y0:=hc6 0 (.string ⟨#[195,161]⟩) rfl;have y1:=hc6 1 (.string ⟨#[49]⟩) rfl;rw[Nat.add_zero]at y0;have HX6:=qb (HX5.out.below hb6);have hz6:=hb6.size;have HB6:Hid (Below w2.heap.size w2 w6):=HB5.out.trans (hb6.mono (by omega));have HC6:=qb (HC2.out.below HB6.out);clear hb6 xD hc6;simp only[List.length_cons,List.length_nil,Nat.zero_add];go_wp2_with fail
 refine(QgB lns bc bm t sh w2.heap.size S4 bx s1 ⟨#[97,204,129]⟩ w6 HC6.out HOK.out HX6.out (by omega)).mono ?_;rw[if_pos (by decide),XR.out];rintro e w7 ⟨rfl,S7,hx7,hf7,hS7⟩;have hz7:=hf7.size;have HB7:Hid (Below w2.heap.size w2 w7):=HB6.out.trans (hf7.below (fun i hi=>(HX6.out.from_ i hi).1) (by omega))
 have QN:Hid (Qjc t sh lns bc bm w2 (.returned (.pointer (some ⟨w7.heap.size,0,none⟩))) (w7.alloc (.cells #[.pointer (some ⟨bc,0,none⟩),.pointer (some ⟨bx,0,none⟩),.slice none 0 0,.bool true] 59))):=by
  have hb8:Below w7.heap.size w7 (w7.alloc (.cells #[.pointer (some ⟨bc,0,none⟩),.pointer (some ⟨bx,0,none⟩),.slice none 0 0,.bool true] 59)):=(Below.refl _ _).alloc (Nat.le_refl _) _;have hx8:=hx7.below hb8;refine⟨fun i=>S7 i\/i=w7.heap.size,S7,w7.heap.size,bx,_,rfl,⟨⟨w2,rfl,HC2.out,HB7.out.trans (hb8.mono (by omega))⟩,HOK.out,hx8,fun i hi=>.inl hi,fun i hi=>?_,.inr rfl,fun hi=>?_,?_,?_,?_,?_,fun o=>?_,World.ownsRow_nil _ _ _ _,fun g hg=>(by cases hg),fun f hf=>(by cases hf)⟩,⟨QyT.out,QyU.out⟩,?_⟩
  ·rcases hi with hi|hi
   ·exact hx8.from_ i hi
   ·subst hi;exact⟨by omega,by simp⟩
  ·have:=(hx7.from_ _ hi).2;omega
  ·rw[ql rfl];rfl
  ·rw[ql rfl];rfl
  ·rw[ql rfl];rfl
  ·rw[ql rfl];rfl
  ·rw[zx rfl]
  ·exact HB7.out.trans (hb8.mono (by omega))
 clear hx7 hf7 hS7;go_wp2;go_ret;exact⟨_,rfl,QN.out⟩
namespace Sim
open Go.Conc
variable {w:World}
theorem AV.three{K:Kr}{x y u v s t:Value}(h:VR K x y)(k:VR K u v)(l:VR K s t):AV K #[x,u,s] #[y,v,t]:=(((AV.empty K).push h).push k).push l
theorem qdZ{bc bm:Nat}{st:Int}{sh:Bool}{lns:List Tm.Ln}(h:Jd w bc bm st sh lns)(τ:Tape):Jd (qg w τ) bc bm st sh lns:=⟨h.lt,h.c0,h.c1,h.c2,h.rd,h.fit,h.few⟩
theorem qa8{P:Program}{c c':Code}{Q Q':Exit->Act->World->Prop}{a a':Act}(hc:c=c')(ha:a=a')(hm:∀e a w,Q' e a w->Q e a w)(h:c'.wp P Q' a' w):c.wp P Q a w:=by
 subst hc;subst ha;intro b k cs;obtain⟨e,a1,w1,q,r⟩:=h b k cs;exact⟨e,a1,w1,hm _ _ _ q,r⟩
theorem qkH{main:Bool}{Ro:Nat->Prop}{S:(Nat->Prop)->Goroutine->World->Prop}(h:Way Tryz.prog main Ro S){K:Kr}{M:Nat->Prop}{b:Frame}{a a':Act}{W:World}{ops:Array Oper}{i:Nat}{rest:List Nat}{k:List Item}{cs:List Frame}{o:Oper}(T:Tie Tryz.prog fs1 Ro K M a a' w W)(hk:b.kind≠.early)
  (ho:ops[i]?=some o) (hwt:Region.wanted o (yielded ops a'.tmps)=true) {n st:Int} {sh:Bool} {kt:Nat} {t:Int} (hkt:kt<256) (hop:∀w:World,Calls Tryz.prog 55 #[.int .i64 n,.int .i64 st,.bool sh] w fun e w'=>QgF kt t sh w e w')
  (hr:∀W1,(execOp a'.eval o).run Tryz.prog W1=.ok (.enter 18 #[.int .i64 n,.int .i64 st,.bool sh]) W1) (he:∀W1,(execOp a'.eval o).events Tryz.prog W1 #[]=#[])
  (next:∀(K0 K1:Kr) (M1:Nat->Prop) (lns:List Tm.Ln) (bc bm:Nat) (w0 W0 w1 W1:World) (v v':Value),K.le K0->K0.le K1->Grown K M K1 M1->WR Tryz.prog Ro K0 w0 W0->(∃b0,K0.B bc b0)->Pre w w0->Xk w0 w.heap.size bc bm t sh lns->Zt t lns->Tm.zH (Tm.xh kt) t=(lns,0,0)->Qjc t sh lns bc bm w0 (.returned v) w1->VR K1 v v'->Tie Tryz.prog fs1 Ro K1 M1 (a.put o.dst v) (a'.put o.dst v') w1 W1 ->
   S M1 (G (b.at (a'.put o.dst v') (.inRegion ops rest::k)) cs) W1) :
  S M (G (b.at a' (.inRegion ops (i::rest)::k)) cs) W:=by
 have hkb:(base 18).kind≠.early:=by show CallKind.normal≠CallKind.early;nofun
 refine Way.enter h T hk ho hwt hr he (xs:=#[.int .i64 n,.int .i64 st,.bool sh]) Tryz.func18 rfl (AV.three (.int .i64 n) (.int .i64 st) (.bool sh)) (fun T1=>?_);simp only[Tryz.ntmps18]at T1⊢;refine h.seq T1.lt ?_;refine h.region T1.lt ?_;refine Way.move h T1 hkb rfl rfl (.inr rfl) rfl (fun T2=>?_);refine h.qx T2.lt ?_;refine h.seq T2.lt ?_;refine h.region T2.lt ?_;refine Way.move h T2 hkb rfl rfl (.inl rfl) rfl (fun T3=>?_);refine Way.move h T3 hkb rfl rfl (.inl rfl) rfl (fun T4=>?_);refine Way.move h T4 hkb rfl rfl (.inl rfl) rfl (fun T5=>?_)
 refine Way.call h qbE T5 hkb rfl rfl (f:=55) (ys:=#[.int .i64 n,.int .i64 st,.bool sh]) (fun W1=>by kernel_rfl) (fun W1=>by kernel_rfl) (by kernel_rfl) ⟨_,Tryz.func55,rfl⟩ (xs:=#[.int .i64 n,.int .i64 st,.bool sh]) (AV.three (.int .i64 n) (.int .i64 st) (.bool sh))
  (R:=fun v w1=>∃(bc bm:Nat) (lns:List Tm.Ln),v=.pointer (some ⟨bc,0,none⟩)/\Xk w1 w.heap.size bc bm t sh lns/\Zt t lns/\Tm.Qb3 lns/\Tm.zH (Tm.xh kt) t=(lns,0,0)/\Tm.QdB lns/\Pre w w1) (fun τ=>?_) ?_
 ·refine(hop _).mono ?_;rintro e w1 ⟨bc,bm,lns,rfl,hc1,hok,hktab,hnt,hb1⟩;refine⟨_,rfl,bc,bm,lns,rfl,hc1,hok,hktab,hnt,?_,⟨hb1.4,hb1.5⟩⟩;have h:=Tm.qsG hkt
  have hl:lns=Tm.jL kt:=by
   have hst:=(Tm.qbW hnt).2;unfold Tm.zH at hnt;rw[if_neg (by omega)]at hnt;split at hnt
   ·simp at hnt
   ·unfold Tm.jL;generalize Tm.qF [] 1 (Tm.split 10 (Tm.xh kt))=p at hnt⊢;obtain⟨l,o⟩:=p
    cases o with
    | none=>simp at hnt;exact hnt.1.symm
    | some q=>obtain⟨m,e⟩:=q;simp at hnt;exact hnt.1.symm
  rw[hl];exact Tm.QdB.of h
 rintro K2 M2 v v2 w2 W2 g2 ⟨bc,bm,lns,rfl,hco2,hok,hktab,hnt,hwy,hb2⟩ hv2 T6;have hc2:=hco2.here
 cases hv2 with
 | ptr _ p2 hp2 =>
 refine Way.move h T6 hkb rfl rfl (.inr rfl) rfl (fun T7=>?_);refine h.qx T7.lt ?_;refine h.seq T7.lt ?_;refine h.region T7.lt ?_;refine Way.move h T7 hkb rfl rfl (.inl rfl) rfl (fun T8=>?_)
 refine Way.call h qbE T8 hkb rfl rfl (f:=56) (ys:=#[.pointer (some p2)]) (fun W1=>by kernel_rfl) (fun W1=>by kernel_rfl) (by kernel_rfl) ⟨_,Tryz.func56,rfl⟩ (xs:=#[.pointer (some ⟨bc,0,none⟩)]) (AV.one (.ptr _ _ hp2))
  (R:=fun v w1=>v=.bool true/\Pre w2 w1/\Jd w1 bc bm t sh lns) (fun τ=>?_) ?_
 ·refine(qsC lns bc bm t sh _ (qdZ hc2 τ) hok hktab).mono ?_;rintro e w3 ⟨rfl,hb3⟩;exact⟨_,rfl,rfl,⟨hb3.4,hb3.5⟩,(qdZ hc2 τ).below hb3⟩
 rintro K3 M3 v v3 w3 W3 g3 ⟨rfl,hb3,hc3⟩ hv3 T9;cases hv3;refine Way.move h T9 hkb rfl rfl (.inr rfl) rfl (fun T10=>?_);refine h.qx T10.lt ?_;refine Way.rest h qbE T10 ⟨by simp only[put_defers],by simp only[put_defers]⟩ Tryz.func18 rfl (by kernel_rfl) (R:=fun v w'=>∃τ,Qjc t sh lns bc bm (qg w3 τ) (.returned v) w') (fun τ=>qa8 (c':=qac Tryz.f18) (a':=qm3 n st sh bc) (by kernel_rfl) (by kernel_rfl) (fun e a1 w1 q=>?_) (qqZ n st sh t lns bc bm (qg w3 τ) (qdZ hc3 τ) hok hwy)) ?_
 ·cases e with
  | normal=>obtain⟨q1,v,q2,x,q3,q4⟩:=q;cases q3;exact⟨q1,v,q2,v,rfl,τ,q4⟩
  | ret=>obtain⟨q1,v,q2,x,q3,q4⟩:=q;cases q3;exact⟨q1,v,q2,v,rfl,τ,q4⟩
  | panic chain=>obtain⟨q1,x,q3,q4⟩:=q;cases q3
  | outgrown=>obtain⟨x,q3,q4⟩:=q;cases q3
  | exit id=>exact q.elim
  | goto l=>exact q.elim
 rintro K4 M4 v v' w4 W4 g4 ⟨τ,qw⟩ hv4 hw4 km4 lt4 fs4
 have qbB:(b.at a' (.inRegion ops (i::rest)::k)).finish v'=b.at (a'.put o.dst v') (.inRegion ops rest::k):=by rw[Frame.finish_at,ho];rfl
 rw[qbB];have g:=(g2.trans g3).trans g4;exact next K3 K4 M4 lns bc bm (qg w3 τ) W3 w4 W4 v v' (g2.le.trans g3.le) g4.le g (T10.wr.qg τ) ⟨_,g3.le.b _ _ hp2.block⟩ ((hb2.trans hb3).trans ⟨Nat.le_refl _,fun _ _=>rfl⟩) (hco2.stays (Nat.le_refl _) hb3.size (fun g _ hg=>hb3.block g hg)) hok hnt qw hv4 (T.back g.le hv4 hw4 km4 lt4 o.dst)
end Sim
namespace Sim
variable {Q S F:Nat->Prop}{w:World}{bm bc X bx:Nat}{lns:List Tm.Ln}{st:Int}{sh:Bool}{s:Qt}{fs:List Tm.Fact}
theorem quV{b:Nat}{es:Array MapEntry}{c:Nat}(h:w.heap[b]?=some (.map es c)):(laid Q w).heap[b]?=some (.map es c):=by
 rw[qb5,h];by_cases hq:Q b
 ·simp[hq,qd0]
 ·simp[hq]
theorem qcP{v:Value}{size n:Nat}{xs:List Value}(h:Reads w v size n xs):Reads (laid Q w) v size n xs:=by
 obtain⟨h1,h2,a,cap,h3,h4,h5⟩:=h;refine⟨h1,fun g hg=>by rw[jH];exact h2 g hg,a,cap,h3,h4,fun j u hj=>?_⟩;obtain⟨g,off,e1,e2⟩:=h5 j u hj;exact⟨g,off,e1,by rw[xi];exact e2⟩
theorem qsW{v:Value}{ls:List Tm.Ln}(h:XH w v ls):XH (laid Q w) v ls:=by
 obtain⟨h1,a,cap,h3,h4,h5⟩:=h;refine⟨fun g hg=>by rw[jH];exact h1 g hg,a,cap,h3,h4,fun k hk=>?_⟩;obtain⟨g,off,x1,x2,e1,e2,e3,e4,e5⟩:=h5 k hk;exact⟨g,off,x1,x2,e1,by rw[xi];exact e2,by rw[xi];exact e3,qcP e4,qcP e5⟩
theorem quW{b n:Nat}{f:Int->Value}(h:Yi w b n f):Yi (laid Q w) b n f:=by
 obtain⟨D,⟨es,c,hx,r⟩,hf⟩:=h;exact⟨D,⟨es,c,quV hx,r⟩,hf⟩
theorem qq1(h:ZX w bm lns):ZX (laid Q w) bm lns:=by
 obtain⟨f,h1,h2⟩:=h;refine⟨f,quW h1,fun r hr=>?_⟩;obtain⟨vp,vs,e1,e2,e3⟩:=h2 r hr;exact⟨vp,vs,e1,qcP e2,qsW e3⟩
theorem qsX(h:Jd w bc bm st sh lns):Jd (laid Q w) bc bm st sh lns :=
 ⟨by rw[jH];exact h.lt,by rw[xi];exact h.c0,by rw[xi];exact h.c1,by rw[xi];exact h.c2,qq1 h.rd,h.fit,h.few⟩
theorem qkI(Q:Nat->Prop)(w:World):Qy Q w (laid Q w):=⟨rfl,rfl,rfl,by rw[jH];exact Nat.le_refl _,fun i _ hq=>qeW Q w hq⟩
theorem qwN(h:Ix w X S bx bc st sh lns s)(hq:∀i,Q i->i<X):Ix (laid Q w) X S bx bc st sh lns s :=
 h.vV (qkI Q w) (fun i hi hQ=>absurd (h.from_ i hi).1 (by have:=hq i hQ;omega))
theorem qoS{vf:Value}{bb:Nat}(h:Bk w X F S vf bb bx bc bm st sh lns fs s)(hq:∀i,Q i->i<X):Bk (laid Q w) X F S vf bb bx bc bm st sh lns fs s:=by
 have hf:=qkI Q w;have hl:=(h.from_ bb h.own).2;have hn:∀i,F i->¬Q i:=fun i hi hQ=>absurd (h.from_ i hi).1 (by have:=hq i hQ;omega);obtain⟨W,hW,hC,hb⟩:=h.base
 refine⟨⟨laid Q W,by rw[jH];exact hW,qsX hC,⟨hb.1,hb.2,hb.3,by rw[jH,jH];exact hb.4,fun i hi=>?_⟩⟩,h.ok,qwN h.ix hq,h.sub,fun i hi=>by rw[jH];exact h.from_ i hi,h.own,h.jM,by rw[xi];exact h.c0,by rw[xi];exact h.c1,by rw[xi];exact h.c2,by rw[xi];exact h.c3,
  fun o=>by rw[hf.frozen (p:=⟨bb,o,none⟩) hl (hn bb h.own)];exact h.free o,hf.owns h.row (fun g e=>hn g (h.xt g e).1),h.xt,h.short⟩
 rw[qb5,qb5,hb.5 i hi]
theorem qwO(h:Ix w X S bx bc st sh lns s)(τ:Tape):Ix (qg w τ) X S bx bc st sh lns s:=by
 obtain⟨F,B,V,v,g,hi⟩:=h.mem;exact⟨h.from_,h.own,h.c0,h.c3,h.free,⟨F,B,V,v,g,⟨hi.c1,hi.c2,hi.now,hi.held,hi.vS,hi.hS,hi.fS,hi.qem,hi.inj,hi.rows⟩⟩,h.ok⟩
theorem qo8{vf:Value}{bb:Nat}(h:Bk w X F S vf bb bx bc bm st sh lns fs s)(τ:Tape):Bk (qg w τ) X F S vf bb bx bc bm st sh lns fs s:=by
 obtain⟨W,hW,hC,hb⟩:=h.base;exact⟨⟨qg W τ,hW,qdZ hC τ,⟨hb.1,rfl,hb.3,hb.4,hb.5⟩⟩,h.ok,qwO h.ix τ,h.sub,h.from_,h.own,h.jM,h.c0,h.c1,h.c2,h.c3,h.free,h.row,h.xt,h.short⟩
end Sim
namespace Ord
section
variable {P:Program}{ops:Array Oper}{Q:Exit->Act->World->Prop}{md:Region.Mode}{S:World->Prop}
variable {i n:Nat}{o:Oper}{l:Array Bool}{a:Act}{w:World}
def YP(P:Program)(md:Region.Mode)(ops:Array Oper)(Q:Exit->Act->World->Prop)(S:World->Prop):Nat->Array Bool->Act->World->Prop
 | 0,l,a,w=>Region.ready md ops l=[]/\Q .normal a w
 | n+1,l,a,w=>(Region.ready md ops l=[]->Q .normal a w)/\∀i∈Region.ready md ops l,wpOp P ops Q i (fun a' w'=>((∃y,(l.setIfInBounds i true).getD y true=false)->S w')/\YP P md ops Q S n (l.setIfInBounds i true) a' w') a w
theorem YP.any:∀{n:Nat} {l:Array Bool} {a:Act} {w:World},YP P md ops Q S n l a w->wpAny P md ops Q n l a w
 | 0,_,_,_,h=>h
 | _+1,_,_,_,h=>⟨h.1,fun i hi=>wpOp_mono (fun _ _ x=>YP.any x.2) (h.2 i hi)⟩
theorem YP.first{y:Nat}{oy:Oper}{v:Value}(hi:ops[i]?=some o)(qxX:∀(j:Nat) (o:Oper) cs b,ops[j]?=some o->o.op≠.select cs b)(hQ:∀c a w,Q (.panic c) (a.put o.dst v) w->Q (.panic c) a w)(hoy:ops[y]?=some oy)(hw:∃e∈oy.after,Region.binds md e=true/\e.on=i)(hyi:y≠i)(n:Nat) :
  ∀(l:Array Bool) (a:Act) (w:World),(∀j oj,ops[j]?=some oj->j≠i->l.getD j true=false->(∀e∈oj.after,Region.binds md e=true->e.on≠i)->o.apart ops oj=true)->l.getD y true=false ->
   i∈Region.ready md ops l->YieldsIf P ops S o v a->S w->YP P md ops Q S n (l.setIfInBounds i true) (a.put o.dst v) w->YP P md ops Q S (n+1) l a w:=by
 induction n with
 | zero =>
  intro l a w _ _ hr hy hS H;refine⟨fun h=>absurd hr (by rw[h];nofun),fun j hj=>?_⟩;by_cases e:j=i
  ·subst e;exact hy.wpOp hi hS ⟨fun _=>hS,H⟩
  ·have q:=ready_mono hj e;rw[H.1]at q;cases q
 | succ n ih =>
  intro l a w qdQ hun hr hy hS H;refine⟨fun h=>absurd hr (by rw[h];nofun),fun j hj=>?_⟩;by_cases e:j=i
  ·subst e;exact hy.wpOp hi hS ⟨fun _=>hS,H⟩
  obtain⟨hjn,oj,hoj,qQ⟩:=mem_ready.1 hj;have hin:=(mem_ready.1 hr).1
  have jM:∀x∈oj.after,Region.binds md x=true->x.on≠i:=fun x hx hb q=>by
   have h1:=qQ x hx hb;rw[q]at h1;by_cases hlt:i<l.size
   ·simp[hlt]at hin h1;rw[hin]at h1;cases h1
   ·simp[Array.getElem?_eq_none (Nat.not_lt.1 hlt)]at h1
  have hjy:j≠y:=fun q=>by
   subst q;rw[hoj]at hoy;cases hoy;obtain⟨x,h1,h2,h3⟩:=hw;exact jM x h1 h2 h3
  have h2:=wpOp_putIf hoj (qdQ j oj hoj e hjn jM) (fun cs b=>qxX i o cs b hi) (fun cs b=>qxX j oj cs b hoj) hQ hy (H.2 j (ready_mono hj e))
  have left:((l.setIfInBounds i true).setIfInBounds j true).getD y true=false:=by rw[getD_set_ne true hjy,getD_set_ne true (Ne.symm hyi)];exact hun
  refine wpOp_mono (fun a' w' x=>?_) h2;have hS':=x.2.1 ⟨y,left⟩;refine⟨fun _=>hS',ih (l.setIfInBounds j true) a' w' (fun k ok hk hki hkn hno=>qdQ k ok hk hki ?_ hno) (by rw[getD_set_ne true hjy];exact hun) (ready_mono hr (Ne.symm e)) x.1 hS' ?_⟩
  ·by_cases q:j=k
   ·subst q;exact hjn
   ·rwa [getD_set_ne true q]at hkn
  ·rw[Array.setIfInBounds_comm _ _ e];exact x.2.2
theorem YP.take{y n:Nat}{oy:Oper}{v:Value}(hi:ops[i]?=some o)(hoy:ops[y]?=some oy)(hs:Region.noSelect ops=true)(hf:Region.free md ops l i=true)(hr:(Region.ready md ops l).contains i=true)(hw:(oy.after.any fun e=>Region.binds md e&&e.on == i)=true)(hyi:y≠i)(hun:l.getD y true=false)(hQ:∀c a w,Q (.panic c) (a.put o.dst v) w->Q (.panic c) a w)
  (hwt:Region.wanted o (yielded ops a.tmps)=true) (hy:∀w,S w->(execOp a.eval o).run P w=.ok (.value v) w) (hS:S w) (h:YP P md ops Q S n (l.setIfInBounds i true) (a.put o.dst v) w):YP P md ops Q S (n+1) l a w:=by
 refine YP.first hi (Region.noSelect_spec hs) hQ hoy ?_ hyi n l a w (Region.free_spec hi hf) hun (by simpa using hr) (.inl ⟨hwt,hy⟩) hS h;obtain⟨e,h1,h2⟩:=Array.any_eq_true'.1 hw;simp only[Bool.and_eq_true,beq_iff_eq]at h2;exact⟨e,h1,h2⟩
theorem YP.one(hr:Region.ready md ops l=[i])(hi:ops[i]?=some o)(hwt:Region.wanted o (yielded ops a.tmps)=true)(h:if Region.wanted o (yielded ops a.tmps)=true then Oper.wp P o a w (fun a' w'=>S w'/\YP P md ops Q S n (l.setIfInBounds i true) a' w') Q else False):YP P md ops Q S (n+1) l a w:=by
 refine⟨fun e=>(by rw[hr]at e;cases e),fun j hj=>?_⟩;rw[hr,List.mem_singleton]at hj;subst hj;unfold wpOp;rw[hi];dsimp only;rw[if_pos hwt];rw[if_pos hwt]at h;exact .inl (Oper.wp_mono (fun _ _ x=>⟨fun _=>x.1,x.2⟩) h)
theorem YP.step(hr:Region.ready md ops l=[i])(hi:ops[i]?=some o)(hwt:Region.wanted o (yielded ops a.tmps)=true)(h:Oper.wp P o a w (fun a' w'=>S w'/\YP P md ops Q S n (l.setIfInBounds i true) a' w') Q):YP P md ops Q S (n+1) l a w :=
 YP.one hr hi hwt (by rw[if_pos hwt];exact h)
theorem YP.last(hr:Region.ready md ops l=[i])(hi:ops[i]?=some o)(hwt:Region.wanted o (yielded ops a.tmps)=true)(qQ:((l.setIfInBounds i true).all id)=true)(qv6:Region.ready md ops (l.setIfInBounds i true)=[])(h:Oper.wp P o a w (fun a' w'=>Q .normal a' w') Q):YP P md ops Q S (n+1) l a w:=by
 refine⟨fun e=>(by rw[hr]at e;cases e),fun j hj=>?_⟩;rw[hr,List.mem_singleton]at hj;subst hj;unfold wpOp;rw[hi];dsimp only;rw[if_pos hwt];refine .inl (Oper.wp_mono (fun _ _ x=>⟨fun⟨y,hy⟩=>?_,?_⟩) h)
 ·exfalso;rw[Array.all_eq_true]at qQ;by_cases hlt:y<(l.setIfInBounds j true).size
  ·have:=qQ y hlt;rw[Array.getD_eq_getD_getElem?,Array.getElem?_eq_getElem hlt]at hy;simp at this hy;rw[hy]at this;cases this
  ·rw[Array.getD_eq_getD_getElem?,Array.getElem?_eq_none (Nat.not_lt.1 hlt)]at hy;cases hy
 ·cases n with
  | zero=>exact⟨qv6,x⟩
  | succ n=>exact⟨fun _=>x,fun k hk=>by rw[qv6]at hk;cases hk⟩
theorem YP.begin{id:Nat}(hm:P.follows .mixedOrders=true)(h:YP P .any ops Q S ops.size (Array.replicate ops.size false) a {w with drawn:=w.drawn+1}):(Code.region id ops true).wp P Q a w:=wp_region_any hm h.any
