import Derived.Test.YtmnjjjhmnhfapaaGreatDoorMCodeAny
import Derived.Test.YtmnjjjhmnhfapaaGreatDoorMRefNew
namespace Go.Proofs.YtmnjjjhmnhfapaaGreatDoor
set_option maxRecDepth 100000
set_option maxHeartbeats 2000000
open Go.RowKit
variable {w w':World}{col:Nat->Int}{base k bm:Nat}{v:Value}{ls lns:List Tm.Ln}{q l:List Int}{p:Int->Bool}
def XH(w:World)(v:Value)(ls:List Tm.Ln):Prop :=
 (∀g,v.ownBlock=some g->g<w.heap.size) /\
 ∃a cap,v=.slice a ls.length cap/\(ls.length<=cap/\cap<=maxLen)/\∀k (hk:k<ls.length),∃g off x1 x2,a=some ⟨g,off,none⟩/\w.cell? ⟨g,off+k * 2,none⟩=some x1/\w.cell? ⟨g,off+k * 2+1,none⟩=some x2 /\
  Reads w x1 1 ls[k].qh.length (ints ls[k].qh)/\Reads w x2 4 ls[k].els.length (qG ls[k].els)
theorem Ji.rd{cl:Int}(h:Ji w col base 238 false cl v ls):XH w v ls:=by
 obtain⟨xs,hl,hr,hok⟩:=h;have hrd:=Reads.qn hr.1;refine⟨hrd.2.1,?_⟩;obtain⟨_,_,a,cap,rfl,qV,hc⟩:=hrd;refine⟨a,cap,rfl,qV,fun k hk=>?_⟩
 have hk':k<xs.length:=by omega
 obtain⟨h1,h2⟩:=hok k hk hk';obtain⟨g,off,rfl,c0⟩:=hc (k * 2) _ (by have:=qaO hl hk hk' (f:=0) (by omega);simpa using this);obtain⟨g1,zL,he,c1⟩:=hc (k * 2+1) _ (by have:=qaO hl hk hk' (f:=1) (by omega);simpa using this);cases he;exact⟨g,off,xs[k].1,xs[k].2,rfl,c0,c1,h1.1,h2.1⟩
theorem XH.shape{w:World}{v:Value}{ls:List Tm.Ln}(h:XH w v ls):∃a cap,v=.slice a ls.length cap:=by
 obtain⟨_,a,cap,rfl,_⟩:=h;exact⟨a,cap,rfl⟩
theorem XH.below(h:XH w v ls)(hb:Below w.heap.size w w'):XH w' v ls:=by
 obtain⟨hlt,a,cap,rfl,qV,hc⟩:=h;refine⟨fun g hg=>Nat.lt_of_lt_of_le (hlt g hg) hb.size,a,cap,rfl,qV,fun k hk=>?_⟩;obtain⟨g,off,x1,x2,rfl,c0,c1,h1,h2⟩:=hc k hk;have hg:=hlt g rfl;exact⟨g,off,x1,x2,rfl,by rw[hb.cell (p:=⟨g,off+k * 2,none⟩) hg];exact c0,by rw[hb.cell (p:=⟨g,off+k * 2+1,none⟩) hg];exact c1,h1.below hb h1.2.1,h2.below hb h2.2.1⟩
theorem XH.at{a:Option Addr}{m cap:Nat}(h:XH w (.slice a m cap) ls)(hk:k<ls.length) :
  ∃g off x1 x2,a=some ⟨g,off,none⟩/\g<w.heap.size/\w.cell? ⟨g,off+k * 2,none⟩=some x1/\w.cell? ⟨g,off+k * 2+1,none⟩=some x2/\Reads w x1 1 ls[k].qh.length (ints ls[k].qh)/\Reads w x2 4 ls[k].els.length (qG ls[k].els):=by
 obtain⟨hlt,a,cap,he,_,hc⟩:=h;cases he;obtain⟨g,off,x1,x2,rfl,h⟩:=hc k hk;exact⟨g,off,x1,x2,rfl,hlt g rfl,h⟩
theorem qlZ(hf:∀o∈lns,Tm.Fit o){r:Int}:∀o∈Tm.qI lns r,o.els≠[]:=by
 intro o ho;have h1:=List.mem_filter.1 ho;have h2:=(hf o h1.1).kinds;rcases h2 with h2|h2|h2
 ·have:=h1.2;simp[Tm.xA,h2.1]at this
 ·have:=h1.2;simp[Tm.xA,h2.1]at this
 ·exact h2.2
def x9(ls:List Tm.Ln)(q:List Int):List Tm.El:=match ls.find? fun o=>decide (o.qh=q)with
 | some o=>o.els
 | none=>[]
theorem qtS(h:((ls.take k).find? fun o=>decide (o.qh=q))=none)(hk:k<ls.length)(hx:decide (ls[k].qh=q)=false):((ls.take (k+1)).find? fun o=>decide (o.qh=q))=none:=by
 rw[List.take_succ_eq_append_getElem hk,List.find?_append,h];simpa using hx
theorem qwq(h:((ls.take k).find? fun o=>decide (o.qh=q))=none)(hk:k<ls.length)(hx:decide (ls[k].qh=q)=true):x9 ls q=ls[k].els:=by
 have e:(ls.find? fun o=>decide (o.qh=q))=some ls[k]:=by
  conv=>lhs;rw[<-List.take_append_drop (k+1) ls]
  rw[List.take_succ_eq_append_getElem hk,List.find?_append,List.find?_append,h];simp[hx]
 rw[x9,e]
theorem qp2(h:∀o∈ls,o.els≠[]):decide (0<(x9 ls q).length)=ls.any fun o=>decide (o.qh=q):=by
 unfold x9
 cases hf:ls.find? fun o=>decide (o.qh=q)with
 | none =>
  rw[List.find?_eq_none]at hf
  symm
  simp only[List.length_nil,Nat.lt_irrefl,decide_false];rw[List.any_eq_false];exact hf
 | some o =>
  have h1:=h o (List.mem_of_find?_eq_some hf);have h2:=List.find?_some hf;have h3:(ls.any fun o=>decide (o.qh=q))=true:=List.any_eq_true.2 ⟨o,List.mem_of_find?_eq_some hf,h2⟩;rw[h3];simp only[decide_eq_true_eq];exact List.length_pos_iff.2 h1
theorem qr3(vs vr:Value)(ls:List Tm.Ln)(qs:List Int)(w:World)(he:XH w vs ls)(h2:Reads w vr 1 qs.length (ints qs))(hl:ls.length<=1000000)(hr:∀o∈ls,o.qh.length<=1000000)(hl':qs.length<=1000000) :
  Calls Tryz.prog 162 #[.agg #[vs],vr] w fun e w'=>∃v,e=.returned v/\Reads w v 4 (x9 ls qs).length (qG (x9 ls qs))/\Below w.heap.size w w':=by
 obtain⟨a,cap,rfl⟩:=he.shape;obtain⟨a',z8,rfl⟩:=h2.shape;have HE:=qb he;have H2:=qb h2;have HR:=qb hr;clear he h2 hr;go_enter Tryz.func162,Tryz.ntmps162
 go_wp2;go_loopw [10] (fun i wr=>∃k:Nat,k<=ls.length/\i=.int .i64 k/\((ls.take k).find? fun o=>decide (o.qh=qs))=none/\Below w.heap.size w wr) (fun i _=>ls.length-(intOf i).toNat)
 case atStart=>exact⟨0,Nat.zero_le _,rfl,by simp,(Below.refl _ _).alloc (Nat.le_refl _) _⟩
 case round =>
  obtain⟨k,hk,rfl,hno,hb⟩:=hrel;have hz:=hb.size;have HB:=qb hb;by_cases hlt:k<ls.length
  ·obtain⟨g,off,x1,x2,rfl,hg,c0,c1,r1,r2⟩:=HE.out.at hlt;obtain⟨a1,qX,rfl⟩:=r1.shape;obtain⟨a2,zD,rfl⟩:=r2.shape;have hcc:∀o,wr.cell? ⟨g,o,none⟩=w.cell? ⟨g,o,none⟩:=fun o=>hb.cell (p:=⟨g,o,none⟩) hg;rw[<-hcc]at c0 c1;have HS:Hid (∀hx:decide (ls[k].qh=qs)=false,((ls.take (k+1)).find? fun o=>decide (o.qh=qs))=none):=fun hx=>qtS hno hlt hx;have HY:Hid (∀hx:decide (ls[k].qh=qs)=true,x9 ls qs=ls[k].els):=fun hx=>qwq hno hlt hx;have hrl:=HR.out _ (List.getElem_mem hlt);have R1:=qb r1;have R2:=qb r2;obtain⟨rs,hrs⟩:∃rs,ls[k].qh=rs:=⟨_,rfl⟩
   obtain⟨es,hes⟩:∃es,ls[k].els=es:=⟨_,rfl⟩
   rw[hrs]at hrl c0 R1 HS HY;rw[hes]at c1 R2 HY;have hb2:Below w.heap.size w (wr.alloc (.cells #[.slice a1 rs.length qX,.slice a2 es.length zD] 238)):=HB.out.alloc hz _;have HB2:=qb hb2;clear hcc hb hno r1 r2 hrs hes hb2;go_wp2_with fail
   refine(Qp3 _ _ rs qs _ (R1.out.below HB2.out R1.out.2.1) (H2.out.below HB2.out H2.out.2.1) hrl hl').mono ?_;rintro e w1 ⟨rfl,n,rfl⟩;have HB3:Hid (Below w.heap.size w ((wr.alloc (.cells #[.slice a1 rs.length qX,.slice a2 es.length zD] 238)).drewN n)):=HB2.out.trans ⟨rfl,rfl,rfl,Nat.le_refl _,fun _ _=>rfl⟩;cases hx:decide (rs=qs)
   ·go_wp2;go_roundw
    case rel=>exact⟨k+1,by omega,by go_num,HS.out hx,HB3.out⟩
    case measure=>simp[intOf];omega
   ·go_wp2;go_ret;exact⟨_,rfl,by rw[HY.out hx];exact R2.out,HB3.out⟩
  ·have HN:Hid (x9 ls qs=[]):=by
    rw[List.take_of_length_le (by omega)]at hno;unfold Hid x9;rw[hno]
   clear hno hb;go_wp2;go_ret;exact⟨_,rfl,by rw[HN.out];exact⟨rfl,(fun g hg=>by cases hg),none,0,rfl,⟨Nat.le_refl _,Nat.zero_le _⟩,by simp[qG]⟩,HB.out⟩
theorem qoX(vs vr:Value)(ls:List Tm.Ln)(qs:List Int)(w:World)(he:XH w vs ls)(h2:Reads w vr 1 qs.length (ints qs))(hl:ls.length<=1000000)(hr:∀o∈ls,o.qh.length<=1000000)(hl':qs.length<=1000000)(hel:∀o∈ls,o.els≠[]) :
  Calls Tryz.prog 182 #[.agg #[vs],vr] w fun e w'=>e=.returned (.bool (ls.any fun o=>decide (o.qh=qs)))/\Below w.heap.size w w':=by
 obtain⟨a',z8,rfl⟩:=he.shape;have hb0:Below w.heap.size w (w.alloc (.cells #[.slice a' ls.length z8] 249)):=(Below.refl _ _).alloc (Nat.le_refl _) _;have HB0:=qb hb0;have HE:=qb (he.below hb0);have H2:=qb (h2.below hb0 h2.2.1);clear hb0 he h2;go_enter Tryz.func182,Tryz.ntmps182
 go_wp2_with fail
 refine(qr3 _ vr ls qs _ HE.out H2.out hl hr hl').mono ?_;rintro e w1 ⟨v,rfl,hrd,hb⟩;obtain⟨a,cap,rfl⟩:=hrd.shape;have HX:=qb (qp2 (q:=qs) hel);have HB:Hid (Below w.heap.size w w1):=HB0.out.trans (hb.mono (by simp));clear hrd hb;generalize (x9 ls qs).length=n at *;go_wp2;go_ret;exact⟨ja (by rw[<-HX.out]),HB.out⟩
theorem qiH(c v u:Value)(w:World):(Instr.field 251 (.agg #[c,v,u]) 0).run Tryz.prog w=.ok (.agg #[c]) w:=by kernel_rfl
theorem qdn(c v u:Value)(w:World):(Instr.field 251 (.agg #[c,v,u]) 1).run Tryz.prog w=.ok (.agg #[v]) w:=by kernel_rfl
theorem qeF(c v u:Value)(w:World):(Instr.field 251 (.agg #[c,v,u]) 2).run Tryz.prog w=.ok (.agg #[u]) w:=by kernel_rfl
theorem qhl(a:Option Addr)(n m:Nat)(w:World):(Instr.field 246 (.agg #[.slice a n m]) 0).run Tryz.prog w=.ok (.slice a n m) w:=by kernel_rfl
def ZX(w:World)(bm:Nat)(lns:List Tm.Ln):Prop :=
 ∃f,Yi w bm lns.length f/\∀r,0<=r->∃vp vs,f r=.agg #[.int .i64 (Tm.qd lns r),vp,vs]/\Reads w vp 1 (Tm.parts lns r).length (ints (Tm.parts lns r))/\XH w vs (Tm.qI lns r)
theorem Nd.rd(h:Nd w col base bm lns):ZX w bm lns:=by
 obtain⟨_,_,f,hf,hok⟩:=h;refine⟨f,hf,fun r hr=>?_⟩;obtain⟨vp,vs,he,hp,hs⟩:=hok r hr;exact⟨vp,vs,he,hp.1,hs.rd⟩
theorem Data.kept{size n:Nat}{xs:List Value}(h:Data w col v size n xs)(zU:∀g,g<base->col g≠-1)(hs:w.heap.size<=w'.heap.size)(hb:∀g,base<=g->g<w.heap.size->w'.heap[g]?=w.heap[g]?):Reads w' v size n xs :=
 h.1.jI hs fun g hg=>hb g (by
  apply Classical.byContradiction;intro hn
  exact zU g (by omega) (h.2 g hg)) (h.1.2.1 g hg)
theorem Nd.qwp(h:Nd w col base bm lns)(zU:∀g,g<base->col g≠-1)(hs:w.heap.size<=w'.heap.size)(hb:∀g,base<=g->g<w.heap.size->w'.heap[g]?=w.heap[g]?)(hm:w'.heap[bm]?=w.heap[bm]?):ZX w' bm lns:=by
 obtain⟨_,_,f,hf,hok⟩:=h;refine⟨f,hf.same hm,fun r hr=>?_⟩;obtain⟨vp,vs,he,hp,xs,hl,jV,hsq⟩:=hok r hr;refine⟨vp,vs,he,hp.kept zU hs hb,?_⟩;have ho:=qO (w':=w') jV.1 (fun g hg=>hb g (jV.1.lt g hg).1 (jV.1.lt g hg).2);have hrd:=Reads.qn ho;refine⟨hrd.2.1,?_⟩;obtain⟨_,_,a,cap,rfl,qV,hc⟩:=hrd;refine⟨a,cap,rfl,qV,fun k hk=>?_⟩
 have hk':k<xs.length:=by omega
 obtain⟨h1,h2⟩:=hsq k hk hk';obtain⟨g,off,rfl,c0⟩:=hc (k * 2) _ (by have:=qaO hl hk hk' (f:=0) (by omega);simpa using this);obtain⟨g1,zL,he,c1⟩:=hc (k * 2+1) _ (by have:=qaO hl hk hk' (f:=1) (by omega);simpa using this);cases he;exact⟨g,off,xs[k].1,xs[k].2,rfl,c0,c1,h1.kept zU hs hb,h2.kept zU hs hb⟩
theorem ZX.below(h:ZX w bm lns)(hb:Below w.heap.size w w'):ZX w' bm lns:=by
 obtain⟨f,hf,hok⟩:=h;refine⟨f,hf.same (hb.block bm hf.lt),fun r hr=>?_⟩;obtain⟨vp,vs,he,hp,hs⟩:=hok r hr;exact⟨vp,vs,he,hp.below hb hp.2.1,hs.below hb⟩
theorem ZX.at(h:ZX w bm lns){r:Int}(hr:0<=r) :
  ∃f vp vs,Yi w bm lns.length f/\f r=.agg #[.int .i64 (Tm.qd lns r),vp,vs]/\Reads w vp 1 (Tm.parts lns r).length (ints (Tm.parts lns r))/\XH w vs (Tm.qI lns r):=by
 obtain⟨f,hf,hok⟩:=h;obtain⟨vp,vs,he,hp,hs⟩:=hok r hr;exact⟨f,vp,vs,hf,he,hp,hs⟩
theorem qeh(hf:∀o∈lns,Tm.Fit o)(r:Int):∀x∈Tm.parts lns r,0<=x/\x<=1114111:=by
 intro x hx;unfold Tm.parts at hx;split at hx
 ·rename_i o ho;exact(hf o (List.mem_of_find?_eq_some ho)).rune x (List.mem_of_mem_tail hx)
 ·cases hx
theorem qcp(hf:∀o∈lns,Tm.Fit o)(r:Int):(Tm.parts lns r).length<=2:=by
 unfold Tm.parts;split
 ·rename_i o ho;have:=(hf o (List.mem_of_find?_eq_some ho)).few;simp;omega
 ·simp
theorem qtT(h:(l.take k).all p=true)(hk:k<l.length)(hx:p l[k]=true):(l.take (k+1)).all p=true:=by
 rw[List.take_succ_eq_append_getElem hk,List.all_append,h];simp[hx]
theorem qtU(hk:k<l.length)(hx:p l[k]=false):l.all p=false:=by
 rw[List.all_eq_false];exact⟨l[k],List.getElem_mem hk,by simp[hx]⟩
theorem qeD(lns:List Tm.Ln)(qR:∀o∈lns,Tm.Fit o)(bm:Nat):∀(n:Nat) (r:Int) (w:World),n<=4->ZX w bm lns->0<=r/\r<=1114111 ->
  Calls Tryz.prog 155 #[.map (some bm),.int .i64 n,.int .i64 r] w fun e w'=>e=.returned (.bool (Tm.ends lns n r))/\w'=w:=by
 intro n
 induction n with
 | zero =>
  intro r w hn4 hrd hr;have hf1:=qdn;have hf2:=qhl;obtain⟨f,vp,vs,yq,hfv,hp,_⟩:=hrd.at hr.1;have YY:=qb yq;obtain⟨a,cap,rfl⟩:=hp.shape;clear yq hp hrd;have HE:Hid (Tm.ends lns 0 r=decide ((Tm.parts lns r).length=0)):=rfl;by_cases h0:(Tm.parts lns r).length=0
  ·have hb:(((Tm.parts lns r).length:Int) == 0)=true:=by rw[h0];rfl
   go_enter Tryz.func155,Tryz.ntmps155
   go_wp2_with (at_lookup;go_must (refine zQ rfl _ _ rfl bm lns.length f rfl YY.out r rfl (yV hr) _ hfv ?_))
   go_ret;exact⟨ja (by rw[HE.out];simp[h0]),rfl⟩
  ·have hb:(((Tm.parts lns r).length:Int) == 0)=false:=by rw[beq_eq_false_iff_ne];omega
   go_enter Tryz.func155,Tryz.ntmps155
   go_wp2_with (at_lookup;go_must (refine zQ rfl _ _ rfl bm lns.length f rfl YY.out r rfl (yV hr) _ hfv ?_))
   go_ret;exact⟨ja (by rw[HE.out];simp[h0]),rfl⟩
 | succ n ih =>
  intro r w hn4 hrd hr;have hf1:=qdn;have hf2:=qhl;obtain⟨f,vp,vs,yq,hfv,hp,_⟩:=hrd.at hr.1;have YY:=qb yq;have HP:=qb hp;have HRD:=qb hrd;have HIH:=qb ih;obtain⟨a,cap,rfl⟩:=hp.shape;have HRG:=qb (qeh qR r);have hpf:=qcp qR r;clear yq hp hrd ih;have HE:Hid (Tm.ends lns (n+1) r=(decide ((Tm.parts lns r).length=0) || (Tm.parts lns r).all (Tm.ends lns n))):=rfl;by_cases h0:(Tm.parts lns r).length=0
  ·have hb:(((Tm.parts lns r).length:Int) == 0)=true:=by rw[h0];rfl
   go_enter Tryz.func155,Tryz.ntmps155
   go_wp2_with (at_lookup;go_must (refine zQ rfl _ _ rfl bm lns.length f rfl YY.out r rfl (yV hr) _ hfv ?_))
   go_ret;exact⟨ja (by rw[HE.out];simp[h0]),rfl⟩
  ·have hb:(((Tm.parts lns r).length:Int) == 0)=false:=by rw[beq_eq_false_iff_ne];omega
   obtain⟨m,hm⟩:∃m:Int,((n+1:Nat):Int)=m:=⟨_,rfl⟩
   rw[hm]
   have HM:Hid (m-1=(n:Int)):=by unfold Hid;omega
   have hn0:(m == 0)=false:=by rw[beq_eq_false_iff_ne];omega
   have hm1:1<=m:=by omega
   have hm2:m<=5:=by omega
   clear hm;go_enter Tryz.func155,Tryz.ntmps155
   go_wp2_with (at_lookup;go_must (refine zQ rfl _ _ rfl bm lns.length f rfl YY.out r rfl (yV hr) _ hfv ?_))
   go_loop [22] (fun i=>∃k:Nat,k<=(Tm.parts lns r).length/\i=.int .i64 k/\((Tm.parts lns r).take k).all (Tm.ends lns n)=true) (fun i=>(Tm.parts lns r).length-(intOf i).toNat)
   case atStart=>exact⟨0,Nat.zero_le _,rfl,rfl⟩
   case round =>
    obtain⟨k,hk,rfl,qQ⟩:=hrel;by_cases hlt:k<(Tm.parts lns r).length
    ·obtain⟨g,off,rfl,hg,hc⟩:=HP.out.at hlt;have hx:=HRG.out _ (List.getElem_mem hlt);have HS:=qb (fun hx=>qtT (p:=Tm.ends lns n) qQ hlt hx);have HF:=qb (fun hx=>qtU (p:=Tm.ends lns n) hlt hx);generalize (Tm.parts lns r)[k]=x at *;clear qQ;go_wp2_with fail
     rw[HM.out];refine(HIH.out x _ (by omega) HRD.out hx).mono ?_;rintro e w' ⟨rfl,rfl⟩;cases hex:Tm.ends lns n x
     ·have HN:Hid (Tm.ends lns (n+1) r=false):=by unfold Hid;rw[HE.out,HF.out hex];simp[h0]
      clear hex HS HF;go_wp2;go_ret;exact⟨ja HN.out.symm,rfl⟩
     ·have HS':=qb (HS.out hex);clear hex HS HF;go_wp2
      go_round
      case rel=>exact⟨k+1,by omega,by go_num,HS'.out⟩
      case measure=>simp[intOf];omega
    ·have HY:Hid (Tm.ends lns (n+1) r=true):=by
      rw[List.take_of_length_le (by omega)]at qQ;unfold Hid;rw[HE.out,qQ];simp
     clear qQ;go_wp2;go_ret;exact⟨ja HY.out.symm,rfl⟩
