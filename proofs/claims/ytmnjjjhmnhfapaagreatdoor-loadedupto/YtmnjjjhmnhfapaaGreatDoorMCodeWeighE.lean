import Derived.Test.YtmnjjjhmnhfapaaGreatDoorMCodeSeqs
namespace Go.Proofs.YtmnjjjhmnhfapaaGreatDoor
set_option maxRecDepth 100000
set_option maxHeartbeats 1000000
open Go.RowKit
namespace Tm
variable {l:List Int}
theorem quj{lns:List Ln}{k:Nat}(h2:2<=k)(h3:k<=3)(hl:k<=l.length)(hx:isS lns (l.take k)=true)(hno:∀m,k<m->m<=3->m<=l.length->isS lns (l.take m)=false):lead lns l=k:=by
 unfold lead;rcases(show k=2\/k=3 by omega)with rfl|rfl
 ·rw[if_neg (fun h=>by have:=hno 3 (by omega) (by omega) h.1;rw[h.2]at this;cases this),if_pos ⟨hl,hx⟩]
 ·rw[if_pos ⟨hl,hx⟩]
theorem qsm{lns:List Ln}(hno:∀m,1<m->m<=3->m<=l.length->isS lns (l.take m)=false):lead lns l=1:=by
 unfold lead;rw[if_neg (fun h=>by have:=hno 3 (by omega) (by omega) h.1;rw[h.2]at this;cases this),if_neg (fun h=>by have:=hno 2 (by omega) (by omega) h.1;rw[h.2]at this;cases this)]
end Tm
variable {lns:List Tm.Ln}{q:List Int}
theorem qn0(lns:List Tm.Ln)(bm:Nat)(vr:Value)(l:List Int)(w:World)(hrd:ZX w bm lns)(hr:Reads w vr 1 l.length (ints l))(hp:0<l.length)(hrg:∀r∈l,0<=r/\r<=1114111)(hl:l.length<=1000000)(hn:lns.length<=8192)(hf:∀o∈lns,Tm.Fit o) :
  Calls Tryz.prog 126 #[.map (some bm),vr] w fun e w'=>e=.returned (.int .i64 (Tm.lead lns l))/\Below w.heap.size w w':=by
 obtain⟨g,off,cap,rfl,_,_⟩:=hr.form (by rw[zw];exact hp);have HR:=qb hr;have HRD:=qb hrd;have HRG:=qb hrg;have HF:=qb hf;have qV:=hr.fits;obtain⟨n,hn'⟩:∃n,l.length=n:=⟨_,rfl⟩
 rw[hn']at hp hl qV;have HN:=qb hn';rw[hn'];clear hr hrd hrg hf hn';go_enter Tryz.func126,Tryz.ntmps126
 go_upto_region 1 with fail
 go_cut [5]from 6 to 8 (fun t wx=>t=.int .i64 ((min n 3:Nat):Int)/\w=wx)
 case first =>
  go_wp2;all_goals go_meet
  all_goals refine⟨?_,rfl⟩
  ·rw[show min n 3=3 by omega];rfl
  ·rw[show min n 3=n by omega]
 case rest =>
  obtain⟨rfl,rfl⟩:=hcut;go_wp2_with fail
  go_loopw [5] (fun i wr=>∃k:Nat,1<=k/\k<=3/\k<=n/\i=.int .i64 k/\(∀m,k<m->m<=3->m<=l.length->Tm.isS lns (l.take m)=false)/\Below w.heap.size w wr) (fun i _=>(intOf i).toNat)
  case atStart=>exact⟨min n 3,by omega,by omega,by omega,rfl,fun m h1 h2 h3=>by rw[HN.out]at h3;omega,Below.refl _ _⟩
  case round =>
   obtain⟨k,hk1,hk3,hkn,rfl,hno,hb⟩:=hrel;have hz:=hb.size;have HB:=qb hb;have HNO:=qb hno;clear hb hno;by_cases hlt:1<k
   ·have HRW:=qb (HR.out.below HB.out HR.out.2.1);have HTK:=qb (Reads.two HRW.out (k:=k) (by rw[HN.out];exact hkn))
    have hlen:(l.take k).length=k:=by rw[List.length_take,HN.out];omega
    rw[hlen]at HTK;go_wp2_with fail
    refine(qbl lns bm _ (l.take k) _ (HRD.out.below HB.out) (by rw[hlen];exact HTK.out) (by omega) (fun r hr=>HRG.out r (List.mem_of_mem_take hr)) (by omega) hn HF.out).mono ?_;rintro e w1 ⟨rfl,hb1⟩;have HB1:Hid (Below w.heap.size w w1):=HB.out.trans (hb1.mono hz);have hx0:(!(Tm.yD lns (l.take k)).isNone)=Tm.isS lns (l.take k):=rfl;rw[hx0];clear hb1 hx0;cases hx:Tm.isS lns (l.take k)
    ·go_wp2;go_roundw
     case rel=>exact⟨k-1,by omega,by omega,by omega,by go_num,fun m h1 h2 h3=>by
      by_cases e:m=k
      ·rw[e];exact hx
      ·exact HNO.out m (by omega) h2 h3,HB1.out⟩
     case measure=>simp[intOf];omega
    ·go_wp2;go_ret;exact⟨yf (by rw[Tm.quj (by omega) hk3 (by rw[HN.out];exact hkn) hx HNO.out]),HB1.out⟩
   ·go_wp2;go_ret;exact⟨yf (by rw[Tm.qsm (fun m h1 h2 h3=>HNO.out m (by omega) h2 h3)];rfl),HB.out⟩
theorem qmp(r:Int)(w:World)(hr:0<=r/\r<=1114111) :
  Calls Tryz.prog 163 #[.int .i64 r] w fun e w'=>∃v,e=.returned v/\Reads w' v 4 2 (qG (Tm.implicit r))/\Below w.heap.size w w':=by
 obtain⟨h1,h2⟩:=hr;go_enter Tryz.func163,Tryz.ntmps163
 go_wp2;go_ret;refine⟨_,rfl,⟨rfl,fun g hg=>?_,_,_,rfl,⟨Nat.le_refl _,by unfold maxLen;omega⟩,fun j u hu=>⟨w.heap.size,0,rfl,?_⟩⟩,(Below.refl _ _).alloc (Nat.le_refl _) _⟩
 ·simp[Value.ownBlock]at hg;subst hg;simp
 ·rw[Nat.zero_add,ql rfl,List.getElem?_toArray];exact hu
theorem qmq:x9 (Tm.qI lns (q.getD 0 0)) q=(Tm.yD lns q).getD []:=by
 unfold x9 Tm.qI Tm.yD;rw[List.find?_filter]
 have e:(fun o=>Tm.xA (q.getD 0 0) o&&decide (o.qh=q))=Tm.vF q:=by
  funext o
  unfold Tm.xA Tm.vF;by_cases h:o.qh=q
  ·subst h;simp
  ·simp[h]
 simp only[Bool.decide_and,Bool.decide_eq_true]at *;rw[e];cases lns.find? (Tm.vF q)<;>rfl
theorem qks(hf:∀o∈lns,Tm.Fit o){e:List Tm.El}(h:Tm.yD lns q=some e):0<e.length/\e.length<=4:=by
 unfold Tm.yD at h
 cases hq:lns.find? (Tm.vF q)with
 | none=>rw[hq]at h;cases h
 | some o =>
  rw[hq]at h;injection h with h;subst h;have h1:=hf o (List.mem_of_find?_eq_some hq);have h2:=List.find?_some hq;refine⟨List.length_pos_iff.2 ?_,h1.els⟩;rcases h1.kinds with h3|h3|h3
  ·simp[Tm.vF,h3.1]at h2
  ·simp[Tm.vF,h3.1]at h2
  ·exact h3.2
theorem qr9(lns:List Tm.Ln)(bm:Nat)(vr:Value)(q:List Int)(w:World)(hrd:ZX w bm lns)(hr:Reads w vr 1 q.length (ints q))(hq:0<q.length)(hrg:∀r∈q,0<=r/\r<=1114111)(hl:q.length<=3)(hn:lns.length<=8192)(hf:∀o∈lns,Tm.Fit o) :
  Calls Tryz.prog 128 #[.map (some bm),vr] w fun e w'=>∃v,e=.returned v/\Reads w' v 4 (Tm.yX lns q).length (qG (Tm.yX lns q))/\Below w.heap.size w w':=by
 obtain⟨r,rs,rfl⟩:∃r rs,q=r::rs:=by
  cases q with
  | nil=>simp at hq
  | cons x y=>exact⟨x,y,rfl⟩
 have hr0:=hrg r (by simp);obtain⟨f,vp,vs,yq,hfv,_,hs⟩:=hrd.at hr0.1;obtain⟨a,cap,rfl⟩:=hr.shape;obtain⟨g,off,rfl,hg,c0⟩:=hr.at (k:=0) (by simp)
 rw[Nat.add_zero]at c0;have YY:=qb yq;have HR:=qb hr;have HSQ:=qb hs;have HE:=qb (qmq (lns:=lns) (q:=r::rs));have hf1:=qeF;have hle:=qf6 lns r
 have Qui:Hid (∀o∈Tm.qI lns r,o.qh.length<=1000000):=fun o ho=>by have:=(hf o (List.mem_filter.1 ho).1).few;omega
 have HEL:=qb (fun e=>qks hf (q:=r::rs) (e:=e));clear yq hr hs hrd hf;have c0':w.cell? ⟨g,off,none⟩=some (.int .i64 r):=c0;generalize hln:(r::rs).length=ln at *;have HLN:=qb hln;clear hln c0;go_enter Tryz.func128,Tryz.ntmps128
 go_wp2_with (at_lookup;go_must (refine zQ rfl _ _ rfl bm lns.length f rfl YY.out r rfl (yV hr0) _ hfv ?_))
 refine(qr3 vs _ (Tm.qI lns r) (r::rs) _ HSQ.out (by rw[HLN.out];exact HR.out) (by omega) Qui.out (by rw[HLN.out];omega)).mono ?_;rintro e w1 ⟨v,rfl,jW,hb⟩;have HB:=qb hb
 have c1:w1.cell? ⟨g,off,none⟩=some (.int .i64 r):=by rw[hb.cell (p:=⟨g,off,none⟩) hg];exact c0'
 have he:x9 (Tm.qI lns r) (r::rs)=(Tm.yD lns (r::rs)).getD []:=HE.out;rw[he]at jW;obtain⟨a1,qX,rfl⟩:=jW.shape;have hz:=hb.size
 cases hq:Tm.yD lns (r::rs)with
 | some els =>
  rw[hq]at jW;have hlen:=HEL.out els hq;have QcF:=qb jW;have hl1:(Option.getD (some els) []).length=els.length:=rfl
  have HW:Hid (Tm.yX lns (r::rs)=els):=by unfold Hid Tm.yX;rw[hq]
  rw[hl1];rw[hl1]at QcF
  have hp:decide (0<(els.length:Int))=true:=by simp;omega
  clear hb jW hl1;go_wp2;go_ret;exact⟨_,rfl,by rw[HW.out];exact QcF.out.below HB.out QcF.out.2.1,HB.out⟩
 | none =>
  have HW:Hid (Tm.yX lns (r::rs)=Tm.implicit r):=by unfold Hid Tm.yX;rw[hq];rfl
  have hl1:(Option.getD (none:Option (List Tm.El)) []).length=0:=rfl;rw[hl1];clear hb jW hl1;go_wp2_with fail
  refine(qmp r _ hr0).mono ?_;rintro e w2 ⟨v,rfl,qef,hb2⟩;have HR2:=qb qef;have HB2:Hid (Below w.heap.size w w2):=HB.out.trans (hb2.mono hz);obtain⟨a2,zD,rfl⟩:=qef.shape;clear hb2 qef;go_wp2;go_ret;exact⟨_,rfl,by rw[HW.out];exact HR2.out,HB2.out⟩
