import Derived.Test.YtmnjjjhmnhfapaaGreatDoorMSortMem
namespace Go.Proofs.YtmnjjjhmnhfapaaGreatDoor
set_option maxRecDepth 100000
set_option maxHeartbeats 8000000
open Go.RowKit
variable {p u q v r s t:List Int}{i bm g z o:Nat}{A B:Int}{lns:List Tm.Ln}{w:World}
def mixed(p u q v r:List Int)(i:Nat):List Int:=(p++v.take i)++(u.drop i++q++u.take i++(v.drop i++r))
theorem qqb(p u q v r:List Int):mixed p u q v r 0=p++u++q++v++r:=by simp[mixed]
theorem qsg{n:Nat}(hu:u.length=n)(hv:v.length=n):mixed p u q v r n=p++v++q++u++r:=by
 simp[mixed,List.drop_eq_nil_of_le,List.take_of_length_le,hu,hv]
theorem qqc(hu:i<u.length)(hv:i<v.length):mixed p u q v r i=(p++v.take i)++u[i]::((u.drop (i+1)++q++u.take i)++v[i]::(v.drop (i+1)++r)):=by
 rw[mixed,List.drop_eq_getElem_cons hu,List.drop_eq_getElem_cons hv];simp only[List.append_assoc,List.cons_append]
theorem qqd(hu:i<u.length)(hv:i<v.length):mixed p u q v r (i+1)=(p++v.take i)++v[i]::((u.drop (i+1)++q++u.take i)++u[i]::(v.drop (i+1)++r)):=by
 rw[mixed,List.take_succ_eq_append_getElem hu,List.take_succ_eq_append_getElem hv];simp only[List.append_assoc,List.cons_append,List.nil_append]
theorem qlc(p u q v r:List Int)(n g off N cap:Nat)(fv:Value)(w:World)(hu:u.length=n)(hv:v.length=n)(hN:N=p.length+n+q.length+n+r.length)(qV:N<=1000000)(hI:Qo w g off (p++u++q++v++r)) :
  Calls Tryz.prog 217 #[.slice (some ⟨g,off,none⟩) N cap,.int .i64 (p.length:Int),.int .i64 ((p.length+n+q.length:Nat):Int),.int .i64 (n:Int),fv] w fun e w'=>e=.returned (.tuple #[])/\Qo w' g off (p++v++q++u++r)/\Zv g off N w w':=by
 obtain⟨a,ha⟩:∃a,p.length=a:=⟨_,rfl⟩
 obtain⟨b,hb⟩:∃b,p.length+n+q.length=b:=⟨_,rfl⟩
 rw[hb,ha];have HI:=qb hI;have HA:=qb ha;have HB:=qb hb
 have hb1:a+n<=b:=by omega
 have hb2:b+n<=N:=by omega
 clear hI hb ha;go_enter Tryz.func217,Tryz.ntmps217
 go_wp2;go_loopw [10] (fun i wr=>∃k:Nat,k<=n/\i=.int .i64 k/\Qo wr g off (mixed p u q v r k)/\Zv g off N w wr) (fun i _=>n-(intOf i).toNat)
 case atStart=>exact⟨0,Nat.zero_le _,rfl,by rw[qqb];exact HI.out,Zv.refl _ _ _ _⟩
 case round =>
  obtain⟨k,hk,rfl,hI,hT⟩:=hrel;have HIr:=qb hI;have HT:=qb hT;clear hI hT;by_cases hlt:k<n
  ·have hku:k<u.length:=by omega
   have hkv:k<v.length:=by omega
   have HO:Hid (Qo wr g off ((p++v.take k)++u[k]::((u.drop (k+1)++q++u.take k)++v[k]::(v.drop (k+1)++r)))):=by unfold Hid;rw[<-qqc hku hkv];exact HIr.out
   have hl1:(p++v.take k).length=a+k:=by simp;have:=HA.out;omega
   have hl2:(p++v.take k).length+1+(u.drop (k+1)++q++u.take k).length=b+k:=by simp;have:=HA.out;have:=HB.out;omega
   have c1:=(HO.out (a+k) u[k] (by rw[List.getElem?_append_right (by omega),hl1];simp))
   have c2:=(HO.out (b+k) v[k] (by rw[List.getElem?_append_right (by omega),show b+k-(p++v.take k).length=(u.drop (k+1)++q++u.take k).length+1 from by omega];simp))
   have HS:Hid (Qo ((wr.setCell ⟨g,off+(a+k),none⟩ (.int .i64 v[k])).setCell ⟨g,off+(b+k),none⟩ (.int .i64 u[k])) g off (mixed p u q v r (k+1))):=by unfold Hid;rw[qqd hku hkv];exact HO.out.swap hl1.symm hl2.symm
   have HT2:Hid (Zv g off N w ((wr.setCell ⟨g,off+(a+k),none⟩ (.int .i64 v[k])).setCell ⟨g,off+(b+k),none⟩ (.int .i64 u[k]))):=(HT.out.setCell (by omega) (by omega) _).setCell (by omega) (by omega) _;generalize u[k]=x at *;generalize v[k]=y at *;obtain⟨c1,f1⟩:=c1;obtain⟨c2,f2⟩:=c2
   have hne:¬a+k=b+k:=by omega
   have qc8:¬b+k=a+k:=by omega
   have i1:(a:Int)+(k:Int)<(N:Int):=by omega
   have i2:(b:Int)+(k:Int)<(N:Int):=by omega
   clear hl1 hl2;go_wp2_with fail
   go_region
   all_goals go_wp2
   all_goals go_roundw
   all_goals first
    | exact⟨k+1,by omega,by go_num,HS.out,HT2.out.drew⟩
    | (simp[intOf];omega)
  ·have hkn:k=n:=by omega
   subst hkn
   have HF:Hid (Qo wr g off (p++v++q++u++r)):=by unfold Hid;rw[<-qsg hu hv];exact HIr.out
   go_wp2;go_end0;exact⟨rfl,HF.out,HT.out⟩
theorem qdr(p u q v r:List Int)(n g off N cap:Nat)(fv:Value)(w:World){C:Int}(hA:A=(p.length:Int))(hB:B=((p.length+n+q.length:Nat):Int))(hC:C=(n:Int))(hu:u.length=n)(hv:v.length=n)(hN:N=p.length+n+q.length+n+r.length)(qV:N<=1000000)(hI:Qo w g off (p++u++q++v++r)) :
  Calls Tryz.prog 217 #[.slice (some ⟨g,off,none⟩) N cap,.int .i64 A,.int .i64 B,.int .i64 C,fv] w fun e w'=>e=.returned (.tuple #[])/\Qo w' g off (p++v++q++u++r)/\Zv g off N w w':=by
 subst hA hB hC;exact qlc p u q v r n g off N cap fv w hu hv hN qV hI
theorem qqe(p u v r:List Int)(g off N cap:Nat)(fv:Value)(w:World)(hu:0<u.length)(hv:0<v.length)(hN:N=p.length+u.length+v.length+r.length)(qV:N<=1000000)(hI:Qo w g off (p++u++v++r)) :
  Calls Tryz.prog 209 #[.slice (some ⟨g,off,none⟩) N cap,.int .i64 (p.length:Int),.int .i64 ((p.length+u.length:Nat):Int),.int .i64 ((p.length+u.length+v.length:Nat):Int),fv] w fun e w'=>e=.returned (.tuple #[])/\Qo w' g off (p++v++u++r)/\Zv g off N w w':=by
 obtain⟨a,ha⟩:∃a,p.length=a:=⟨_,rfl⟩
 obtain⟨m,hm⟩:∃m,p.length+u.length=m:=⟨_,rfl⟩
 obtain⟨b,hb⟩:∃b,p.length+u.length+v.length=b:=⟨_,rfl⟩
 rw[hb,hm,ha];have HI:=qb hI
 have h1:a<m:=by omega
 have h2:m<b:=by omega
 have h3:b<=N:=by omega
 have HU:Hid (u.length=m-a):=by unfold Hid;omega
 have HV:Hid (v.length=b-m):=by unfold Hid;omega
 have HP:=qb ha;have HN:=qb hN;clear hI hb hm ha hN;go_enter Tryz.func209,Tryz.ntmps209
 go_wp2;go_loopw [10,11] (fun vi vj wr=>∃(i j:Nat) (x s t y:List Int),vi=.int .i64 i/\vj=.int .i64 j/\0<i/\0<j/\s.length=i/\t.length=j/\x.length+i=m/\x++(t++s)++y=p++v++u++r/\Qo wr g off (x++s++t++y)/\Zv g off N w wr) (fun vi vj _=>(intOf vi).toNat+(intOf vj).toNat)
 case atStart=>exact⟨m-a,b-m,p,u,v,r,by go_num,by go_num,by omega,by omega,HU.out,HV.out,by have:=HP.out;omega,by simp[List.append_assoc],HI.out,Zv.refl _ _ _ _⟩
 case round =>
  obtain⟨i,j,x,s,t,y,rfl,rfl,hi,hj,hs,ht,hx,qub,hI,hT⟩:=hrel;have HIr:=qb hI;have HT:=qb hT;have HX:=qb hx;have Quc:=qb qub
  have XO:Hid (x.length+i+j+y.length=N):=by
   have e:=congrArg List.length qub;have:=HN.out;simp at e;unfold Hid;omega
  have hij:i+j<=N:=by have:=XO.out;omega
  have him:i<=m:=by omega
  have hmj:m+j<=N:=by have:=XO.out;omega
  clear hI hT hx qub;by_cases heq:i=j
  ·subst heq;go_wp2_with fail
   refine(qdr x s [] t y i g off N cap fv _ (by have:=HX.out;omega) (by have:=HX.out;simp;omega) rfl hs ht (by have:=XO.out;simp;omega) qV (by have h:=HIr.out;simpa using h)).mono ?_;rintro e w1 ⟨rfl,hI1,hT1⟩
   have HF:Hid (Qo w1 g off (p++v++u++r)):=by
    unfold Hid;rw[<-Quc.out];simpa using hI1
   have HT1:=qb (HT.out.trans hT1);clear hI1 hT1;go_wp2;go_end0;exact⟨rfl,HF.out,HT1.out⟩
  ·have hb1:((i:Int) != (j:Int))=true:=by simp;omega
   by_cases hgt:j<i
   ·have hd:decide ((j:Int)<(i:Int))=true:=by simp;omega
    obtain⟨s1,s2,rfl,hs1⟩:∃s1 s2,s=s1++s2/\s1.length=j:=⟨s.take j,s.drop j,by rw[List.take_append_drop],by simp;omega⟩
    have hs2:s2.length=i-j:=by simp at hs;omega
    go_wp2_with fail
    refine(qdr x s1 s2 t y j g off N cap fv _ (by have:=HX.out;omega) (by have:=HX.out;omega) rfl hs1 ht (by have:=XO.out;omega) qV (by have h:=HIr.out;simpa[List.append_assoc]using h)).mono ?_;rintro e w1 ⟨rfl,hI1,hT1⟩;have HT1:=qb (HT.out.trans hT1);have HI1:Hid (Qo w1 g off ((x++t)++s2++s1++y)):=hI1
    have Qqf:Hid ((x++t)++(s1++s2)++y=p++v++u++r):=by unfold Hid;rw[<-Quc.out];simp[List.append_assoc]
    clear hI1 hT1;go_wp2;go_roundw
    case rel=>exact⟨i-j,j,x++t,s2,s1,y,by go_num,rfl,by omega,hj,hs2,hs1,by have:=HX.out;simp;omega,Qqf.out,HI1.out,HT1.out⟩
    case measure=>simp[intOf];omega
   ·have hd:decide ((j:Int)<(i:Int))=false:=by simp;omega
    obtain⟨t1,t2,rfl,ht1⟩:∃t1 t2,t=t1++t2/\t1.length=j-i:=⟨t.take (j-i),t.drop (j-i),by rw[List.take_append_drop],by simp;omega⟩
    have ht2:t2.length=i:=by simp at ht;omega
    go_wp2_with fail
    refine(qdr x s t1 t2 y i g off N cap fv _ (by have:=HX.out;omega) (by have:=HX.out;omega) rfl hs ht2 (by have:=XO.out;omega) qV (by have h:=HIr.out;simpa[List.append_assoc]using h)).mono ?_;rintro e w1 ⟨rfl,hI1,hT1⟩;have HT1:=qb (HT.out.trans hT1)
    have HI1:Hid (Qo w1 g off (x++t2++t1++(s++y))):=by unfold Hid;simpa[List.append_assoc]using hI1
    have Qqf:Hid (x++(t1++t2)++(s++y)=p++v++u++r):=by unfold Hid;rw[<-Quc.out];simp[List.append_assoc]
    clear hI1 hT1;go_wp2;go_roundw
    case rel=>exact⟨i,j-i,x,t2,t1,s++y,rfl,by go_num,hi,by omega,ht2,ht1,HX.out,Qqf.out,HI1.out,HT1.out⟩
    case measure=>simp[intOf];omega
def qE(bm:Nat):Value:=.func (.func 166) #[.map (some bm)] #[]
structure Cmp(lns:List Tm.Ln)(bm g:Nat)(w:World):Prop where
 base:∃w0,ZX w0 bm lns/\Below w0.heap.size w0 w/\w0.heap.size<=g
theorem Cmp.turn{off n:Nat}{w':World}(h:Cmp lns bm g w)(t:Zv g off n w w'):Cmp lns bm g w':=by
 obtain⟨w0,h1,h2,h3⟩:=h.base;exact⟨w0,h1,t.below h2 h3,h3⟩
theorem Cmp.rd(h:Cmp lns bm g w):ZX w bm lns:=by
 obtain⟨w0,h1,h2,h3⟩:=h.base;exact h1.below h2
theorem Cmp.call(h:Cmp lns bm g w){a b:Int}(ha:0<=a/\a<=1114111)(hb:0<=b/\b<=1114111)(m:Nat) :
  Calls Tryz.prog 166 #[.map (some bm),.int .i64 a,.int .i64 b] (w.drewN m) fun e w'=>e=.returned (.int .i64 (yh (Tm.qd lns a) (Tm.qd lns b)))/\w'=w.drewN m :=
 qn4 lns bm a b _ (h.rd.below ⟨rfl,rfl,rfl,Nat.le_refl _,fun _ _=>rfl⟩) ha hb
theorem qld(lns:List Tm.Ln)(bm:Nat)(p s r:List Int)(g off N cap:Nat)(w:World)(hN:N=p.length+s.length+r.length)(qV:N<=1000000)(hR:∀z∈s,0<=z/\z<=1114111)(hI:Qo w g off (p++s++r))(hC:Cmp lns bm g w) :
  Calls Tryz.prog 195 #[.slice (some ⟨g,off,none⟩) N cap,.int .i64 (p.length:Int),.int .i64 ((p.length+s.length:Nat):Int),qE bm] w fun e w'=>e=.returned (.tuple #[])/\(∃s',Tm.Qu (Tm.qd lns) s s'/\Qo w' g off (p++s'++r))/\Zv g off N w w':=by
 obtain⟨a,ha⟩:∃a,p.length=a:=⟨_,rfl⟩
 obtain⟨b,hb⟩:∃b,p.length+s.length=b:=⟨_,rfl⟩
 rw[hb,ha];have HI:=qb hI;have HR:=qb hR;have HC:=qb hC;have HA:=qb ha
 have HB:Hid (a+s.length=b):=by unfold Hid;omega
 have hbN:b<=N:=by omega
 have hab:a<=b:=by omega
 have HN:=qb hN;clear hI hb ha hN hR hC;unfold qE;go_enter Tryz.func195,Tryz.ntmps195
 go_wp2;by_cases qqg:s=[]
 ·subst qqg
  have hba:b=a:=by have:=HB.out;simp at this;omega
  go_loopw [8] (fun vi wr=>vi=.int .i64 ((a:Int)+1)/\wr=w) (fun _ _=>0)
  case atStart=>exact⟨rfl,rfl⟩
  case round =>
   obtain⟨rfl,rfl⟩:=hrel
   have hd:decide ((a:Int)+1<(b:Int))=false:=by simp;omega
   go_wp2;go_end0;exact⟨rfl,⟨[],Tm.Qu.yE List.Pairwise.nil,HI.out⟩,Zv.refl _ _ _ _⟩
 have qe5:0<s.length:=List.length_pos_iff.2 qqg;go_loopw [8] (fun vi wr=>∃(i:Nat) (t s1 s2:List Int),vi=.int .i64 i/\0<s1.length/\a+s1.length=i/\s=t++s2/\Tm.Qu (Tm.qd lns) t s1/\Qo wr g off (p++s1++s2++r)/\Zv g off N w wr) (fun vi _=>b-(intOf vi).toNat)
 case atStart =>
  obtain⟨x,y,rfl⟩:∃x y,s=x::y:=by
   cases s with
   | nil=>exact absurd rfl qqg
   | cons x y=>exact⟨x,y,rfl⟩
  exact⟨a+1,[x],[x],y,by go_num,by simp,by simp,rfl,Tm.Qu.yE (List.pairwise_singleton _ _),by have h:=HI.out;simpa using h,Zv.refl _ _ _ _⟩
 case round =>
  obtain⟨i,t,s1,s2,rfl,hs1,hi,hs,qqh,hI,hT⟩:=hrel;have HIr:=qb hI;have HT:=qb hT;have HSO:=qb qqh;have HS:=qb hs;have HIL:=qb hi;have htl:=qqh.2.length
  have hlen:s.length=s1.length+s2.length:=by rw[hs];simp[htl]
  clear hI hT qqh hs;by_cases hlt:i<b
  ·have hd:decide ((i:Int)<(b:Int))=true:=by simp;omega
   obtain⟨x,s3,rfl⟩:∃x y,s2=x::y:=by
    cases s2 with
    | nil=>exfalso;simp at hlen;have:=HB.out;omega
    | cons x y=>exact⟨x,y,rfl⟩
   have hx:=HR.out x (by rw[HS.out];simp);have HR1:Hid (∀z∈s1,0<=z/\z<=1114111):=fun z hz=>HR.out z (by rw[HS.out];exact List.mem_append_left _ (HSO.out.2.mem.2 hz));go_wp2_with fail
   go_loopw [9] (fun vj wi=>∃(j:Nat) (q1 q2:List Int),vj=.int .i64 j/\a+q1.length=j/\s1=q1++q2/\(∀y∈q2,Tm.qd lns x<Tm.qd lns y)/\Qo wi g off (p++q1++x::(q2++s3++r))/\Zv g off N w wi) (fun vj _=>(intOf vj).toNat)
   case atStart=>exact⟨i,s1,[],rfl,HIL.out,by simp,by simp,by have h:=HIr.out;simpa using h,HT.out⟩
   case round =>
    obtain⟨j,q1,q2,rfl,hj,hq,hgt,hI2,hT2⟩:=hrel;have HI2:=qb hI2;have HT2:=qb hT2;have HGT:=qb hgt;have HQ:=qb hq
    have hql:s1.length=q1.length+q2.length:=by rw[hq];simp
    clear hI2 hT2 hgt hq;have HC2:=qb (HC.out.turn HT2.out);rcases List.eq_nil_or_concat q1 with hq0|⟨q3,y,hq3⟩
    ·subst hq0
     have hja:j=a:=by simpa using hj.symm
     subst hja;have HF:Hid (Tm.Qu (Tm.qd lns) (t++[x]) ([]++x::q2)):=HSO.out.insert HQ.out (by simp) HGT.out
     have HI3:Hid (Qo wr g off (p++(x::q2)++s3++r)):=by have h:=HI2.out;unfold Hid;simpa[List.append_assoc]using h
     have hd2:decide ((j:Int)<(j:Int))=false:=by simp
     go_wp2_with fail
     go_quiet (fail)
     go_wp2;go_roundw
     case rel=>exact⟨i+1,t++[x],x::q2,s3,by go_num,by simp<;>omega,by simp at hql;simp;omega,by rw[HS.out];simp,HF.out,HI3.out,HT2.out.drewN _⟩
     case measure=>simp[intOf];omega
    ·rw[List.concat_eq_append]at hq3;subst hq3;obtain⟨jj,rfl⟩:∃jj,j=jj+1:=⟨a+q3.length,by simp at hj;omega⟩
     have hjj:a+q3.length=jj:=by simp at hj;omega
     have hy:=HR1.out y (by rw[HQ.out];simp)
     have HO:Hid (Qo wr g off ((p++q3)++y::([]++x::(q2++s3++r)))):=by have h:=HI2.out;unfold Hid;simpa[List.append_assoc]using h
     have hl1:(p++q3).length=jj:=by have:=HA.out;simp;omega
     have c1:=HO.out jj y (by rw[List.getElem?_append_right (by omega),hl1];simp);have c2:=HO.out (jj+1) x (by rw[List.getElem?_append_right (by omega),show jj+1-(p++q3).length=1 from by omega];simp);obtain⟨c1,f1⟩:=c1;obtain⟨c2,f2⟩:=c2
     have hd2:decide ((a:Int)<((jj:Int)+1))=true:=by simp;omega
     have i1:(jj:Int)<(N:Int):=by omega
     have i2:(jj:Int)+1<(N:Int):=by omega
     obtain⟨q,hq⟩:∃q,decide (yh (Tm.qd lns x) (Tm.qd lns y)<0)=q:=⟨_,rfl⟩
     have hq':decide (Tm.qd lns x<Tm.qd lns y)=q:=by rw[<-hq,qbq]
     have ZZ:Hid (∀m,Calls Tryz.prog 166 #[.map (some bm),.int .i64 x,.int .i64 y] (wr.drewN m) fun e w'=>e=.returned (.int .i64 (yh (Tm.qd lns x) (Tm.qd lns y)))/\w'=wr.drewN m):=fun m=>HC2.out.call hx hy m;generalize yh (Tm.qd lns x) (Tm.qd lns y)=cv at *;cases q
     ·have hle:Tm.qd lns y<=Tm.qd lns x:=by simpa using hq'
      have HF:Hid (Tm.Qu (Tm.qd lns) (t++[x]) ((q3++[y])++x::q2)):=HSO.out.insert HQ.out (Tm.Up.qwt (by have h:=HSO.out.1;rw[HQ.out]at h;exact(Tm.Up.append.1 h).1) hle) HGT.out
      have HI3:Hid (Qo wr g off (p++((q3++[y])++x::q2)++s3++r)):=by have h:=HI2.out;unfold Hid;simpa[List.append_assoc]using h
      clear hq' hle hl1;go_wp2_with fail
      go_quiet (first|(go_at_call 166;exact Calls.quiet_of_same (ZZ.out _)))
      go_wp2;go_roundw
      case rel=>exact⟨i+1,t++[x],(q3++[y])++x::q2,s3,by go_num,by simp<;>omega,by simp at hql;simp;omega,by rw[HS.out];simp,HF.out,HI3.out,HT2.out.drewN _⟩
      case measure=>simp[intOf];omega
     ·have qqi:Tm.qd lns x<Tm.qd lns y:=by simpa using hq'
      have HSW:Hid (Qo ((wr.setCell ⟨g,off+(jj+1),none⟩ (.int .i64 y)).setCell ⟨g,off+jj,none⟩ (.int .i64 x)) g off ((p++q3)++x::([]++y::(q2++s3++r)))):=HO.out.qvR hl1.symm (by rw[hl1];rfl)
      have Qmd:Hid (Qo ((wr.setCell ⟨g,off+(jj+1),none⟩ (.int .i64 y)).setCell ⟨g,off+jj,none⟩ (.int .i64 x)) g off (p++q3++x::((y::q2)++s3++r))):=by have h:=HSW.out;unfold Hid;simpa[List.append_assoc]using h
      have HT3:Hid (Zv g off N w ((wr.setCell ⟨g,off+(jj+1),none⟩ (.int .i64 y)).setCell ⟨g,off+jj,none⟩ (.int .i64 x))):=(HT2.out.setCell (by omega) (by omega) _).setCell (by omega) (by omega) _
      have HQ2:Hid (s1=q3++(y::q2)):=by unfold Hid;rw[HQ.out];simp
      have QzG:Hid (∀z∈y::q2,Tm.qd lns x<Tm.qd lns z):=fun z hz=>by
       rcases List.mem_cons.1 hz with rfl|hz
       ·exact qqi
       ·exact HGT.out z hz
      clear hq' qqi hl1;go_wp2_with fail
      go_quiet (first|(go_at_call 166;exact Calls.quiet_of_same (ZZ.out _)))
      go_wp2_with fail
      go_region
      all_goals go_wp2
      all_goals go_roundw
      all_goals first
       | exact⟨jj,q3,y::q2,by go_num,hjj,HQ2.out,QzG.out,Qmd.out,(HT3.out.drewN nq).drew⟩
       | (simp[intOf]<;>omega)
  ·have hib:i=b:=by have:=HB.out;omega
   have hs2:s2=[]:=List.eq_nil_of_length_eq_zero (by have:=HB.out;omega);subst hs2
   have HF:Hid (Tm.Qu (Tm.qd lns) s s1):=by unfold Hid;rw[HS.out];simpa using HSO.out
   have HI3:Hid (Qo wr g off (p++s1++r)):=by have h:=HIr.out;unfold Hid;simpa using h
   have hd:decide ((i:Int)<(b:Int))=false:=by simp;omega
   go_wp2;go_end0;exact⟨rfl,⟨s1,HF.out,HI3.out⟩,HT.out⟩
theorem qjF{a c:List Int}{x:Int}(h:i=a.length):(a++x::c)[i]?=some x:=by subst h;simp
theorem qeI(h1:p.length<=i)(h2:i-p.length<v.length):(p++v++r)[i]?=some v[i-p.length]:=by
 rw[List.append_assoc,List.getElem?_append_right h1,List.getElem?_append_left h2,List.getElem?_eq_getElem h2]
theorem qle(lns:List Tm.Ln)(bm:Nat)(p v r:List Int)(x:Int)(g off N cap:Nat)(w:World)(hv:0<v.length)(hN:N=p.length+1+v.length+r.length)(qV:N<=1000000)(hx:0<=x/\x<=1114111)(hR:∀z∈v,0<=z/\z<=1114111)(hup:Tm.Up (Tm.qd lns) v)(hI:Qo w g off (p++[x]++v++r))(hC:Cmp lns bm g w) :
  Calls Tryz.prog 196 #[.slice (some ⟨g,off,none⟩) N cap,.int .i64 (p.length:Int),.int .i64 ((p.length+1:Nat):Int),.int .i64 ((p.length+1+v.length:Nat):Int),qE bm] w fun e w'=>e=.returned (.tuple #[])/\(∃s',Tm.Qu (Tm.qd lns) ([x]++v) s'/\Qo w' g off (p++s'++r))/\Zv g off N w w':=by
 obtain⟨a,ha⟩:∃a,p.length=a:=⟨_,rfl⟩
 obtain⟨m,hm⟩:∃m,p.length+1=m:=⟨_,rfl⟩
 obtain⟨b,hb⟩:∃b,p.length+1+v.length=b:=⟨_,rfl⟩
 rw[hb,hm,ha];have HI:=qb hI;have HR:=qb hR;have HC:=qb hC;have HUP:=qb hup;have HA:=qb ha
 have hma:m=a+1:=by omega
 have HB:Hid (m+v.length=b):=by unfold Hid;omega
 have hmb:m<b:=by omega
 have hbN:b<=N:=by omega
 have h1:(m:Int)-(a:Int)=1:=by omega
 have HN:=qb hN;have HM:=qb hma;clear hI hb hm ha hN hR hC hup hma;unfold qE;go_enter Tryz.func196,Tryz.ntmps196
 go_wp2;go_loopw [10,11] (fun vi vj wr=>∃i j:Nat,vi=.int .i64 i/\vj=.int .i64 j/\m<=i/\i<=j/\j<=b/\(∀y∈v.take (i-m),Tm.qd lns y<Tm.qd lns x)/\(∀y∈v.drop (j-m),Tm.qd lns x<=Tm.qd lns y)/\Qo wr g off (p++[x]++v++r)/\Zv g off N w wr) (fun vi vj _=>(intOf vj).toNat-(intOf vi).toNat)
 case atStart=>exact⟨m,b,rfl,rfl,Nat.le_refl _,by omega,Nat.le_refl _,by simp,by have:=HB.out;rw[List.drop_eq_nil_of_le (by omega)];simp,HI.out,Zv.refl _ _ _ _⟩
 case round =>
  obtain⟨i,j,rfl,rfl,hmi,hij,hjb,hlo,hhi,hI,hT⟩:=hrel;have HIr:=qb hI;have HT:=qb hT;have HCr:=qb (HC.out.turn hT);have HLO:=qb hlo;have HHI:=qb hhi;clear hlo hhi hI hT;by_cases hlt:i<j
  ·have hd:decide ((i:Int)<(j:Int))=true:=by simp;omega
   go_wp2_with fail
   obtain⟨hh,hhe⟩:∃hh:Nat,((i:Int)+(j:Int)) / 2=(hh:Int):=⟨(i+j) / 2,by omega⟩
   rw[hhe]
   have hih:i<=hh:=by omega
   have hhj:hh<j:=by omega
   have hvl:hh-m<v.length:=by have:=HB.out;omega
   have hpl:(p++[x]).length=m:=by have:=HA.out;have:=HM.out;simp;omega
   have cy:=HIr.out hh v[hh-m] (by have h:=qeI (p:=p++[x]) (v:=v) (r:=r) (i:=hh) (by omega) (by rw[hpl];exact hvl);rw[h];simp only[hpl]);have cx:=HIr.out a x (by have h:=qjF (a:=p) (c:=v++r) (x:=x) HA.out.symm;simpa using h);have hy:=HR.out _ (List.getElem_mem hvl);have HLT:=qb (fun hq=>HUP.out.qwu (x:=x) hvl hq);have HGE:=qb (fun hq=>HUP.out.qg4 (x:=x) hvl hq);have ZZ:Hid (∀n,Calls Tryz.prog 166 #[.map (some bm),.int .i64 v[hh-m],.int .i64 x] (wr.drewN n) fun e w'=>e=.returned (.int .i64 (yh (Tm.qd lns v[hh-m]) (Tm.qd lns x)))/\w'=wr.drewN n):=fun n=>HCr.out.call hy hx n;generalize v[hh-m]=y at *;obtain⟨cy,fy⟩:=cy;obtain⟨cx,fx⟩:=cx
   have i1:(hh:Int)<(N:Int):=by omega
   have i2:(a:Int)<(N:Int):=by omega
   obtain⟨q,hq⟩:∃q,decide (yh (Tm.qd lns y) (Tm.qd lns x)<0)=q:=⟨_,rfl⟩
   have hq':decide (Tm.qd lns y<Tm.qd lns x)=q:=by rw[<-hq,qbq]
   generalize yh (Tm.qd lns y) (Tm.qd lns x)=cv at *;clear hhe hpl;cases q
   ·have hle:Tm.qd lns x<=Tm.qd lns y:=by simpa using hq'
    have HH2:=qb (HGE.out hle);clear hq' hle;go_quiet (first|(go_at_call 166;exact Calls.quiet_of_same (ZZ.out _)))
    go_wp2;go_roundw
    case rel=>exact⟨i,hh,rfl,rfl,hmi,hih,by omega,HLO.out,HH2.out,HIr.out,HT.out.drewN _⟩
    case measure=>simp[intOf];omega
   ·have hle:Tm.qd lns y<Tm.qd lns x:=by simpa using hq'
    have HL2:Hid (∀z∈v.take (hh+1-m),Tm.qd lns z<Tm.qd lns x):=by
     have h:=HLT.out hle;rw[show hh+1-m=hh-m+1 from by omega];exact h
    clear hq' hle;go_quiet (first|(go_at_call 166;exact Calls.quiet_of_same (ZZ.out _)))
    go_wp2;go_roundw
    case rel=>exact⟨hh+1,j,by go_num,rfl,by omega,by omega,hjb,HL2.out,HHI.out,HIr.out,HT.out.drewN _⟩
    case measure=>simp[intOf];omega
  ·have qud:i=j:=by omega
   subst qud
   have hd:decide ((i:Int)<(i:Int))=false:=by simp
   obtain⟨v1,v2,jr,hl1⟩:∃v1 v2,v=v1++v2/\v1.length=i-m:=⟨v.take (i-m),v.drop (i-m),by rw[List.take_append_drop],by have:=HB.out;simp;omega⟩
   have e1:v.take (i-m)=v1:=by rw[jr,<-hl1];simp
   have e2:v.drop (i-m)=v2:=by rw[jr,<-hl1];simp
   rw[e1]at HLO;rw[e2]at HHI
   have HF:Hid (Tm.Qu (Tm.qd lns) ([x]++v) (v1++(x::v2))):=by
    have que:=HUP.out;rw[jr]at que;have hu:=Tm.Up.append.1 que;have h:=Tm.Qu.merge (k:=Tm.qd lns) (u1:=[]) (u2:=[x]) (v1:=v1) (v2:=v2) (l:=v1) (r:=x::v2) (Tm.Qu.yE hu.1) (Tm.Qu.yE (List.pairwise_cons.2 ⟨HHI.out,hu.2.1⟩)) (List.pairwise_singleton _ _) que (fun y hy z hz=>by simp at hz;subst hz;exact HLO.out y hy) (by simp);unfold Hid;rw[jr];simpa using h
   have HI1:Hid (Qo wr g off (p++[x]++v1++v2++r)):=by have h:=HIr.out;rw[jr]at h;unfold Hid;simpa[List.append_assoc]using h
   have hiN:i<=N:=by omega
   have HL1:=qb hl1;clear hl1 e1 e2 jr;go_wp2_with fail
   go_loopw [13] (fun vk wi=>∃(c:Nat) (q1 q2:List Int),vk=.int .i64 c/\v1=q1++q2/\a+q1.length=c/\Qo wi g off (p++q1++x::(q2++v2++r))/\Zv g off N w wi) (fun vk _=>i-(intOf vk).toNat)
   case atStart=>exact⟨a,[],v1,rfl,rfl,by simp,by have h:=HI1.out;simpa using h,HT.out⟩
   case round =>
    obtain⟨c,q1,q2,rfl,hq,hc,hI2,hT2⟩:=hrel;have HI2:=qb hI2;have HT2:=qb hT2;have HQ:=qb hq
    have hql:v1.length=q1.length+q2.length:=by rw[hq];simp
    clear hI2 hT2 hq
    cases q2 with
    | nil =>
     have hdk:decide ((c:Int)<(i:Int)-1)=false:=by have:=HL1.out;have:=HM.out;simp at hql;simp;omega
     have HI3:Hid (Qo wr g off (p++(v1++(x::v2))++r)):=by have h:=HI2.out;unfold Hid;rw[HQ.out];simpa[List.append_assoc]using h
     go_wp2;refine bodyPost_ret (results_none rfl _ _ _) rfl ?_;exact⟨rfl,⟨_,HF.out,HI3.out⟩,HT2.out⟩
    | cons y q3 =>
     have hdk:decide ((c:Int)<(i:Int)-1)=true:=by have:=HL1.out;have:=HM.out;simp at hql;simp;omega
     have HO:Hid (Qo wr g off ((p++q1)++x::([]++y::(q3++v2++r)))):=by have h:=HI2.out;unfold Hid;simpa[List.append_assoc]using h
     have hl1:(p++q1).length=c:=by have:=HA.out;simp;omega
     have c1:=HO.out c x (by rw[List.getElem?_append_right (by omega),hl1];simp);have c2:=HO.out (c+1) y (by rw[List.getElem?_append_right (by omega),show c+1-(p++q1).length=1 from by omega];simp);obtain⟨c1,f1⟩:=c1;obtain⟨c2,f2⟩:=c2
     have hci:c+1<i:=by simp at hdk;omega
     have i1:(c:Int)<(N:Int):=by omega
     have i2:(c:Int)+1<(N:Int):=by omega
     have HSW:Hid (Qo ((wr.setCell ⟨g,off+c,none⟩ (.int .i64 y)).setCell ⟨g,off+(c+1),none⟩ (.int .i64 x)) g off ((p++q1)++y::([]++x::(q3++v2++r)))):=HO.out.swap hl1.symm (by rw[hl1];rfl)
     have Qmd:Hid (Qo ((wr.setCell ⟨g,off+c,none⟩ (.int .i64 y)).setCell ⟨g,off+(c+1),none⟩ (.int .i64 x)) g off (p++(q1++[y])++x::(q3++v2++r))):=by have h:=HSW.out;unfold Hid;simpa[List.append_assoc]using h
     have HT3:Hid (Zv g off N w ((wr.setCell ⟨g,off+c,none⟩ (.int .i64 y)).setCell ⟨g,off+(c+1),none⟩ (.int .i64 x))):=(HT2.out.setCell (by omega) (by omega) _).setCell (by omega) (by omega) _
     have HQ2:Hid (v1=(q1++[y])++q3):=by unfold Hid;rw[HQ.out];simp
     clear hl1;go_wp2_with fail
     go_region
     all_goals go_wp2
     all_goals go_roundw
     all_goals first
      | exact⟨c+1,q1++[y],q3,by go_num,HQ2.out,by simp;omega,Qmd.out,HT3.out.drew⟩
      | (simp[intOf]<;>omega)
theorem qjV(lns:List Tm.Ln)(bm:Nat)(p u r:List Int)(x:Int)(g off N cap:Nat)(w:World)(hu2:2<=u.length)(hN:N=p.length+u.length+1+r.length)(qV:N<=1000000)(hx:0<=x/\x<=1114111)(hR:∀z∈u,0<=z/\z<=1114111)(hup:Tm.Up (Tm.qd lns) u)(hI:Qo w g off (p++u++x::r))(hC:Cmp lns bm g w) :
  Calls Tryz.prog 196 #[.slice (some ⟨g,off,none⟩) N cap,.int .i64 (p.length:Int),.int .i64 ((p.length+u.length:Nat):Int),.int .i64 ((p.length+u.length+1:Nat):Int),qE bm] w fun e w'=>e=.returned (.tuple #[])/\(∃s',Tm.Qu (Tm.qd lns) (u++[x]) s'/\Qo w' g off (p++s'++r))/\Zv g off N w w':=by
 obtain⟨a,ha⟩:∃a,p.length=a:=⟨_,rfl⟩
 obtain⟨m,hm⟩:∃m,p.length+u.length=m:=⟨_,rfl⟩
 obtain⟨b,hb⟩:∃b,p.length+u.length+1=b:=⟨_,rfl⟩
 rw[hb,hm,ha];have HI:=qb hI;have HR:=qb hR;have HC:=qb hC;have HUP:=qb hup;have HA:=qb ha
 have HM:Hid (a+u.length=m):=by unfold Hid;omega
 have ham:a+2<=m:=by omega
 have hmN:m<N:=by omega
 have h0:((((m:Int)-(a:Int)) == 1):Bool)=false:=by rw[beq_eq_false_iff_ne];omega
 have h1:(b:Int)-(m:Int)=1:=by omega
 have HN:=qb hN;clear hI hb hm ha hN hR hC hup;unfold qE;go_enter Tryz.func196,Tryz.ntmps196
 go_wp2;go_loopw [14,15] (fun vi vj wr=>∃i j:Nat,vi=.int .i64 i/\vj=.int .i64 j/\a<=i/\i<=j/\j<=m/\(∀y∈u.take (i-a),Tm.qd lns y<=Tm.qd lns x)/\(∀y∈u.drop (j-a),Tm.qd lns x<Tm.qd lns y)/\Qo wr g off (p++u++x::r)/\Zv g off N w wr) (fun vi vj _=>(intOf vj).toNat-(intOf vi).toNat)
 case atStart=>exact⟨a,m,rfl,rfl,Nat.le_refl _,by omega,Nat.le_refl _,by simp,by have:=HM.out;rw[List.drop_eq_nil_of_le (by omega)];simp,HI.out,Zv.refl _ _ _ _⟩
 case round =>
  obtain⟨i,j,rfl,rfl,hmi,hij,hjb,hlo,hhi,hI,hT⟩:=hrel;have HIr:=qb hI;have HT:=qb hT;have HCr:=qb (HC.out.turn hT);have HLO:=qb hlo;have HHI:=qb hhi;clear hlo hhi hI hT;by_cases hlt:i<j
  ·have hd:decide ((i:Int)<(j:Int))=true:=by simp;omega
   go_wp2_with fail
   obtain⟨hh,hhe⟩:∃hh:Nat,((i:Int)+(j:Int)) / 2=(hh:Int):=⟨(i+j) / 2,by omega⟩
   rw[hhe]
   have hih:i<=hh:=by omega
   have hhj:hh<j:=by omega
   have hvl:hh-a<u.length:=by have:=HM.out;omega
   have cy:=HIr.out hh u[hh-a] (by have h:=qeI (p:=p) (v:=u) (r:=x::r) (i:=hh) (by have:=HA.out;omega) (by rw[HA.out];exact hvl);rw[h];simp only[HA.out]);have cx:=HIr.out m x (qjF (a:=p++u) (c:=r) (x:=x) (by have:=HA.out;have:=HM.out;simp;omega));have hy:=HR.out _ (List.getElem_mem hvl);have HLT:=qb (fun hq=>HUP.out.qwv (x:=x) hvl hq);have HGE:=qb (fun hq=>HUP.out.qjW (x:=x) hvl hq);have ZZ:Hid (∀n,Calls Tryz.prog 166 #[.map (some bm),.int .i64 x,.int .i64 u[hh-a]] (wr.drewN n) fun e w'=>e=.returned (.int .i64 (yh (Tm.qd lns x) (Tm.qd lns u[hh-a])))/\w'=wr.drewN n):=fun n=>HCr.out.call hx hy n;generalize u[hh-a]=y at *;obtain⟨cy,fy⟩:=cy;obtain⟨cx,fx⟩:=cx
   have i1:(hh:Int)<(N:Int):=by omega
   have i2:(m:Int)<(N:Int):=by omega
   obtain⟨q,hq⟩:∃q,decide (yh (Tm.qd lns x) (Tm.qd lns y)<0)=q:=⟨_,rfl⟩
   have hq':decide (Tm.qd lns x<Tm.qd lns y)=q:=by rw[<-hq,qbq]
   generalize yh (Tm.qd lns x) (Tm.qd lns y)=cv at *;clear hhe;cases q
   ·have hle:Tm.qd lns y<=Tm.qd lns x:=by simpa using hq'
    have HL2:Hid (∀z∈u.take (hh+1-a),Tm.qd lns z<=Tm.qd lns x):=by
     have h:=HGE.out hle;rw[show hh+1-a=hh-a+1 from by omega];exact h
    clear hq' hle;go_quiet (first|(go_at_call 166;exact Calls.quiet_of_same (ZZ.out _)))
    go_wp2;go_roundw
    case rel=>exact⟨hh+1,j,by go_num,rfl,by omega,by omega,hjb,HL2.out,HHI.out,HIr.out,HT.out.drewN _⟩
    case measure=>simp[intOf];omega
   ·have hle:Tm.qd lns x<Tm.qd lns y:=by simpa using hq'
    have HH2:=qb (HLT.out hle);clear hq' hle;go_quiet (first|(go_at_call 166;exact Calls.quiet_of_same (ZZ.out _)))
    go_wp2;go_roundw
    case rel=>exact⟨i,hh,rfl,rfl,hmi,hih,by omega,HLO.out,HH2.out,HIr.out,HT.out.drewN _⟩
    case measure=>simp[intOf];omega
  ·have qud:i=j:=by omega
   subst qud
   have hd:decide ((i:Int)<(i:Int))=false:=by simp
   obtain⟨u1,u2,jw,hl1⟩:∃u1 u2,u=u1++u2/\u1.length=i-a:=⟨u.take (i-a),u.drop (i-a),by rw[List.take_append_drop],by have:=HM.out;simp;omega⟩
   have e1:u.take (i-a)=u1:=by rw[jw,<-hl1];simp
   have e2:u.drop (i-a)=u2:=by rw[jw,<-hl1];simp
   rw[e1]at HLO;rw[e2]at HHI;have HF:Hid (Tm.Qu (Tm.qd lns) (u++[x]) (u1++(x::u2))):=(Tm.Qu.yE HUP.out).insert jw HLO.out HHI.out
   have HI1:Hid (Qo wr g off (p++u1++u2++x::r)):=by have h:=HIr.out;rw[jw]at h;unfold Hid;simpa[List.append_assoc]using h
   have HL1:=qb hl1
   have HU2:Hid (i+u2.length=m):=by have:=HM.out;rw[jw]at this;simp at this;unfold Hid;omega
   clear hl1 e1 e2 jw;go_wp2_with fail
   go_loopw [17] (fun vk wi=>∃(c:Nat) (q1 q2:List Int),vk=.int .i64 c/\u2=q1++q2/\i+q1.length=c/\Qo wi g off (p++u1++q1++x::(q2++r))/\Zv g off N w wi) (fun vk _=>(intOf vk).toNat)
   case atStart=>exact⟨m,u2,[],rfl,by simp,HU2.out,by have h:=HI1.out;simpa using h,HT.out⟩
   case round =>
    obtain⟨c,q1,q2,rfl,hq,hc,hI2,hT2⟩:=hrel;have HI2:=qb hI2;have HT2:=qb hT2;have HQ:=qb hq
    have hql:u2.length=q1.length+q2.length:=by rw[hq];simp
    clear hI2 hT2 hq;rcases List.eq_nil_or_concat q1 with hq0|⟨q3,y,hq3⟩
    ·subst hq0
     have hci:c=i:=by simpa using hc.symm
     subst hci
     have hdk:decide ((c:Int)<(c:Int))=false:=by simp
     have HI3:Hid (Qo wr g off (p++(u1++(x::u2))++r)):=by have h:=HI2.out;unfold Hid;rw[HQ.out];simpa[List.append_assoc]using h
     go_wp2;refine bodyPost_ret (results_none rfl _ _ _) rfl ?_;exact⟨rfl,⟨_,HF.out,HI3.out⟩,HT2.out⟩
    ·rw[List.concat_eq_append]at hq3;subst hq3;obtain⟨cc,rfl⟩:∃cc,c=cc+1:=⟨i+q3.length,by simp at hc;omega⟩
     have hcc:i+q3.length=cc:=by simp at hc;omega
     have hdk:decide ((i:Int)<(cc:Int)+1)=true:=by simp;omega
     have HO:Hid (Qo wr g off ((p++u1++q3)++y::([]++x::(q2++r)))):=by have h:=HI2.out;unfold Hid;simpa[List.append_assoc]using h
     have hl1:(p++u1++q3).length=cc:=by have:=HA.out;have:=HL1.out;simp;omega
     have c1:=HO.out cc y (by rw[List.getElem?_append_right (by omega),hl1];simp);have c2:=HO.out (cc+1) x (by rw[List.getElem?_append_right (by omega),show cc+1-(p++u1++q3).length=1 from by omega];simp);obtain⟨c1,f1⟩:=c1;obtain⟨c2,f2⟩:=c2
     have hcm:cc+1<=m:=by have:=HU2.out;simp at hql;omega
     have i1:(cc:Int)<(N:Int):=by omega
     have i2:(cc:Int)+1<(N:Int):=by omega
     have HSW:Hid (Qo ((wr.setCell ⟨g,off+(cc+1),none⟩ (.int .i64 y)).setCell ⟨g,off+cc,none⟩ (.int .i64 x)) g off ((p++u1++q3)++x::([]++y::(q2++r)))):=HO.out.qvR hl1.symm (by rw[hl1];rfl)
     have Qmd:Hid (Qo ((wr.setCell ⟨g,off+(cc+1),none⟩ (.int .i64 y)).setCell ⟨g,off+cc,none⟩ (.int .i64 x)) g off (p++u1++q3++x::((y::q2)++r))):=by have h:=HSW.out;unfold Hid;simpa[List.append_assoc]using h
     have HT3:Hid (Zv g off N w ((wr.setCell ⟨g,off+(cc+1),none⟩ (.int .i64 y)).setCell ⟨g,off+cc,none⟩ (.int .i64 x))):=(HT2.out.setCell (by omega) (by omega) _).setCell (by omega) (by omega) _
     have HQ2:Hid (u2=q3++(y::q2)):=by unfold Hid;rw[HQ.out];simp
     clear hl1;go_wp2_with fail
     go_region
     all_goals go_wp2
     all_goals go_roundw
     all_goals first
      | exact⟨cc,q3,y::q2,by go_num,HQ2.out,hcc,Qmd.out,HT3.out.drew⟩
      | (simp[intOf]<;>omega)
theorem qkw(p u v r:List Int)(g off N cap:Nat)(fv:Value)(w:World){C:Int}(hA:A=(p.length:Int))(hB:B=((p.length+u.length:Nat):Int))(hC:C=((p.length+u.length+v.length:Nat):Int))(hu:0<u.length)(hv:0<v.length)(hN:N=p.length+u.length+v.length+r.length)(qV:N<=1000000)(hI:Qo w g off (p++u++v++r)) :
  Calls Tryz.prog 209 #[.slice (some ⟨g,off,none⟩) N cap,.int .i64 A,.int .i64 B,.int .i64 C,fv] w fun e w'=>e=.returned (.tuple #[])/\Qo w' g off (p++v++u++r)/\Zv g off N w w':=by
 subst hA hB hC;exact qqe p u v r g off N cap fv w hu hv hN qV hI
def Qme(lns:List Tm.Ln)(bm n:Nat):Prop:=∀(p u v r:List Int) (g off N cap:Nat) (w:World) (A B C:Int),u.length+v.length=n->A=(p.length:Int)->B=((p.length+u.length:Nat):Int)->C=((p.length+u.length+v.length:Nat):Int)->0<u.length->0<v.length->N=p.length+u.length+v.length+r.length->N<=1000000->(∀z∈u++v,0<=z/\z<=1114111)->Tm.Up (Tm.qd lns) u->Tm.Up (Tm.qd lns) v->Qo w g off (p++u++v++r)->Cmp lns bm g w ->
 Calls Tryz.prog 196 #[.slice (some ⟨g,off,none⟩) N cap,.int .i64 A,.int .i64 B,.int .i64 C,qE bm] w fun e w'=>e=.returned (.tuple #[])/\(∃s',Tm.Qu (Tm.qd lns) (u++v) s'/\Qo w' g off (p++s'++r))/\Zv g off N w w'
theorem qlf(lns:List Tm.Ln)(bm n:Nat)(ih:∀k,k<n->Qme lns bm k):Qme lns bm n:=by
 intro p u v r g off N cap w A B C hn hA hB hC hu hv hN qV hR hup hvp hI hC';by_cases hu1:u.length=1
 ·obtain⟨x,rfl⟩:∃x,u=[x]:=List.length_eq_one_iff.1 hu1;subst hA hB hC;exact qle lns bm p v r x g off N cap w hv hN qV (hR x (by simp)) (fun z hz=>hR z (by simp[hz])) hvp hI hC'
 by_cases hv1:v.length=1
 ·obtain⟨x,rfl⟩:∃x,v=[x]:=List.length_eq_one_iff.1 hv1;subst hA hB hC;exact qjV lns bm p u r x g off N cap w (by omega) hN qV (hR x (by simp)) (fun z hz=>hR z (by simp[hz])) hup (by simpa using hI) hC'
 obtain⟨a,ha⟩:∃a,p.length=a:=⟨_,rfl⟩
 obtain⟨m,hm⟩:∃m,p.length+u.length=m:=⟨_,rfl⟩
 obtain⟨b,hb⟩:∃b,p.length+u.length+v.length=b:=⟨_,rfl⟩
 rw[ha]at hA;rw[hm]at hB;rw[hb]at hC;subst hA hB hC;have HI:=qb hI;have HR:=qb hR;have HC:=qb hC';have HUP:=qb hup;have HVP:=qb hvp;have HIH:=qb ih;have HA:=qb ha
 have HM:Hid (a+u.length=m):=by unfold Hid;omega
 have HB:Hid (m+v.length=b):=by unfold Hid;omega
 have HNN:Hid (n=b-a):=by unfold Hid;omega
 have HN:Hid (N=b+r.length):=by unfold Hid;omega
 have ham:a+2<=m:=by omega
 have hmb:m+2<=b:=by omega
 have hbN:b<=N:=by omega
 have h0:((((m:Int)-(a:Int)) == 1):Bool)=false:=by rw[beq_eq_false_iff_ne];omega
 have h1:((((b:Int)-(m:Int)) == 1):Bool)=false:=by rw[beq_eq_false_iff_ne];omega
 obtain⟨mid,qBf⟩:∃mid:Nat,((a:Int)+(b:Int)) / 2=(mid:Int):=⟨(a+b) / 2,by omega⟩
 have qAX:a<mid:=by omega
 have qAY:mid<b:=by omega
 have qAZ:2 * mid<=a+b:=by omega
 have qA0:a+b<=2 * mid+1:=by omega
 clear hI hb hm ha hN hR hC' hup hvp ih hn hu hv hu1 hv1;unfold qE;by_cases hcs:mid<m
 ·have hgt:mid<m:=hcs;obtain⟨s0,hs0⟩:∃s0:Nat,(mid:Int)+(m:Int)-(b:Int)=(s0:Int):=⟨mid+m-b,by omega⟩
  have hdm:decide ((mid:Int)<(m:Int))=true:=by simp<;>omega
  obtain⟨r0,hr0⟩:∃r0:Nat,r0=mid:=⟨_,rfl⟩
  have qzH:a<=s0:=by omega
  have quf:s0<=r0:=by omega
  have qzI:r0<=m:=by omega
  have qzJ:r0<=mid:=by omega
  have zU:m<=mid+m-r0:=by omega
  have hhi:mid+m-s0<=b:=by omega
  have HEA:Hid (∀st,s0<=st->st<=r0->(st<m->st<mid->st≠r0)/\(a<st->mid+m-st<b->st≠s0)):=fun st h1 h2=>⟨fun h3 h4=>by omega,fun h3 h4=>by omega⟩
  have HS0:=qb hs0;go_enter Tryz.func196,Tryz.ntmps196
  go_wp2;go_loopw [20,21] (fun vi vj wr=>∃st re:Nat,vi=.int .i64 st/\vj=.int .i64 re/\s0<=st/\st<=re/\re<=r0/\(st=s0\/Tm.qd lns (u.getD (st-1-a) 0)<=Tm.qd lns (v.getD (mid-st) 0))/\(re=r0\/Tm.qd lns (v.getD (mid-1-re) 0)<Tm.qd lns (u.getD (re-a) 0))/\Qo wr g off (p++u++v++r)/\Zv g off N w wr) (fun vi vj _=>(intOf vj).toNat-(intOf vi).toNat)
  case atStart=>exact⟨s0,r0,by first|rfl|(rw[hs0])|go_num,by rw[hr0],Nat.le_refl _,quf,Nat.le_refl _,.inl rfl,.inl rfl,HI.out,Zv.refl _ _ _ _⟩
  case round =>
   obtain⟨st,re,rfl,rfl,qid,hsr,hrr,hlo,qmf,hI,hT⟩:=hrel;have HIr:=qb hI;have HT:=qb hT;have HCr:=qb (HC.out.turn hT);have HLO:=qb hlo;have HHI:=qb qmf;clear hlo qmf hI hT;by_cases hlt:st<re
   ·have hd:decide ((st:Int)<(re:Int))=true:=by simp<;>omega
    go_wp2_with fail
    obtain⟨c,hce⟩:∃c:Nat,((st:Int)+(re:Int)) / 2=(c:Int):=⟨(st+re) / 2,by omega⟩
    obtain⟨pc,hpc⟩:∃pc:Nat,(mid:Int)+(m:Int)-1-(c:Int)=(pc:Int):=⟨mid+m-1-c,by omega⟩
    rw[hce]
    have hc1:st<=c:=by omega
    have hc2:c<re:=by omega
    have hcu:c-a<u.length:=by have:=HM.out;omega
    have hpv:pc-m<v.length:=by have:=HB.out;omega
    have hpm:m<=pc:=by omega
    have hpu:(p++u).length=m:=by have:=HA.out;have:=HM.out;simp;omega
    have cx:=HIr.out c u[c-a] (by have h:=qeI (p:=p) (v:=u) (r:=v++r) (i:=c) (by have:=HA.out;omega) (by rw[HA.out];exact hcu);rw[List.append_assoc (p++u),h];simp only[HA.out]);have cy:=HIr.out pc v[pc-m] (by have h:=qeI (p:=p++u) (v:=v) (r:=r) (i:=pc) (by omega) (by rw[hpu];exact hpv);rw[h];simp only[hpu]);have hxr:=HR.out u[c-a] (by simp);have hyr:=HR.out v[pc-m] (by simp)
    have gx:u.getD (c-a) 0=u[c-a]:=by rw[List.getD_eq_getElem?_getD,List.getElem?_eq_getElem hcu];rfl
    have gy:v.getD (mid-1-c) 0=v[pc-m]:=by rw[show mid-1-c=pc-m from by omega,List.getD_eq_getElem?_getD,List.getElem?_eq_getElem hpv];rfl
    have ZZ:Hid (∀n,Calls Tryz.prog 166 #[.map (some bm),.int .i64 v[pc-m],.int .i64 u[c-a]] (wr.drewN n) fun e w'=>e=.returned (.int .i64 (yh (Tm.qd lns v[pc-m]) (Tm.qd lns u[c-a])))/\w'=wr.drewN n):=fun n=>HCr.out.call hyr hxr n;have HGX:=qb gx;have HGY:=qb gy;clear gx gy;generalize u[c-a]=x at *;generalize v[pc-m]=y at *;obtain⟨cy,fy⟩:=cy;obtain⟨cx,fx⟩:=cx
    have i1:(c:Int)<(N:Int):=by omega
    have i2:(pc:Int)<(N:Int):=by omega
    obtain⟨q,hq⟩:∃q,decide (yh (Tm.qd lns y) (Tm.qd lns x)<0)=q:=⟨_,rfl⟩
    have hq':decide (Tm.qd lns y<Tm.qd lns x)=q:=by rw[<-hq,qbq]
    generalize yh (Tm.qd lns y) (Tm.qd lns x)=cv at *;clear hce hpu;cases q
    ·have qaU:Tm.qd lns x<=Tm.qd lns y:=by simpa using hq'
     have HL2:Hid (Tm.qd lns (u.getD (c+1-1-a) 0)<=Tm.qd lns (v.getD (mid-(c+1)) 0)):=by
      unfold Hid;rw[show c+1-1-a=c-a from by omega,show mid-(c+1)=mid-1-c from by omega,HGX.out,HGY.out];exact qaU
     clear hq' qaU;go_quiet (first|(go_at_call 166;exact Calls.quiet_of_same (ZZ.out _)))
     go_wp2;go_roundw
     case rel=>exact⟨c+1,re,by go_num,rfl,by omega,by omega,hrr,.inr HL2.out,HHI.out,HIr.out,HT.out.drewN _⟩
     case measure=>simp[intOf];omega
    ·have qaU:Tm.qd lns y<Tm.qd lns x:=by simpa using hq'
     have HH2:Hid (Tm.qd lns (v.getD (mid-1-c) 0)<Tm.qd lns (u.getD (c-a) 0)):=by unfold Hid;rw[HGX.out,HGY.out];exact qaU
     clear hq' qaU;go_quiet (first|(go_at_call 166;exact Calls.quiet_of_same (ZZ.out _)))
     go_wp2;go_roundw
     case rel=>exact⟨st,c,rfl,rfl,qid,hc1,by omega,HLO.out,.inr HH2.out,HIr.out,HT.out.drewN _⟩
     case measure=>simp[intOf];omega
   ·have qug:st=re:=by omega
    subst qug
    have hd:decide ((st:Int)<(st:Int))=false:=by simp
    obtain⟨en,hen⟩:∃en:Nat,(mid:Int)+(m:Int)-(st:Int)=(en:Int):=⟨mid+m-st,by omega⟩
    have hae:a<=st:=by omega
    have hsm:st<=m:=by omega
    have hsd:st<=mid:=by omega
    have hme:m<=en:=by omega
    have heb:en<=b:=by omega
    have hde:mid<=en:=by omega
    have hul:st-a<=u.length:=by have:=HM.out;omega
    have hvl:en-m<=v.length:=by have:=HB.out;omega
    have qds:=Tm.Up.split (T:=st-a) (E:=en-m) HUP.out HVP.out (fun q1 q2 _=>by
      rcases HHI.out with e|e
      ·exact absurd e ((HEA.out st qid hrr).1 (by have:=HM.out;omega) (by omega))
      ·rw[show en-m-1=mid-1-st from by omega];exact e) (fun q1 _ q3=>by
      rcases HLO.out with e|e
      ·exact absurd e ((HEA.out st qid hrr).2 (by omega) (by have:=HB.out;omega))
      ·rw[show st-a-1=st-1-a from by omega,show en-m=mid-st from by omega];exact e) hul hvl
    obtain⟨u1,u2,jw,hl1⟩:∃u1 u2,u=u1++u2/\u1.length=st-a:=⟨u.take (st-a),u.drop (st-a),by rw[List.take_append_drop],by simp<;>omega⟩
    obtain⟨v1,v2,jr,hl2⟩:∃v1 v2,v=v1++v2/\v1.length=en-m:=⟨v.take (en-m),v.drop (en-m),by rw[List.take_append_drop],by simp<;>omega⟩
    have e1:u.take (st-a)=u1:=by rw[jw,<-hl1];simp
    have e2:u.drop (st-a)=u2:=by rw[jw,<-hl1];simp
    have e3:v.take (en-m)=v1:=by rw[jr,<-hl2];simp
    have e4:v.drop (en-m)=v2:=by rw[jr,<-hl2];simp
    rw[e1,e2,e3,e4]at qds;have QzK:=qb qds;have QzL:=qb jw;have QzM:=qb jr;have HL1:=qb hl1;have HL2:=qb hl2
    have HL3:Hid (u2.length=m-st):=by have h:=congrArg List.length jw;have:=HM.out;simp at h;unfold Hid;omega
    have HL4:Hid (v2.length=b-en):=by have h:=congrArg List.length jr;have:=HB.out;simp at h;unfold Hid;omega
    have ZE:Hid (Tm.Up (Tm.qd lns) (u1++u2)):=by unfold Hid;rw[<-jw];exact HUP.out
    have ZF:Hid (Tm.Up (Tm.qd lns) (v1++v2)):=by unfold Hid;rw[<-jr];exact HVP.out
    have HI0:Hid (Qo wr g off ((p++u1)++u2++v1++(v2++r))):=by have h:=HIr.out;rw[jw,jr]at h;unfold Hid;simpa[List.append_assoc]using h
    have HRU:Hid (∀z∈u1++v1,0<=z/\z<=1114111):=fun z hz=>HR.out z (by rw[jw,jr];simp at hz⊢;rcases hz with h|h<;>simp[h])
    have HRV:Hid (∀z∈u2++v2,0<=z/\z<=1114111):=fun z hz=>HR.out z (by rw[jw,jr];simp at hz⊢;rcases hz with h|h<;>simp[h])
    have QZ:Hid (∀l s:List Int,Tm.Qu (Tm.qd lns) (u1++v1) l->Tm.Qu (Tm.qd lns) (u2++v2) s->Tm.Qu (Tm.qd lns) (u++v) (l++s)):=fun l s h1 h2=>by rw[jw,jr];exact Tm.Qu.merge h1 h2 ZE.out ZF.out qds.1 qds.2
    clear qds jw jr hl1 hl2 e1 e2 e3 e4;by_cases hrot:st<m/\m<en
    ·have g1:decide ((st:Int)<(m:Int))=true:=by simp<;>omega
     have g2:decide ((m:Int)<(en:Int))=true:=by simp<;>omega
     go_wp2_with fail
     refine(qkw (p++u1) u2 v1 (v2++r) g off N cap _ wr (by have:=HA.out;have:=HL1.out;simp;omega) (by have:=HA.out;have:=HL1.out;have:=HL3.out;simp;omega) (by have:=HA.out;have:=HL1.out;have:=HL3.out;have:=HL2.out;simp;omega) (by have:=HL3.out;omega) (by have:=HL2.out;omega) (by have:=HA.out;have:=HL1.out;have:=HL2.out;have:=HL3.out;have:=HL4.out;have:=HN.out;simp;omega) qV HI0.out).mono ?_;rintro e w7 ⟨rfl,hI7,hT7⟩;have HT7:=qb (HT.out.trans hT7);have HI1:Hid (Qo w7 g off (p++u1++v1++u2++(v2++r))):=hI7;clear hI7 hT7;by_cases hleft:a<st/\st<mid
     ·have j1:decide ((a:Int)<(st:Int))=true:=by simp<;>omega
      have j2:decide ((st:Int)<(mid:Int))=true:=by simp<;>omega
      have JK:=qb (HIH.out (mid-a) (by have:=HNN.out;omega) p u1 v1 (u2++v2++r) g off N cap w7 (a:Int) (st:Int) (mid:Int) (by have:=HL1.out;have:=HL2.out;omega) (by have:=HA.out;omega) (by have:=HA.out;have:=HL1.out;omega) (by have:=HA.out;have:=HL1.out;have:=HL2.out;omega) (by have:=HL1.out;omega) (by have:=HL2.out;omega) (by have:=HA.out;have:=HL1.out;have:=HL2.out;have:=HL3.out;have:=HL4.out;have:=HN.out;simp;omega) qV HRU.out (Tm.Up.append.1 ZE.out).1 (Tm.Up.append.1 ZF.out).1 (by have h:=HI1.out;simpa[List.append_assoc]using h) (HC.out.turn HT7.out));unfold qE at JK;go_wp2_with fail
      all_goals
       refine JK.out.mono ?_;rintro e w8 ⟨rfl,⟨l,hso8,hI8⟩,hT8⟩;have HT8:=qb (HT7.out.trans hT8);have HIL:=qb hI8;have HSL:=qb hso8;clear hT8 hI8 hso8
       have hlm:(p++l).length=mid:=by have h:=HSL.out.2.length;have:=HA.out;have:=HL1.out;have:=HL2.out;simp at h⊢;omega
       by_cases hright:mid<en/\en<b
       ·have k1:decide ((mid:Int)<(en:Int))=true:=by simp<;>omega
        have k2:decide ((en:Int)<(b:Int))=true:=by simp<;>omega
        have QM:=qb (HIH.out (b-mid) (by have:=HNN.out;omega) (p++l) u2 v2 r g off N cap w8 (mid:Int) (en:Int) (b:Int) (by have:=HL3.out;have:=HL4.out;omega) (by rw[hlm]) (by rw[hlm];have:=HL3.out;omega) (by rw[hlm];have:=HL3.out;have:=HL4.out;omega) (by have:=HL3.out;omega) (by have:=HL4.out;omega) (by rw[hlm];have:=HL3.out;have:=HL4.out;have:=HN.out;omega) qV HRV.out (Tm.Up.append.1 ZE.out).2.1 (Tm.Up.append.1 ZF.out).2.1 (by have h:=HIL.out;simpa[List.append_assoc]using h) (HC.out.turn HT8.out));unfold qE at QM;clear hlm;go_wp2_with fail
        all_goals
         refine QM.out.mono ?_;rintro e w9 ⟨rfl,⟨s9,hso9,hI9⟩,hT9⟩;have HT9:=qb (HT8.out.trans hT9)
         have HI9:Hid (Qo w9 g off (p++(l++s9)++r)):=by unfold Hid;simpa[List.append_assoc]using hI9
         have YM:=qb hso9;clear hT9 hI9 hso9;go_wp2;all_goals(first|go_end0|refine bodyPost_ret (results_none rfl _ _ _) rfl ?_)
         all_goals exact⟨rfl,⟨_,QZ.out _ _ HSL.out YM.out,HI9.out⟩,HT9.out⟩
       ·have HSR:Hid (Tm.Qu (Tm.qd lns) (u2++v2) (u2++v2)):=Tm.Qu.yE (by
         by_cases hz:u2=[]
         ·rw[hz];simpa using(Tm.Up.append.1 ZF.out).2.1
         ·have hz2:v2=[]:=List.eq_nil_of_length_eq_zero (by have h3:=HL3.out;have h4:=HL4.out;have h5:0<u2.length:=List.length_pos_iff.2 hz;omega)
          rw[hz2];simpa using(Tm.Up.append.1 ZE.out).2.1)
        have HI9:Hid (Qo w8 g off (p++(l++(u2++v2))++r)):=by have h:=HIL.out;unfold Hid;simpa[List.append_assoc]using h
        clear hlm;by_cases hme2:mid<en
        ·have k1:decide ((mid:Int)<(en:Int))=true:=by simp<;>omega
         have k2:decide ((en:Int)<(b:Int))=false:=by simp<;>omega
         go_wp2;all_goals(first|go_end0|refine bodyPost_ret (results_none rfl _ _ _) rfl ?_)
         all_goals exact⟨rfl,⟨_,QZ.out _ _ HSL.out HSR.out,HI9.out⟩,HT8.out⟩
        ·have k1:decide ((mid:Int)<(en:Int))=false:=by simp<;>omega
         go_wp2;all_goals(first|go_end0|refine bodyPost_ret (results_none rfl _ _ _) rfl ?_)
         all_goals exact⟨rfl,⟨_,QZ.out _ _ HSL.out HSR.out,HI9.out⟩,HT8.out⟩
     ·have HSL:Hid (Tm.Qu (Tm.qd lns) (u1++v1) (u1++v1)):=Tm.Qu.yE (by
       by_cases hz:u1=[]
       ·rw[hz];simpa using(Tm.Up.append.1 ZF.out).1
       ·have hz2:v1=[]:=List.eq_nil_of_length_eq_zero (by have h3:=HL1.out;have h4:=HL2.out;have h5:0<u1.length:=List.length_pos_iff.2 hz;omega)
        rw[hz2];simpa using(Tm.Up.append.1 ZE.out).1)
      have HIL:Hid (Qo w7 g off (p++(u1++v1)++(u2++v2++r))):=by have h:=HI1.out;unfold Hid;simpa[List.append_assoc]using h
      have hj:decide ((a:Int)<(st:Int))=false\/(decide ((a:Int)<(st:Int))=true/\decide ((st:Int)<(mid:Int))=false):=by
       by_cases h:a<st
       ·right;exact⟨by simp<;>omega,by simp<;>omega⟩
       ·left;simp;omega
      rcases hj with j1|⟨j1,j2⟩
      ·have hlm:(p++(u1++v1)).length=mid:=by have h:=HSL.out.2.length;have:=HA.out;have:=HL1.out;have:=HL2.out;simp at h⊢;omega
       by_cases hright:mid<en/\en<b
       ·have k1:decide ((mid:Int)<(en:Int))=true:=by simp<;>omega
        have k2:decide ((en:Int)<(b:Int))=true:=by simp<;>omega
        have QM:=qb (HIH.out (b-mid) (by have:=HNN.out;omega) (p++(u1++v1)) u2 v2 r g off N cap w7 (mid:Int) (en:Int) (b:Int) (by have:=HL3.out;have:=HL4.out;omega) (by rw[hlm]) (by rw[hlm];have:=HL3.out;omega) (by rw[hlm];have:=HL3.out;have:=HL4.out;omega) (by have:=HL3.out;omega) (by have:=HL4.out;omega) (by rw[hlm];have:=HL3.out;have:=HL4.out;have:=HN.out;omega) qV HRV.out (Tm.Up.append.1 ZE.out).2.1 (Tm.Up.append.1 ZF.out).2.1 (by have h:=HIL.out;simpa[List.append_assoc]using h) (HC.out.turn HT7.out));unfold qE at QM;clear hlm;go_wp2_with fail
        all_goals
         refine QM.out.mono ?_;rintro e w9 ⟨rfl,⟨s9,hso9,hI9⟩,hT9⟩;have HT9:=qb (HT7.out.trans hT9)
         have HI9:Hid (Qo w9 g off (p++((u1++v1)++s9)++r)):=by unfold Hid;simpa[List.append_assoc]using hI9
         have YM:=qb hso9;clear hT9 hI9 hso9;go_wp2;all_goals(first|go_end0|refine bodyPost_ret (results_none rfl _ _ _) rfl ?_)
         all_goals exact⟨rfl,⟨_,QZ.out _ _ HSL.out YM.out,HI9.out⟩,HT9.out⟩
       ·have HSR:Hid (Tm.Qu (Tm.qd lns) (u2++v2) (u2++v2)):=Tm.Qu.yE (by
         by_cases hz:u2=[]
         ·rw[hz];simpa using(Tm.Up.append.1 ZF.out).2.1
         ·have hz2:v2=[]:=List.eq_nil_of_length_eq_zero (by have h3:=HL3.out;have h4:=HL4.out;have h5:0<u2.length:=List.length_pos_iff.2 hz;omega)
          rw[hz2];simpa using(Tm.Up.append.1 ZE.out).2.1)
        have HI9:Hid (Qo w7 g off (p++((u1++v1)++(u2++v2))++r)):=by have h:=HIL.out;unfold Hid;simpa[List.append_assoc]using h
        clear hlm;by_cases hme2:mid<en
        ·have k1:decide ((mid:Int)<(en:Int))=true:=by simp<;>omega
         have k2:decide ((en:Int)<(b:Int))=false:=by simp<;>omega
         go_wp2;all_goals(first|go_end0|refine bodyPost_ret (results_none rfl _ _ _) rfl ?_)
         all_goals exact⟨rfl,⟨_,QZ.out _ _ HSL.out HSR.out,HI9.out⟩,HT7.out⟩
        ·have k1:decide ((mid:Int)<(en:Int))=false:=by simp<;>omega
         go_wp2;all_goals(first|go_end0|refine bodyPost_ret (results_none rfl _ _ _) rfl ?_)
         all_goals exact⟨rfl,⟨_,QZ.out _ _ HSL.out HSR.out,HI9.out⟩,HT7.out⟩
      ·have hlm:(p++(u1++v1)).length=mid:=by have h:=HSL.out.2.length;have:=HA.out;have:=HL1.out;have:=HL2.out;simp at h⊢;omega
       by_cases hright:mid<en/\en<b
       ·have k1:decide ((mid:Int)<(en:Int))=true:=by simp<;>omega
        have k2:decide ((en:Int)<(b:Int))=true:=by simp<;>omega
        have QM:=qb (HIH.out (b-mid) (by have:=HNN.out;omega) (p++(u1++v1)) u2 v2 r g off N cap w7 (mid:Int) (en:Int) (b:Int) (by have:=HL3.out;have:=HL4.out;omega) (by rw[hlm]) (by rw[hlm];have:=HL3.out;omega) (by rw[hlm];have:=HL3.out;have:=HL4.out;omega) (by have:=HL3.out;omega) (by have:=HL4.out;omega) (by rw[hlm];have:=HL3.out;have:=HL4.out;have:=HN.out;omega) qV HRV.out (Tm.Up.append.1 ZE.out).2.1 (Tm.Up.append.1 ZF.out).2.1 (by have h:=HIL.out;simpa[List.append_assoc]using h) (HC.out.turn HT7.out));unfold qE at QM;clear hlm;go_wp2_with fail
        all_goals
         refine QM.out.mono ?_;rintro e w9 ⟨rfl,⟨s9,hso9,hI9⟩,hT9⟩;have HT9:=qb (HT7.out.trans hT9)
         have HI9:Hid (Qo w9 g off (p++((u1++v1)++s9)++r)):=by unfold Hid;simpa[List.append_assoc]using hI9
         have YM:=qb hso9;clear hT9 hI9 hso9;go_wp2;all_goals(first|go_end0|refine bodyPost_ret (results_none rfl _ _ _) rfl ?_)
         all_goals exact⟨rfl,⟨_,QZ.out _ _ HSL.out YM.out,HI9.out⟩,HT9.out⟩
       ·have HSR:Hid (Tm.Qu (Tm.qd lns) (u2++v2) (u2++v2)):=Tm.Qu.yE (by
         by_cases hz:u2=[]
         ·rw[hz];simpa using(Tm.Up.append.1 ZF.out).2.1
         ·have hz2:v2=[]:=List.eq_nil_of_length_eq_zero (by have h3:=HL3.out;have h4:=HL4.out;have h5:0<u2.length:=List.length_pos_iff.2 hz;omega)
          rw[hz2];simpa using(Tm.Up.append.1 ZE.out).2.1)
        have HI9:Hid (Qo w7 g off (p++((u1++v1)++(u2++v2))++r)):=by have h:=HIL.out;unfold Hid;simpa[List.append_assoc]using h
        clear hlm;by_cases hme2:mid<en
        ·have k1:decide ((mid:Int)<(en:Int))=true:=by simp<;>omega
         have k2:decide ((en:Int)<(b:Int))=false:=by simp<;>omega
         go_wp2;all_goals(first|go_end0|refine bodyPost_ret (results_none rfl _ _ _) rfl ?_)
         all_goals exact⟨rfl,⟨_,QZ.out _ _ HSL.out HSR.out,HI9.out⟩,HT7.out⟩
        ·have k1:decide ((mid:Int)<(en:Int))=false:=by simp<;>omega
         go_wp2;all_goals(first|go_end0|refine bodyPost_ret (results_none rfl _ _ _) rfl ?_)
         all_goals exact⟨rfl,⟨_,QZ.out _ _ HSL.out HSR.out,HI9.out⟩,HT7.out⟩
    ·have HI1:Hid (Qo wr g off (p++u1++v1++u2++(v2++r))):=by
      have h:=HI0.out;unfold Hid;by_cases hz:u2=[]
      ·rw[hz]at h⊢;simpa[List.append_assoc]using h
      ·have hz2:v1=[]:=List.eq_nil_of_length_eq_zero (by have h3:=HL3.out;have h4:=HL2.out;have h5:0<u2.length:=List.length_pos_iff.2 hz;omega);rw[hz2]at h⊢;simpa[List.append_assoc]using h
     have hg:decide ((st:Int)<(m:Int))=false\/(decide ((st:Int)<(m:Int))=true/\decide ((m:Int)<(en:Int))=false):=by
      by_cases h:st<m
      ·right;exact⟨by simp<;>omega,by simp<;>omega⟩
      ·left;simp;omega
     rcases hg with g1|⟨g1,g2⟩
     ·by_cases hleft:a<st/\st<mid
      ·have j1:decide ((a:Int)<(st:Int))=true:=by simp<;>omega
       have j2:decide ((st:Int)<(mid:Int))=true:=by simp<;>omega
       have JK:=qb (HIH.out (mid-a) (by have:=HNN.out;omega) p u1 v1 (u2++v2++r) g off N cap wr (a:Int) (st:Int) (mid:Int) (by have:=HL1.out;have:=HL2.out;omega) (by have:=HA.out;omega) (by have:=HA.out;have:=HL1.out;omega) (by have:=HA.out;have:=HL1.out;have:=HL2.out;omega) (by have:=HL1.out;omega) (by have:=HL2.out;omega) (by have:=HA.out;have:=HL1.out;have:=HL2.out;have:=HL3.out;have:=HL4.out;have:=HN.out;simp;omega) qV HRU.out (Tm.Up.append.1 ZE.out).1 (Tm.Up.append.1 ZF.out).1 (by have h:=HI1.out;simpa[List.append_assoc]using h) (HC.out.turn HT.out));unfold qE at JK;go_wp2_with fail
       all_goals
        refine JK.out.mono ?_;rintro e w8 ⟨rfl,⟨l,hso8,hI8⟩,hT8⟩;have HT8:=qb (HT.out.trans hT8);have HIL:=qb hI8;have HSL:=qb hso8;clear hT8 hI8 hso8
        have hlm:(p++l).length=mid:=by have h:=HSL.out.2.length;have:=HA.out;have:=HL1.out;have:=HL2.out;simp at h⊢;omega
        by_cases hright:mid<en/\en<b
        ·have k1:decide ((mid:Int)<(en:Int))=true:=by simp<;>omega
         have k2:decide ((en:Int)<(b:Int))=true:=by simp<;>omega
         have QM:=qb (HIH.out (b-mid) (by have:=HNN.out;omega) (p++l) u2 v2 r g off N cap w8 (mid:Int) (en:Int) (b:Int) (by have:=HL3.out;have:=HL4.out;omega) (by rw[hlm]) (by rw[hlm];have:=HL3.out;omega) (by rw[hlm];have:=HL3.out;have:=HL4.out;omega) (by have:=HL3.out;omega) (by have:=HL4.out;omega) (by rw[hlm];have:=HL3.out;have:=HL4.out;have:=HN.out;omega) qV HRV.out (Tm.Up.append.1 ZE.out).2.1 (Tm.Up.append.1 ZF.out).2.1 (by have h:=HIL.out;simpa[List.append_assoc]using h) (HC.out.turn HT8.out));unfold qE at QM;clear hlm;go_wp2_with fail
         all_goals
          refine QM.out.mono ?_;rintro e w9 ⟨rfl,⟨s9,hso9,hI9⟩,hT9⟩;have HT9:=qb (HT8.out.trans hT9)
          have HI9:Hid (Qo w9 g off (p++(l++s9)++r)):=by unfold Hid;simpa[List.append_assoc]using hI9
          have YM:=qb hso9;clear hT9 hI9 hso9;go_wp2;all_goals(first|go_end0|refine bodyPost_ret (results_none rfl _ _ _) rfl ?_)
          all_goals exact⟨rfl,⟨_,QZ.out _ _ HSL.out YM.out,HI9.out⟩,HT9.out⟩
        ·have HSR:Hid (Tm.Qu (Tm.qd lns) (u2++v2) (u2++v2)):=Tm.Qu.yE (by
          by_cases hz:u2=[]
          ·rw[hz];simpa using(Tm.Up.append.1 ZF.out).2.1
          ·have hz2:v2=[]:=List.eq_nil_of_length_eq_zero (by have h3:=HL3.out;have h4:=HL4.out;have h5:0<u2.length:=List.length_pos_iff.2 hz;omega)
           rw[hz2];simpa using(Tm.Up.append.1 ZE.out).2.1)
         have HI9:Hid (Qo w8 g off (p++(l++(u2++v2))++r)):=by have h:=HIL.out;unfold Hid;simpa[List.append_assoc]using h
         clear hlm;by_cases hme2:mid<en
         ·have k1:decide ((mid:Int)<(en:Int))=true:=by simp<;>omega
          have k2:decide ((en:Int)<(b:Int))=false:=by simp<;>omega
          go_wp2;all_goals(first|go_end0|refine bodyPost_ret (results_none rfl _ _ _) rfl ?_)
          all_goals exact⟨rfl,⟨_,QZ.out _ _ HSL.out HSR.out,HI9.out⟩,HT8.out⟩
         ·have k1:decide ((mid:Int)<(en:Int))=false:=by simp<;>omega
          go_wp2;all_goals(first|go_end0|refine bodyPost_ret (results_none rfl _ _ _) rfl ?_)
          all_goals exact⟨rfl,⟨_,QZ.out _ _ HSL.out HSR.out,HI9.out⟩,HT8.out⟩
      ·have HSL:Hid (Tm.Qu (Tm.qd lns) (u1++v1) (u1++v1)):=Tm.Qu.yE (by
        by_cases hz:u1=[]
        ·rw[hz];simpa using(Tm.Up.append.1 ZF.out).1
        ·have hz2:v1=[]:=List.eq_nil_of_length_eq_zero (by have h3:=HL1.out;have h4:=HL2.out;have h5:0<u1.length:=List.length_pos_iff.2 hz;omega)
         rw[hz2];simpa using(Tm.Up.append.1 ZE.out).1)
       have HIL:Hid (Qo wr g off (p++(u1++v1)++(u2++v2++r))):=by have h:=HI1.out;unfold Hid;simpa[List.append_assoc]using h
       have hj:decide ((a:Int)<(st:Int))=false\/(decide ((a:Int)<(st:Int))=true/\decide ((st:Int)<(mid:Int))=false):=by
        by_cases h:a<st
        ·right;exact⟨by simp<;>omega,by simp<;>omega⟩
        ·left;simp;omega
       rcases hj with j1|⟨j1,j2⟩
       ·have hlm:(p++(u1++v1)).length=mid:=by have h:=HSL.out.2.length;have:=HA.out;have:=HL1.out;have:=HL2.out;simp at h⊢;omega
        by_cases hright:mid<en/\en<b
        ·have k1:decide ((mid:Int)<(en:Int))=true:=by simp<;>omega
         have k2:decide ((en:Int)<(b:Int))=true:=by simp<;>omega
         have QM:=qb (HIH.out (b-mid) (by have:=HNN.out;omega) (p++(u1++v1)) u2 v2 r g off N cap wr (mid:Int) (en:Int) (b:Int) (by have:=HL3.out;have:=HL4.out;omega) (by rw[hlm]) (by rw[hlm];have:=HL3.out;omega) (by rw[hlm];have:=HL3.out;have:=HL4.out;omega) (by have:=HL3.out;omega) (by have:=HL4.out;omega) (by rw[hlm];have:=HL3.out;have:=HL4.out;have:=HN.out;omega) qV HRV.out (Tm.Up.append.1 ZE.out).2.1 (Tm.Up.append.1 ZF.out).2.1 (by have h:=HIL.out;simpa[List.append_assoc]using h) (HC.out.turn HT.out));unfold qE at QM;clear hlm;go_wp2_with fail
         all_goals
          refine QM.out.mono ?_;rintro e w9 ⟨rfl,⟨s9,hso9,hI9⟩,hT9⟩;have HT9:=qb (HT.out.trans hT9)
          have HI9:Hid (Qo w9 g off (p++((u1++v1)++s9)++r)):=by unfold Hid;simpa[List.append_assoc]using hI9
          have YM:=qb hso9;clear hT9 hI9 hso9;go_wp2;all_goals(first|go_end0|refine bodyPost_ret (results_none rfl _ _ _) rfl ?_)
          all_goals exact⟨rfl,⟨_,QZ.out _ _ HSL.out YM.out,HI9.out⟩,HT9.out⟩
        ·have HSR:Hid (Tm.Qu (Tm.qd lns) (u2++v2) (u2++v2)):=Tm.Qu.yE (by
          by_cases hz:u2=[]
          ·rw[hz];simpa using(Tm.Up.append.1 ZF.out).2.1
          ·have hz2:v2=[]:=List.eq_nil_of_length_eq_zero (by have h3:=HL3.out;have h4:=HL4.out;have h5:0<u2.length:=List.length_pos_iff.2 hz;omega)
           rw[hz2];simpa using(Tm.Up.append.1 ZE.out).2.1)
         have HI9:Hid (Qo wr g off (p++((u1++v1)++(u2++v2))++r)):=by have h:=HIL.out;unfold Hid;simpa[List.append_assoc]using h
         clear hlm;by_cases hme2:mid<en
         ·have k1:decide ((mid:Int)<(en:Int))=true:=by simp<;>omega
          have k2:decide ((en:Int)<(b:Int))=false:=by simp<;>omega
          go_wp2;all_goals(first|go_end0|refine bodyPost_ret (results_none rfl _ _ _) rfl ?_)
          all_goals exact⟨rfl,⟨_,QZ.out _ _ HSL.out HSR.out,HI9.out⟩,HT.out⟩
         ·have k1:decide ((mid:Int)<(en:Int))=false:=by simp<;>omega
          go_wp2;all_goals(first|go_end0|refine bodyPost_ret (results_none rfl _ _ _) rfl ?_)
          all_goals exact⟨rfl,⟨_,QZ.out _ _ HSL.out HSR.out,HI9.out⟩,HT.out⟩
       ·have hlm:(p++(u1++v1)).length=mid:=by have h:=HSL.out.2.length;have:=HA.out;have:=HL1.out;have:=HL2.out;simp at h⊢;omega
        by_cases hright:mid<en/\en<b
        ·have k1:decide ((mid:Int)<(en:Int))=true:=by simp<;>omega
         have k2:decide ((en:Int)<(b:Int))=true:=by simp<;>omega
         have QM:=qb (HIH.out (b-mid) (by have:=HNN.out;omega) (p++(u1++v1)) u2 v2 r g off N cap wr (mid:Int) (en:Int) (b:Int) (by have:=HL3.out;have:=HL4.out;omega) (by rw[hlm]) (by rw[hlm];have:=HL3.out;omega) (by rw[hlm];have:=HL3.out;have:=HL4.out;omega) (by have:=HL3.out;omega) (by have:=HL4.out;omega) (by rw[hlm];have:=HL3.out;have:=HL4.out;have:=HN.out;omega) qV HRV.out (Tm.Up.append.1 ZE.out).2.1 (Tm.Up.append.1 ZF.out).2.1 (by have h:=HIL.out;simpa[List.append_assoc]using h) (HC.out.turn HT.out));unfold qE at QM;clear hlm;go_wp2_with fail
         all_goals
          refine QM.out.mono ?_;rintro e w9 ⟨rfl,⟨s9,hso9,hI9⟩,hT9⟩;have HT9:=qb (HT.out.trans hT9)
          have HI9:Hid (Qo w9 g off (p++((u1++v1)++s9)++r)):=by unfold Hid;simpa[List.append_assoc]using hI9
          have YM:=qb hso9;clear hT9 hI9 hso9;go_wp2;all_goals(first|go_end0|refine bodyPost_ret (results_none rfl _ _ _) rfl ?_)
          all_goals exact⟨rfl,⟨_,QZ.out _ _ HSL.out YM.out,HI9.out⟩,HT9.out⟩
        ·have HSR:Hid (Tm.Qu (Tm.qd lns) (u2++v2) (u2++v2)):=Tm.Qu.yE (by
          by_cases hz:u2=[]
          ·rw[hz];simpa using(Tm.Up.append.1 ZF.out).2.1
          ·have hz2:v2=[]:=List.eq_nil_of_length_eq_zero (by have h3:=HL3.out;have h4:=HL4.out;have h5:0<u2.length:=List.length_pos_iff.2 hz;omega)
           rw[hz2];simpa using(Tm.Up.append.1 ZE.out).2.1)
         have HI9:Hid (Qo wr g off (p++((u1++v1)++(u2++v2))++r)):=by have h:=HIL.out;unfold Hid;simpa[List.append_assoc]using h
         clear hlm;by_cases hme2:mid<en
         ·have k1:decide ((mid:Int)<(en:Int))=true:=by simp<;>omega
          have k2:decide ((en:Int)<(b:Int))=false:=by simp<;>omega
          go_wp2;all_goals(first|go_end0|refine bodyPost_ret (results_none rfl _ _ _) rfl ?_)
          all_goals exact⟨rfl,⟨_,QZ.out _ _ HSL.out HSR.out,HI9.out⟩,HT.out⟩
         ·have k1:decide ((mid:Int)<(en:Int))=false:=by simp<;>omega
          go_wp2;all_goals(first|go_end0|refine bodyPost_ret (results_none rfl _ _ _) rfl ?_)
          all_goals exact⟨rfl,⟨_,QZ.out _ _ HSL.out HSR.out,HI9.out⟩,HT.out⟩
     ·by_cases hleft:a<st/\st<mid
      ·have j1:decide ((a:Int)<(st:Int))=true:=by simp<;>omega
       have j2:decide ((st:Int)<(mid:Int))=true:=by simp<;>omega
       have JK:=qb (HIH.out (mid-a) (by have:=HNN.out;omega) p u1 v1 (u2++v2++r) g off N cap wr (a:Int) (st:Int) (mid:Int) (by have:=HL1.out;have:=HL2.out;omega) (by have:=HA.out;omega) (by have:=HA.out;have:=HL1.out;omega) (by have:=HA.out;have:=HL1.out;have:=HL2.out;omega) (by have:=HL1.out;omega) (by have:=HL2.out;omega) (by have:=HA.out;have:=HL1.out;have:=HL2.out;have:=HL3.out;have:=HL4.out;have:=HN.out;simp;omega) qV HRU.out (Tm.Up.append.1 ZE.out).1 (Tm.Up.append.1 ZF.out).1 (by have h:=HI1.out;simpa[List.append_assoc]using h) (HC.out.turn HT.out));unfold qE at JK;go_wp2_with fail
       all_goals
        refine JK.out.mono ?_;rintro e w8 ⟨rfl,⟨l,hso8,hI8⟩,hT8⟩;have HT8:=qb (HT.out.trans hT8);have HIL:=qb hI8;have HSL:=qb hso8;clear hT8 hI8 hso8
        have hlm:(p++l).length=mid:=by have h:=HSL.out.2.length;have:=HA.out;have:=HL1.out;have:=HL2.out;simp at h⊢;omega
        by_cases hright:mid<en/\en<b
        ·have k1:decide ((mid:Int)<(en:Int))=true:=by simp<;>omega
         have k2:decide ((en:Int)<(b:Int))=true:=by simp<;>omega
         have QM:=qb (HIH.out (b-mid) (by have:=HNN.out;omega) (p++l) u2 v2 r g off N cap w8 (mid:Int) (en:Int) (b:Int) (by have:=HL3.out;have:=HL4.out;omega) (by rw[hlm]) (by rw[hlm];have:=HL3.out;omega) (by rw[hlm];have:=HL3.out;have:=HL4.out;omega) (by have:=HL3.out;omega) (by have:=HL4.out;omega) (by rw[hlm];have:=HL3.out;have:=HL4.out;have:=HN.out;omega) qV HRV.out (Tm.Up.append.1 ZE.out).2.1 (Tm.Up.append.1 ZF.out).2.1 (by have h:=HIL.out;simpa[List.append_assoc]using h) (HC.out.turn HT8.out));unfold qE at QM;clear hlm;go_wp2_with fail
         all_goals
          refine QM.out.mono ?_;rintro e w9 ⟨rfl,⟨s9,hso9,hI9⟩,hT9⟩;have HT9:=qb (HT8.out.trans hT9)
          have HI9:Hid (Qo w9 g off (p++(l++s9)++r)):=by unfold Hid;simpa[List.append_assoc]using hI9
          have YM:=qb hso9;clear hT9 hI9 hso9;go_wp2;all_goals(first|go_end0|refine bodyPost_ret (results_none rfl _ _ _) rfl ?_)
          all_goals exact⟨rfl,⟨_,QZ.out _ _ HSL.out YM.out,HI9.out⟩,HT9.out⟩
        ·have HSR:Hid (Tm.Qu (Tm.qd lns) (u2++v2) (u2++v2)):=Tm.Qu.yE (by
          by_cases hz:u2=[]
          ·rw[hz];simpa using(Tm.Up.append.1 ZF.out).2.1
          ·have hz2:v2=[]:=List.eq_nil_of_length_eq_zero (by have h3:=HL3.out;have h4:=HL4.out;have h5:0<u2.length:=List.length_pos_iff.2 hz;omega)
           rw[hz2];simpa using(Tm.Up.append.1 ZE.out).2.1)
         have HI9:Hid (Qo w8 g off (p++(l++(u2++v2))++r)):=by have h:=HIL.out;unfold Hid;simpa[List.append_assoc]using h
         clear hlm;by_cases hme2:mid<en
         ·have k1:decide ((mid:Int)<(en:Int))=true:=by simp<;>omega
          have k2:decide ((en:Int)<(b:Int))=false:=by simp<;>omega
          go_wp2;all_goals(first|go_end0|refine bodyPost_ret (results_none rfl _ _ _) rfl ?_)
          all_goals exact⟨rfl,⟨_,QZ.out _ _ HSL.out HSR.out,HI9.out⟩,HT8.out⟩
         ·have k1:decide ((mid:Int)<(en:Int))=false:=by simp<;>omega
          go_wp2;all_goals(first|go_end0|refine bodyPost_ret (results_none rfl _ _ _) rfl ?_)
          all_goals exact⟨rfl,⟨_,QZ.out _ _ HSL.out HSR.out,HI9.out⟩,HT8.out⟩
      ·have HSL:Hid (Tm.Qu (Tm.qd lns) (u1++v1) (u1++v1)):=Tm.Qu.yE (by
        by_cases hz:u1=[]
        ·rw[hz];simpa using(Tm.Up.append.1 ZF.out).1
        ·have hz2:v1=[]:=List.eq_nil_of_length_eq_zero (by have h3:=HL1.out;have h4:=HL2.out;have h5:0<u1.length:=List.length_pos_iff.2 hz;omega)
         rw[hz2];simpa using(Tm.Up.append.1 ZE.out).1)
       have HIL:Hid (Qo wr g off (p++(u1++v1)++(u2++v2++r))):=by have h:=HI1.out;unfold Hid;simpa[List.append_assoc]using h
       have hj:decide ((a:Int)<(st:Int))=false\/(decide ((a:Int)<(st:Int))=true/\decide ((st:Int)<(mid:Int))=false):=by
        by_cases h:a<st
        ·right;exact⟨by simp<;>omega,by simp<;>omega⟩
        ·left;simp;omega
       rcases hj with j1|⟨j1,j2⟩
       ·have hlm:(p++(u1++v1)).length=mid:=by have h:=HSL.out.2.length;have:=HA.out;have:=HL1.out;have:=HL2.out;simp at h⊢;omega
        by_cases hright:mid<en/\en<b
        ·have k1:decide ((mid:Int)<(en:Int))=true:=by simp<;>omega
         have k2:decide ((en:Int)<(b:Int))=true:=by simp<;>omega
         have QM:=qb (HIH.out (b-mid) (by have:=HNN.out;omega) (p++(u1++v1)) u2 v2 r g off N cap wr (mid:Int) (en:Int) (b:Int) (by have:=HL3.out;have:=HL4.out;omega) (by rw[hlm]) (by rw[hlm];have:=HL3.out;omega) (by rw[hlm];have:=HL3.out;have:=HL4.out;omega) (by have:=HL3.out;omega) (by have:=HL4.out;omega) (by rw[hlm];have:=HL3.out;have:=HL4.out;have:=HN.out;omega) qV HRV.out (Tm.Up.append.1 ZE.out).2.1 (Tm.Up.append.1 ZF.out).2.1 (by have h:=HIL.out;simpa[List.append_assoc]using h) (HC.out.turn HT.out));unfold qE at QM;clear hlm;go_wp2_with fail
         all_goals
          refine QM.out.mono ?_;rintro e w9 ⟨rfl,⟨s9,hso9,hI9⟩,hT9⟩;have HT9:=qb (HT.out.trans hT9)
          have HI9:Hid (Qo w9 g off (p++((u1++v1)++s9)++r)):=by unfold Hid;simpa[List.append_assoc]using hI9
          have YM:=qb hso9;clear hT9 hI9 hso9;go_wp2;all_goals(first|go_end0|refine bodyPost_ret (results_none rfl _ _ _) rfl ?_)
          all_goals exact⟨rfl,⟨_,QZ.out _ _ HSL.out YM.out,HI9.out⟩,HT9.out⟩
        ·have HSR:Hid (Tm.Qu (Tm.qd lns) (u2++v2) (u2++v2)):=Tm.Qu.yE (by
          by_cases hz:u2=[]
          ·rw[hz];simpa using(Tm.Up.append.1 ZF.out).2.1
          ·have hz2:v2=[]:=List.eq_nil_of_length_eq_zero (by have h3:=HL3.out;have h4:=HL4.out;have h5:0<u2.length:=List.length_pos_iff.2 hz;omega)
           rw[hz2];simpa using(Tm.Up.append.1 ZE.out).2.1)
         have HI9:Hid (Qo wr g off (p++((u1++v1)++(u2++v2))++r)):=by have h:=HIL.out;unfold Hid;simpa[List.append_assoc]using h
         clear hlm;by_cases hme2:mid<en
         ·have k1:decide ((mid:Int)<(en:Int))=true:=by simp<;>omega
          have k2:decide ((en:Int)<(b:Int))=false:=by simp<;>omega
          go_wp2;all_goals(first|go_end0|refine bodyPost_ret (results_none rfl _ _ _) rfl ?_)
          all_goals exact⟨rfl,⟨_,QZ.out _ _ HSL.out HSR.out,HI9.out⟩,HT.out⟩
         ·have k1:decide ((mid:Int)<(en:Int))=false:=by simp<;>omega
          go_wp2;all_goals(first|go_end0|refine bodyPost_ret (results_none rfl _ _ _) rfl ?_)
          all_goals exact⟨rfl,⟨_,QZ.out _ _ HSL.out HSR.out,HI9.out⟩,HT.out⟩
       ·have hlm:(p++(u1++v1)).length=mid:=by have h:=HSL.out.2.length;have:=HA.out;have:=HL1.out;have:=HL2.out;simp at h⊢;omega
        by_cases hright:mid<en/\en<b
        ·have k1:decide ((mid:Int)<(en:Int))=true:=by simp<;>omega
         have k2:decide ((en:Int)<(b:Int))=true:=by simp<;>omega
         have QM:=qb (HIH.out (b-mid) (by have:=HNN.out;omega) (p++(u1++v1)) u2 v2 r g off N cap wr (mid:Int) (en:Int) (b:Int) (by have:=HL3.out;have:=HL4.out;omega) (by rw[hlm]) (by rw[hlm];have:=HL3.out;omega) (by rw[hlm];have:=HL3.out;have:=HL4.out;omega) (by have:=HL3.out;omega) (by have:=HL4.out;omega) (by rw[hlm];have:=HL3.out;have:=HL4.out;have:=HN.out;omega) qV HRV.out (Tm.Up.append.1 ZE.out).2.1 (Tm.Up.append.1 ZF.out).2.1 (by have h:=HIL.out;simpa[List.append_assoc]using h) (HC.out.turn HT.out));unfold qE at QM;clear hlm;go_wp2_with fail
         all_goals
          refine QM.out.mono ?_;rintro e w9 ⟨rfl,⟨s9,hso9,hI9⟩,hT9⟩;have HT9:=qb (HT.out.trans hT9)
          have HI9:Hid (Qo w9 g off (p++((u1++v1)++s9)++r)):=by unfold Hid;simpa[List.append_assoc]using hI9
          have YM:=qb hso9;clear hT9 hI9 hso9;go_wp2;all_goals(first|go_end0|refine bodyPost_ret (results_none rfl _ _ _) rfl ?_)
          all_goals exact⟨rfl,⟨_,QZ.out _ _ HSL.out YM.out,HI9.out⟩,HT9.out⟩
        ·have HSR:Hid (Tm.Qu (Tm.qd lns) (u2++v2) (u2++v2)):=Tm.Qu.yE (by
          by_cases hz:u2=[]
          ·rw[hz];simpa using(Tm.Up.append.1 ZF.out).2.1
          ·have hz2:v2=[]:=List.eq_nil_of_length_eq_zero (by have h3:=HL3.out;have h4:=HL4.out;have h5:0<u2.length:=List.length_pos_iff.2 hz;omega)
           rw[hz2];simpa using(Tm.Up.append.1 ZE.out).2.1)
         have HI9:Hid (Qo wr g off (p++((u1++v1)++(u2++v2))++r)):=by have h:=HIL.out;unfold Hid;simpa[List.append_assoc]using h
         clear hlm;by_cases hme2:mid<en
         ·have k1:decide ((mid:Int)<(en:Int))=true:=by simp<;>omega
          have k2:decide ((en:Int)<(b:Int))=false:=by simp<;>omega
          go_wp2;all_goals(first|go_end0|refine bodyPost_ret (results_none rfl _ _ _) rfl ?_)
          all_goals exact⟨rfl,⟨_,QZ.out _ _ HSL.out HSR.out,HI9.out⟩,HT.out⟩
         ·have k1:decide ((mid:Int)<(en:Int))=false:=by simp<;>omega
          go_wp2;all_goals(first|go_end0|refine bodyPost_ret (results_none rfl _ _ _) rfl ?_)
          all_goals exact⟨rfl,⟨_,QZ.out _ _ HSL.out HSR.out,HI9.out⟩,HT.out⟩
 ·have hle:m<=mid:=by omega
  obtain⟨s0,hs0⟩:∃s0:Nat,s0=a:=⟨_,rfl⟩
  have hdm:decide ((mid:Int)<(m:Int))=false:=by simp<;>omega
  obtain⟨r0,hr0⟩:∃r0:Nat,r0=m:=⟨_,rfl⟩
  have qzH:a<=s0:=by omega
  have quf:s0<=r0:=by omega
  have qzI:r0<=m:=by omega
  have qzJ:r0<=mid:=by omega
  have zU:m<=mid+m-r0:=by omega
  have hhi:mid+m-s0<=b:=by omega
  have HEA:Hid (∀st,s0<=st->st<=r0->(st<m->st<mid->st≠r0)/\(a<st->mid+m-st<b->st≠s0)):=fun st h1 h2=>⟨fun h3 h4=>by omega,fun h3 h4=>by omega⟩
  go_enter Tryz.func196,Tryz.ntmps196
  go_wp2;go_loopw [20,21] (fun vi vj wr=>∃st re:Nat,vi=.int .i64 st/\vj=.int .i64 re/\s0<=st/\st<=re/\re<=r0/\(st=s0\/Tm.qd lns (u.getD (st-1-a) 0)<=Tm.qd lns (v.getD (mid-st) 0))/\(re=r0\/Tm.qd lns (v.getD (mid-1-re) 0)<Tm.qd lns (u.getD (re-a) 0))/\Qo wr g off (p++u++v++r)/\Zv g off N w wr) (fun vi vj _=>(intOf vj).toNat-(intOf vi).toNat)
  case atStart=>exact⟨s0,r0,by rw[hs0],by rw[hr0],Nat.le_refl _,quf,Nat.le_refl _,.inl rfl,.inl rfl,HI.out,Zv.refl _ _ _ _⟩
  case round =>
   obtain⟨st,re,rfl,rfl,qid,hsr,hrr,hlo,qmf,hI,hT⟩:=hrel;have HIr:=qb hI;have HT:=qb hT;have HCr:=qb (HC.out.turn hT);have HLO:=qb hlo;have HHI:=qb qmf;clear hlo qmf hI hT;by_cases hlt:st<re
   ·have hd:decide ((st:Int)<(re:Int))=true:=by simp<;>omega
    go_wp2_with fail
    obtain⟨c,hce⟩:∃c:Nat,((st:Int)+(re:Int)) / 2=(c:Int):=⟨(st+re) / 2,by omega⟩
    obtain⟨pc,hpc⟩:∃pc:Nat,(mid:Int)+(m:Int)-1-(c:Int)=(pc:Int):=⟨mid+m-1-c,by omega⟩
    rw[hce]
    have hc1:st<=c:=by omega
    have hc2:c<re:=by omega
    have hcu:c-a<u.length:=by have:=HM.out;omega
    have hpv:pc-m<v.length:=by have:=HB.out;omega
    have hpm:m<=pc:=by omega
    have hpu:(p++u).length=m:=by have:=HA.out;have:=HM.out;simp;omega
    have cx:=HIr.out c u[c-a] (by have h:=qeI (p:=p) (v:=u) (r:=v++r) (i:=c) (by have:=HA.out;omega) (by rw[HA.out];exact hcu);rw[List.append_assoc (p++u),h];simp only[HA.out]);have cy:=HIr.out pc v[pc-m] (by have h:=qeI (p:=p++u) (v:=v) (r:=r) (i:=pc) (by omega) (by rw[hpu];exact hpv);rw[h];simp only[hpu]);have hxr:=HR.out u[c-a] (by simp);have hyr:=HR.out v[pc-m] (by simp)
    have gx:u.getD (c-a) 0=u[c-a]:=by rw[List.getD_eq_getElem?_getD,List.getElem?_eq_getElem hcu];rfl
    have gy:v.getD (mid-1-c) 0=v[pc-m]:=by rw[show mid-1-c=pc-m from by omega,List.getD_eq_getElem?_getD,List.getElem?_eq_getElem hpv];rfl
    have ZZ:Hid (∀n,Calls Tryz.prog 166 #[.map (some bm),.int .i64 v[pc-m],.int .i64 u[c-a]] (wr.drewN n) fun e w'=>e=.returned (.int .i64 (yh (Tm.qd lns v[pc-m]) (Tm.qd lns u[c-a])))/\w'=wr.drewN n):=fun n=>HCr.out.call hyr hxr n;have HGX:=qb gx;have HGY:=qb gy;clear gx gy;generalize u[c-a]=x at *;generalize v[pc-m]=y at *;obtain⟨cy,fy⟩:=cy;obtain⟨cx,fx⟩:=cx
    have i1:(c:Int)<(N:Int):=by omega
    have i2:(pc:Int)<(N:Int):=by omega
    obtain⟨q,hq⟩:∃q,decide (yh (Tm.qd lns y) (Tm.qd lns x)<0)=q:=⟨_,rfl⟩
    have hq':decide (Tm.qd lns y<Tm.qd lns x)=q:=by rw[<-hq,qbq]
    generalize yh (Tm.qd lns y) (Tm.qd lns x)=cv at *;clear hce hpu;cases q
    ·have qaU:Tm.qd lns x<=Tm.qd lns y:=by simpa using hq'
     have HL2:Hid (Tm.qd lns (u.getD (c+1-1-a) 0)<=Tm.qd lns (v.getD (mid-(c+1)) 0)):=by
      unfold Hid;rw[show c+1-1-a=c-a from by omega,show mid-(c+1)=mid-1-c from by omega,HGX.out,HGY.out];exact qaU
     clear hq' qaU;go_quiet (first|(go_at_call 166;exact Calls.quiet_of_same (ZZ.out _)))
     go_wp2;go_roundw
     case rel=>exact⟨c+1,re,by go_num,rfl,by omega,by omega,hrr,.inr HL2.out,HHI.out,HIr.out,HT.out.drewN _⟩
     case measure=>simp[intOf];omega
    ·have qaU:Tm.qd lns y<Tm.qd lns x:=by simpa using hq'
     have HH2:Hid (Tm.qd lns (v.getD (mid-1-c) 0)<Tm.qd lns (u.getD (c-a) 0)):=by unfold Hid;rw[HGX.out,HGY.out];exact qaU
     clear hq' qaU;go_quiet (first|(go_at_call 166;exact Calls.quiet_of_same (ZZ.out _)))
     go_wp2;go_roundw
     case rel=>exact⟨st,c,rfl,rfl,qid,hc1,by omega,HLO.out,.inr HH2.out,HIr.out,HT.out.drewN _⟩
     case measure=>simp[intOf];omega
   ·have qug:st=re:=by omega
    subst qug
    have hd:decide ((st:Int)<(st:Int))=false:=by simp
    obtain⟨en,hen⟩:∃en:Nat,(mid:Int)+(m:Int)-(st:Int)=(en:Int):=⟨mid+m-st,by omega⟩
    have hae:a<=st:=by omega
    have hsm:st<=m:=by omega
    have hsd:st<=mid:=by omega
    have hme:m<=en:=by omega
    have heb:en<=b:=by omega
    have hde:mid<=en:=by omega
    have hul:st-a<=u.length:=by have:=HM.out;omega
    have hvl:en-m<=v.length:=by have:=HB.out;omega
    have qds:=Tm.Up.split (T:=st-a) (E:=en-m) HUP.out HVP.out (fun q1 q2 _=>by
      rcases HHI.out with e|e
      ·exact absurd e ((HEA.out st qid hrr).1 (by have:=HM.out;omega) (by omega))
      ·rw[show en-m-1=mid-1-st from by omega];exact e) (fun q1 _ q3=>by
      rcases HLO.out with e|e
      ·exact absurd e ((HEA.out st qid hrr).2 (by omega) (by have:=HB.out;omega))
      ·rw[show st-a-1=st-1-a from by omega,show en-m=mid-st from by omega];exact e) hul hvl
    obtain⟨u1,u2,jw,hl1⟩:∃u1 u2,u=u1++u2/\u1.length=st-a:=⟨u.take (st-a),u.drop (st-a),by rw[List.take_append_drop],by simp<;>omega⟩
    obtain⟨v1,v2,jr,hl2⟩:∃v1 v2,v=v1++v2/\v1.length=en-m:=⟨v.take (en-m),v.drop (en-m),by rw[List.take_append_drop],by simp<;>omega⟩
    have e1:u.take (st-a)=u1:=by rw[jw,<-hl1];simp
    have e2:u.drop (st-a)=u2:=by rw[jw,<-hl1];simp
    have e3:v.take (en-m)=v1:=by rw[jr,<-hl2];simp
    have e4:v.drop (en-m)=v2:=by rw[jr,<-hl2];simp
    rw[e1,e2,e3,e4]at qds;have QzK:=qb qds;have QzL:=qb jw;have QzM:=qb jr;have HL1:=qb hl1;have HL2:=qb hl2
    have HL3:Hid (u2.length=m-st):=by have h:=congrArg List.length jw;have:=HM.out;simp at h;unfold Hid;omega
    have HL4:Hid (v2.length=b-en):=by have h:=congrArg List.length jr;have:=HB.out;simp at h;unfold Hid;omega
    have ZE:Hid (Tm.Up (Tm.qd lns) (u1++u2)):=by unfold Hid;rw[<-jw];exact HUP.out
    have ZF:Hid (Tm.Up (Tm.qd lns) (v1++v2)):=by unfold Hid;rw[<-jr];exact HVP.out
    have HI0:Hid (Qo wr g off ((p++u1)++u2++v1++(v2++r))):=by have h:=HIr.out;rw[jw,jr]at h;unfold Hid;simpa[List.append_assoc]using h
    have HRU:Hid (∀z∈u1++v1,0<=z/\z<=1114111):=fun z hz=>HR.out z (by rw[jw,jr];simp at hz⊢;rcases hz with h|h<;>simp[h])
    have HRV:Hid (∀z∈u2++v2,0<=z/\z<=1114111):=fun z hz=>HR.out z (by rw[jw,jr];simp at hz⊢;rcases hz with h|h<;>simp[h])
    have QZ:Hid (∀l s:List Int,Tm.Qu (Tm.qd lns) (u1++v1) l->Tm.Qu (Tm.qd lns) (u2++v2) s->Tm.Qu (Tm.qd lns) (u++v) (l++s)):=fun l s h1 h2=>by rw[jw,jr];exact Tm.Qu.merge h1 h2 ZE.out ZF.out qds.1 qds.2
    clear qds jw jr hl1 hl2 e1 e2 e3 e4;by_cases hrot:st<m/\m<en
    ·have g1:decide ((st:Int)<(m:Int))=true:=by simp<;>omega
     have g2:decide ((m:Int)<(en:Int))=true:=by simp<;>omega
     go_wp2_with fail
     refine(qkw (p++u1) u2 v1 (v2++r) g off N cap _ wr (by have:=HA.out;have:=HL1.out;simp;omega) (by have:=HA.out;have:=HL1.out;have:=HL3.out;simp;omega) (by have:=HA.out;have:=HL1.out;have:=HL3.out;have:=HL2.out;simp;omega) (by have:=HL3.out;omega) (by have:=HL2.out;omega) (by have:=HA.out;have:=HL1.out;have:=HL2.out;have:=HL3.out;have:=HL4.out;have:=HN.out;simp;omega) qV HI0.out).mono ?_;rintro e w7 ⟨rfl,hI7,hT7⟩;have HT7:=qb (HT.out.trans hT7);have HI1:Hid (Qo w7 g off (p++u1++v1++u2++(v2++r))):=hI7;clear hI7 hT7;by_cases hleft:a<st/\st<mid
     ·have j1:decide ((a:Int)<(st:Int))=true:=by simp<;>omega
      have j2:decide ((st:Int)<(mid:Int))=true:=by simp<;>omega
      have JK:=qb (HIH.out (mid-a) (by have:=HNN.out;omega) p u1 v1 (u2++v2++r) g off N cap w7 (a:Int) (st:Int) (mid:Int) (by have:=HL1.out;have:=HL2.out;omega) (by have:=HA.out;omega) (by have:=HA.out;have:=HL1.out;omega) (by have:=HA.out;have:=HL1.out;have:=HL2.out;omega) (by have:=HL1.out;omega) (by have:=HL2.out;omega) (by have:=HA.out;have:=HL1.out;have:=HL2.out;have:=HL3.out;have:=HL4.out;have:=HN.out;simp;omega) qV HRU.out (Tm.Up.append.1 ZE.out).1 (Tm.Up.append.1 ZF.out).1 (by have h:=HI1.out;simpa[List.append_assoc]using h) (HC.out.turn HT7.out));unfold qE at JK;go_wp2_with fail
      all_goals
       refine JK.out.mono ?_;rintro e w8 ⟨rfl,⟨l,hso8,hI8⟩,hT8⟩;have HT8:=qb (HT7.out.trans hT8);have HIL:=qb hI8;have HSL:=qb hso8;clear hT8 hI8 hso8
       have hlm:(p++l).length=mid:=by have h:=HSL.out.2.length;have:=HA.out;have:=HL1.out;have:=HL2.out;simp at h⊢;omega
       by_cases hright:mid<en/\en<b
       ·have k1:decide ((mid:Int)<(en:Int))=true:=by simp<;>omega
        have k2:decide ((en:Int)<(b:Int))=true:=by simp<;>omega
        have QM:=qb (HIH.out (b-mid) (by have:=HNN.out;omega) (p++l) u2 v2 r g off N cap w8 (mid:Int) (en:Int) (b:Int) (by have:=HL3.out;have:=HL4.out;omega) (by rw[hlm]) (by rw[hlm];have:=HL3.out;omega) (by rw[hlm];have:=HL3.out;have:=HL4.out;omega) (by have:=HL3.out;omega) (by have:=HL4.out;omega) (by rw[hlm];have:=HL3.out;have:=HL4.out;have:=HN.out;omega) qV HRV.out (Tm.Up.append.1 ZE.out).2.1 (Tm.Up.append.1 ZF.out).2.1 (by have h:=HIL.out;simpa[List.append_assoc]using h) (HC.out.turn HT8.out));unfold qE at QM;clear hlm;go_wp2_with fail
        all_goals
         refine QM.out.mono ?_;rintro e w9 ⟨rfl,⟨s9,hso9,hI9⟩,hT9⟩;have HT9:=qb (HT8.out.trans hT9)
         have HI9:Hid (Qo w9 g off (p++(l++s9)++r)):=by unfold Hid;simpa[List.append_assoc]using hI9
         have YM:=qb hso9;clear hT9 hI9 hso9;go_wp2;all_goals(first|go_end0|refine bodyPost_ret (results_none rfl _ _ _) rfl ?_)
         all_goals exact⟨rfl,⟨_,QZ.out _ _ HSL.out YM.out,HI9.out⟩,HT9.out⟩
       ·have HSR:Hid (Tm.Qu (Tm.qd lns) (u2++v2) (u2++v2)):=Tm.Qu.yE (by
         by_cases hz:u2=[]
         ·rw[hz];simpa using(Tm.Up.append.1 ZF.out).2.1
         ·have hz2:v2=[]:=List.eq_nil_of_length_eq_zero (by have h3:=HL3.out;have h4:=HL4.out;have h5:0<u2.length:=List.length_pos_iff.2 hz;omega)
          rw[hz2];simpa using(Tm.Up.append.1 ZE.out).2.1)
        have HI9:Hid (Qo w8 g off (p++(l++(u2++v2))++r)):=by have h:=HIL.out;unfold Hid;simpa[List.append_assoc]using h
        clear hlm;by_cases hme2:mid<en
        ·have k1:decide ((mid:Int)<(en:Int))=true:=by simp<;>omega
         have k2:decide ((en:Int)<(b:Int))=false:=by simp<;>omega
         go_wp2;all_goals(first|go_end0|refine bodyPost_ret (results_none rfl _ _ _) rfl ?_)
         all_goals exact⟨rfl,⟨_,QZ.out _ _ HSL.out HSR.out,HI9.out⟩,HT8.out⟩
        ·have k1:decide ((mid:Int)<(en:Int))=false:=by simp<;>omega
         go_wp2;all_goals(first|go_end0|refine bodyPost_ret (results_none rfl _ _ _) rfl ?_)
         all_goals exact⟨rfl,⟨_,QZ.out _ _ HSL.out HSR.out,HI9.out⟩,HT8.out⟩
     ·have HSL:Hid (Tm.Qu (Tm.qd lns) (u1++v1) (u1++v1)):=Tm.Qu.yE (by
       by_cases hz:u1=[]
       ·rw[hz];simpa using(Tm.Up.append.1 ZF.out).1
       ·have hz2:v1=[]:=List.eq_nil_of_length_eq_zero (by have h3:=HL1.out;have h4:=HL2.out;have h5:0<u1.length:=List.length_pos_iff.2 hz;omega)
        rw[hz2];simpa using(Tm.Up.append.1 ZE.out).1)
      have HIL:Hid (Qo w7 g off (p++(u1++v1)++(u2++v2++r))):=by have h:=HI1.out;unfold Hid;simpa[List.append_assoc]using h
      have hj:decide ((a:Int)<(st:Int))=false\/(decide ((a:Int)<(st:Int))=true/\decide ((st:Int)<(mid:Int))=false):=by
       by_cases h:a<st
       ·right;exact⟨by simp<;>omega,by simp<;>omega⟩
       ·left;simp;omega
      rcases hj with j1|⟨j1,j2⟩
      ·have hlm:(p++(u1++v1)).length=mid:=by have h:=HSL.out.2.length;have:=HA.out;have:=HL1.out;have:=HL2.out;simp at h⊢;omega
       by_cases hright:mid<en/\en<b
       ·have k1:decide ((mid:Int)<(en:Int))=true:=by simp<;>omega
        have k2:decide ((en:Int)<(b:Int))=true:=by simp<;>omega
        have QM:=qb (HIH.out (b-mid) (by have:=HNN.out;omega) (p++(u1++v1)) u2 v2 r g off N cap w7 (mid:Int) (en:Int) (b:Int) (by have:=HL3.out;have:=HL4.out;omega) (by rw[hlm]) (by rw[hlm];have:=HL3.out;omega) (by rw[hlm];have:=HL3.out;have:=HL4.out;omega) (by have:=HL3.out;omega) (by have:=HL4.out;omega) (by rw[hlm];have:=HL3.out;have:=HL4.out;have:=HN.out;omega) qV HRV.out (Tm.Up.append.1 ZE.out).2.1 (Tm.Up.append.1 ZF.out).2.1 (by have h:=HIL.out;simpa[List.append_assoc]using h) (HC.out.turn HT7.out));unfold qE at QM;clear hlm;go_wp2_with fail
        all_goals
         refine QM.out.mono ?_;rintro e w9 ⟨rfl,⟨s9,hso9,hI9⟩,hT9⟩;have HT9:=qb (HT7.out.trans hT9)
         have HI9:Hid (Qo w9 g off (p++((u1++v1)++s9)++r)):=by unfold Hid;simpa[List.append_assoc]using hI9
         have YM:=qb hso9;clear hT9 hI9 hso9;go_wp2;all_goals(first|go_end0|refine bodyPost_ret (results_none rfl _ _ _) rfl ?_)
         all_goals exact⟨rfl,⟨_,QZ.out _ _ HSL.out YM.out,HI9.out⟩,HT9.out⟩
       ·have HSR:Hid (Tm.Qu (Tm.qd lns) (u2++v2) (u2++v2)):=Tm.Qu.yE (by
         by_cases hz:u2=[]
         ·rw[hz];simpa using(Tm.Up.append.1 ZF.out).2.1
         ·have hz2:v2=[]:=List.eq_nil_of_length_eq_zero (by have h3:=HL3.out;have h4:=HL4.out;have h5:0<u2.length:=List.length_pos_iff.2 hz;omega)
          rw[hz2];simpa using(Tm.Up.append.1 ZE.out).2.1)
        have HI9:Hid (Qo w7 g off (p++((u1++v1)++(u2++v2))++r)):=by have h:=HIL.out;unfold Hid;simpa[List.append_assoc]using h
        clear hlm;by_cases hme2:mid<en
        ·have k1:decide ((mid:Int)<(en:Int))=true:=by simp<;>omega
         have k2:decide ((en:Int)<(b:Int))=false:=by simp<;>omega
         go_wp2;all_goals(first|go_end0|refine bodyPost_ret (results_none rfl _ _ _) rfl ?_)
         all_goals exact⟨rfl,⟨_,QZ.out _ _ HSL.out HSR.out,HI9.out⟩,HT7.out⟩
        ·have k1:decide ((mid:Int)<(en:Int))=false:=by simp<;>omega
         go_wp2;all_goals(first|go_end0|refine bodyPost_ret (results_none rfl _ _ _) rfl ?_)
         all_goals exact⟨rfl,⟨_,QZ.out _ _ HSL.out HSR.out,HI9.out⟩,HT7.out⟩
      ·have hlm:(p++(u1++v1)).length=mid:=by have h:=HSL.out.2.length;have:=HA.out;have:=HL1.out;have:=HL2.out;simp at h⊢;omega
       by_cases hright:mid<en/\en<b
       ·have k1:decide ((mid:Int)<(en:Int))=true:=by simp<;>omega
        have k2:decide ((en:Int)<(b:Int))=true:=by simp<;>omega
        have QM:=qb (HIH.out (b-mid) (by have:=HNN.out;omega) (p++(u1++v1)) u2 v2 r g off N cap w7 (mid:Int) (en:Int) (b:Int) (by have:=HL3.out;have:=HL4.out;omega) (by rw[hlm]) (by rw[hlm];have:=HL3.out;omega) (by rw[hlm];have:=HL3.out;have:=HL4.out;omega) (by have:=HL3.out;omega) (by have:=HL4.out;omega) (by rw[hlm];have:=HL3.out;have:=HL4.out;have:=HN.out;omega) qV HRV.out (Tm.Up.append.1 ZE.out).2.1 (Tm.Up.append.1 ZF.out).2.1 (by have h:=HIL.out;simpa[List.append_assoc]using h) (HC.out.turn HT7.out));unfold qE at QM;clear hlm;go_wp2_with fail
        all_goals
         refine QM.out.mono ?_;rintro e w9 ⟨rfl,⟨s9,hso9,hI9⟩,hT9⟩;have HT9:=qb (HT7.out.trans hT9)
         have HI9:Hid (Qo w9 g off (p++((u1++v1)++s9)++r)):=by unfold Hid;simpa[List.append_assoc]using hI9
         have YM:=qb hso9;clear hT9 hI9 hso9;go_wp2;all_goals(first|go_end0|refine bodyPost_ret (results_none rfl _ _ _) rfl ?_)
         all_goals exact⟨rfl,⟨_,QZ.out _ _ HSL.out YM.out,HI9.out⟩,HT9.out⟩
       ·have HSR:Hid (Tm.Qu (Tm.qd lns) (u2++v2) (u2++v2)):=Tm.Qu.yE (by
         by_cases hz:u2=[]
         ·rw[hz];simpa using(Tm.Up.append.1 ZF.out).2.1
         ·have hz2:v2=[]:=List.eq_nil_of_length_eq_zero (by have h3:=HL3.out;have h4:=HL4.out;have h5:0<u2.length:=List.length_pos_iff.2 hz;omega)
          rw[hz2];simpa using(Tm.Up.append.1 ZE.out).2.1)
        have HI9:Hid (Qo w7 g off (p++((u1++v1)++(u2++v2))++r)):=by have h:=HIL.out;unfold Hid;simpa[List.append_assoc]using h
        clear hlm;by_cases hme2:mid<en
        ·have k1:decide ((mid:Int)<(en:Int))=true:=by simp<;>omega
         have k2:decide ((en:Int)<(b:Int))=false:=by simp<;>omega
         go_wp2;all_goals(first|go_end0|refine bodyPost_ret (results_none rfl _ _ _) rfl ?_)
         all_goals exact⟨rfl,⟨_,QZ.out _ _ HSL.out HSR.out,HI9.out⟩,HT7.out⟩
        ·have k1:decide ((mid:Int)<(en:Int))=false:=by simp<;>omega
         go_wp2;all_goals(first|go_end0|refine bodyPost_ret (results_none rfl _ _ _) rfl ?_)
         all_goals exact⟨rfl,⟨_,QZ.out _ _ HSL.out HSR.out,HI9.out⟩,HT7.out⟩
    ·have HI1:Hid (Qo wr g off (p++u1++v1++u2++(v2++r))):=by
      have h:=HI0.out;unfold Hid;by_cases hz:u2=[]
      ·rw[hz]at h⊢;simpa[List.append_assoc]using h
      ·have hz2:v1=[]:=List.eq_nil_of_length_eq_zero (by have h3:=HL3.out;have h4:=HL2.out;have h5:0<u2.length:=List.length_pos_iff.2 hz;omega);rw[hz2]at h⊢;simpa[List.append_assoc]using h
     have hg:decide ((st:Int)<(m:Int))=false\/(decide ((st:Int)<(m:Int))=true/\decide ((m:Int)<(en:Int))=false):=by
      by_cases h:st<m
      ·right;exact⟨by simp<;>omega,by simp<;>omega⟩
      ·left;simp;omega
     rcases hg with g1|⟨g1,g2⟩
     ·by_cases hleft:a<st/\st<mid
      ·have j1:decide ((a:Int)<(st:Int))=true:=by simp<;>omega
       have j2:decide ((st:Int)<(mid:Int))=true:=by simp<;>omega
       have JK:=qb (HIH.out (mid-a) (by have:=HNN.out;omega) p u1 v1 (u2++v2++r) g off N cap wr (a:Int) (st:Int) (mid:Int) (by have:=HL1.out;have:=HL2.out;omega) (by have:=HA.out;omega) (by have:=HA.out;have:=HL1.out;omega) (by have:=HA.out;have:=HL1.out;have:=HL2.out;omega) (by have:=HL1.out;omega) (by have:=HL2.out;omega) (by have:=HA.out;have:=HL1.out;have:=HL2.out;have:=HL3.out;have:=HL4.out;have:=HN.out;simp;omega) qV HRU.out (Tm.Up.append.1 ZE.out).1 (Tm.Up.append.1 ZF.out).1 (by have h:=HI1.out;simpa[List.append_assoc]using h) (HC.out.turn HT.out));unfold qE at JK;go_wp2_with fail
       all_goals
        refine JK.out.mono ?_;rintro e w8 ⟨rfl,⟨l,hso8,hI8⟩,hT8⟩;have HT8:=qb (HT.out.trans hT8);have HIL:=qb hI8;have HSL:=qb hso8;clear hT8 hI8 hso8
        have hlm:(p++l).length=mid:=by have h:=HSL.out.2.length;have:=HA.out;have:=HL1.out;have:=HL2.out;simp at h⊢;omega
        by_cases hright:mid<en/\en<b
        ·have k1:decide ((mid:Int)<(en:Int))=true:=by simp<;>omega
         have k2:decide ((en:Int)<(b:Int))=true:=by simp<;>omega
         have QM:=qb (HIH.out (b-mid) (by have:=HNN.out;omega) (p++l) u2 v2 r g off N cap w8 (mid:Int) (en:Int) (b:Int) (by have:=HL3.out;have:=HL4.out;omega) (by rw[hlm]) (by rw[hlm];have:=HL3.out;omega) (by rw[hlm];have:=HL3.out;have:=HL4.out;omega) (by have:=HL3.out;omega) (by have:=HL4.out;omega) (by rw[hlm];have:=HL3.out;have:=HL4.out;have:=HN.out;omega) qV HRV.out (Tm.Up.append.1 ZE.out).2.1 (Tm.Up.append.1 ZF.out).2.1 (by have h:=HIL.out;simpa[List.append_assoc]using h) (HC.out.turn HT8.out));unfold qE at QM;clear hlm;go_wp2_with fail
         all_goals
          refine QM.out.mono ?_;rintro e w9 ⟨rfl,⟨s9,hso9,hI9⟩,hT9⟩;have HT9:=qb (HT8.out.trans hT9)
          have HI9:Hid (Qo w9 g off (p++(l++s9)++r)):=by unfold Hid;simpa[List.append_assoc]using hI9
          have YM:=qb hso9;clear hT9 hI9 hso9;go_wp2;all_goals(first|go_end0|refine bodyPost_ret (results_none rfl _ _ _) rfl ?_)
          all_goals exact⟨rfl,⟨_,QZ.out _ _ HSL.out YM.out,HI9.out⟩,HT9.out⟩
        ·have HSR:Hid (Tm.Qu (Tm.qd lns) (u2++v2) (u2++v2)):=Tm.Qu.yE (by
          by_cases hz:u2=[]
          ·rw[hz];simpa using(Tm.Up.append.1 ZF.out).2.1
          ·have hz2:v2=[]:=List.eq_nil_of_length_eq_zero (by have h3:=HL3.out;have h4:=HL4.out;have h5:0<u2.length:=List.length_pos_iff.2 hz;omega)
           rw[hz2];simpa using(Tm.Up.append.1 ZE.out).2.1)
         have HI9:Hid (Qo w8 g off (p++(l++(u2++v2))++r)):=by have h:=HIL.out;unfold Hid;simpa[List.append_assoc]using h
         clear hlm;by_cases hme2:mid<en
         ·have k1:decide ((mid:Int)<(en:Int))=true:=by simp<;>omega
          have k2:decide ((en:Int)<(b:Int))=false:=by simp<;>omega
          go_wp2;all_goals(first|go_end0|refine bodyPost_ret (results_none rfl _ _ _) rfl ?_)
          all_goals exact⟨rfl,⟨_,QZ.out _ _ HSL.out HSR.out,HI9.out⟩,HT8.out⟩
         ·have k1:decide ((mid:Int)<(en:Int))=false:=by simp<;>omega
          go_wp2;all_goals(first|go_end0|refine bodyPost_ret (results_none rfl _ _ _) rfl ?_)
          all_goals exact⟨rfl,⟨_,QZ.out _ _ HSL.out HSR.out,HI9.out⟩,HT8.out⟩
      ·have HSL:Hid (Tm.Qu (Tm.qd lns) (u1++v1) (u1++v1)):=Tm.Qu.yE (by
        by_cases hz:u1=[]
        ·rw[hz];simpa using(Tm.Up.append.1 ZF.out).1
        ·have hz2:v1=[]:=List.eq_nil_of_length_eq_zero (by have h3:=HL1.out;have h4:=HL2.out;have h5:0<u1.length:=List.length_pos_iff.2 hz;omega)
         rw[hz2];simpa using(Tm.Up.append.1 ZE.out).1)
       have HIL:Hid (Qo wr g off (p++(u1++v1)++(u2++v2++r))):=by have h:=HI1.out;unfold Hid;simpa[List.append_assoc]using h
       have hj:decide ((a:Int)<(st:Int))=false\/(decide ((a:Int)<(st:Int))=true/\decide ((st:Int)<(mid:Int))=false):=by
        by_cases h:a<st
        ·right;exact⟨by simp<;>omega,by simp<;>omega⟩
        ·left;simp;omega
       rcases hj with j1|⟨j1,j2⟩
       ·have hlm:(p++(u1++v1)).length=mid:=by have h:=HSL.out.2.length;have:=HA.out;have:=HL1.out;have:=HL2.out;simp at h⊢;omega
        by_cases hright:mid<en/\en<b
        ·have k1:decide ((mid:Int)<(en:Int))=true:=by simp<;>omega
         have k2:decide ((en:Int)<(b:Int))=true:=by simp<;>omega
         have QM:=qb (HIH.out (b-mid) (by have:=HNN.out;omega) (p++(u1++v1)) u2 v2 r g off N cap wr (mid:Int) (en:Int) (b:Int) (by have:=HL3.out;have:=HL4.out;omega) (by rw[hlm]) (by rw[hlm];have:=HL3.out;omega) (by rw[hlm];have:=HL3.out;have:=HL4.out;omega) (by have:=HL3.out;omega) (by have:=HL4.out;omega) (by rw[hlm];have:=HL3.out;have:=HL4.out;have:=HN.out;omega) qV HRV.out (Tm.Up.append.1 ZE.out).2.1 (Tm.Up.append.1 ZF.out).2.1 (by have h:=HIL.out;simpa[List.append_assoc]using h) (HC.out.turn HT.out));unfold qE at QM;clear hlm;go_wp2_with fail
         all_goals
          refine QM.out.mono ?_;rintro e w9 ⟨rfl,⟨s9,hso9,hI9⟩,hT9⟩;have HT9:=qb (HT.out.trans hT9)
          have HI9:Hid (Qo w9 g off (p++((u1++v1)++s9)++r)):=by unfold Hid;simpa[List.append_assoc]using hI9
          have YM:=qb hso9;clear hT9 hI9 hso9;go_wp2;all_goals(first|go_end0|refine bodyPost_ret (results_none rfl _ _ _) rfl ?_)
          all_goals exact⟨rfl,⟨_,QZ.out _ _ HSL.out YM.out,HI9.out⟩,HT9.out⟩
        ·have HSR:Hid (Tm.Qu (Tm.qd lns) (u2++v2) (u2++v2)):=Tm.Qu.yE (by
          by_cases hz:u2=[]
          ·rw[hz];simpa using(Tm.Up.append.1 ZF.out).2.1
          ·have hz2:v2=[]:=List.eq_nil_of_length_eq_zero (by have h3:=HL3.out;have h4:=HL4.out;have h5:0<u2.length:=List.length_pos_iff.2 hz;omega)
           rw[hz2];simpa using(Tm.Up.append.1 ZE.out).2.1)
         have HI9:Hid (Qo wr g off (p++((u1++v1)++(u2++v2))++r)):=by have h:=HIL.out;unfold Hid;simpa[List.append_assoc]using h
         clear hlm;by_cases hme2:mid<en
         ·have k1:decide ((mid:Int)<(en:Int))=true:=by simp<;>omega
          have k2:decide ((en:Int)<(b:Int))=false:=by simp<;>omega
          go_wp2;all_goals(first|go_end0|refine bodyPost_ret (results_none rfl _ _ _) rfl ?_)
          all_goals exact⟨rfl,⟨_,QZ.out _ _ HSL.out HSR.out,HI9.out⟩,HT.out⟩
         ·have k1:decide ((mid:Int)<(en:Int))=false:=by simp<;>omega
          go_wp2;all_goals(first|go_end0|refine bodyPost_ret (results_none rfl _ _ _) rfl ?_)
          all_goals exact⟨rfl,⟨_,QZ.out _ _ HSL.out HSR.out,HI9.out⟩,HT.out⟩
       ·have hlm:(p++(u1++v1)).length=mid:=by have h:=HSL.out.2.length;have:=HA.out;have:=HL1.out;have:=HL2.out;simp at h⊢;omega
        by_cases hright:mid<en/\en<b
        ·have k1:decide ((mid:Int)<(en:Int))=true:=by simp<;>omega
         have k2:decide ((en:Int)<(b:Int))=true:=by simp<;>omega
         have QM:=qb (HIH.out (b-mid) (by have:=HNN.out;omega) (p++(u1++v1)) u2 v2 r g off N cap wr (mid:Int) (en:Int) (b:Int) (by have:=HL3.out;have:=HL4.out;omega) (by rw[hlm]) (by rw[hlm];have:=HL3.out;omega) (by rw[hlm];have:=HL3.out;have:=HL4.out;omega) (by have:=HL3.out;omega) (by have:=HL4.out;omega) (by rw[hlm];have:=HL3.out;have:=HL4.out;have:=HN.out;omega) qV HRV.out (Tm.Up.append.1 ZE.out).2.1 (Tm.Up.append.1 ZF.out).2.1 (by have h:=HIL.out;simpa[List.append_assoc]using h) (HC.out.turn HT.out));unfold qE at QM;clear hlm;go_wp2_with fail
         all_goals
          refine QM.out.mono ?_;rintro e w9 ⟨rfl,⟨s9,hso9,hI9⟩,hT9⟩;have HT9:=qb (HT.out.trans hT9)
          have HI9:Hid (Qo w9 g off (p++((u1++v1)++s9)++r)):=by unfold Hid;simpa[List.append_assoc]using hI9
          have YM:=qb hso9;clear hT9 hI9 hso9;go_wp2;all_goals(first|go_end0|refine bodyPost_ret (results_none rfl _ _ _) rfl ?_)
          all_goals exact⟨rfl,⟨_,QZ.out _ _ HSL.out YM.out,HI9.out⟩,HT9.out⟩
        ·have HSR:Hid (Tm.Qu (Tm.qd lns) (u2++v2) (u2++v2)):=Tm.Qu.yE (by
          by_cases hz:u2=[]
          ·rw[hz];simpa using(Tm.Up.append.1 ZF.out).2.1
          ·have hz2:v2=[]:=List.eq_nil_of_length_eq_zero (by have h3:=HL3.out;have h4:=HL4.out;have h5:0<u2.length:=List.length_pos_iff.2 hz;omega)
           rw[hz2];simpa using(Tm.Up.append.1 ZE.out).2.1)
         have HI9:Hid (Qo wr g off (p++((u1++v1)++(u2++v2))++r)):=by have h:=HIL.out;unfold Hid;simpa[List.append_assoc]using h
         clear hlm;by_cases hme2:mid<en
         ·have k1:decide ((mid:Int)<(en:Int))=true:=by simp<;>omega
          have k2:decide ((en:Int)<(b:Int))=false:=by simp<;>omega
          go_wp2;all_goals(first|go_end0|refine bodyPost_ret (results_none rfl _ _ _) rfl ?_)
          all_goals exact⟨rfl,⟨_,QZ.out _ _ HSL.out HSR.out,HI9.out⟩,HT.out⟩
         ·have k1:decide ((mid:Int)<(en:Int))=false:=by simp<;>omega
          go_wp2;all_goals(first|go_end0|refine bodyPost_ret (results_none rfl _ _ _) rfl ?_)
          all_goals exact⟨rfl,⟨_,QZ.out _ _ HSL.out HSR.out,HI9.out⟩,HT.out⟩
     ·by_cases hleft:a<st/\st<mid
      ·have j1:decide ((a:Int)<(st:Int))=true:=by simp<;>omega
       have j2:decide ((st:Int)<(mid:Int))=true:=by simp<;>omega
       have JK:=qb (HIH.out (mid-a) (by have:=HNN.out;omega) p u1 v1 (u2++v2++r) g off N cap wr (a:Int) (st:Int) (mid:Int) (by have:=HL1.out;have:=HL2.out;omega) (by have:=HA.out;omega) (by have:=HA.out;have:=HL1.out;omega) (by have:=HA.out;have:=HL1.out;have:=HL2.out;omega) (by have:=HL1.out;omega) (by have:=HL2.out;omega) (by have:=HA.out;have:=HL1.out;have:=HL2.out;have:=HL3.out;have:=HL4.out;have:=HN.out;simp;omega) qV HRU.out (Tm.Up.append.1 ZE.out).1 (Tm.Up.append.1 ZF.out).1 (by have h:=HI1.out;simpa[List.append_assoc]using h) (HC.out.turn HT.out));unfold qE at JK;go_wp2_with fail
       all_goals
        refine JK.out.mono ?_;rintro e w8 ⟨rfl,⟨l,hso8,hI8⟩,hT8⟩;have HT8:=qb (HT.out.trans hT8);have HIL:=qb hI8;have HSL:=qb hso8;clear hT8 hI8 hso8
        have hlm:(p++l).length=mid:=by have h:=HSL.out.2.length;have:=HA.out;have:=HL1.out;have:=HL2.out;simp at h⊢;omega
        by_cases hright:mid<en/\en<b
        ·have k1:decide ((mid:Int)<(en:Int))=true:=by simp<;>omega
         have k2:decide ((en:Int)<(b:Int))=true:=by simp<;>omega
         have QM:=qb (HIH.out (b-mid) (by have:=HNN.out;omega) (p++l) u2 v2 r g off N cap w8 (mid:Int) (en:Int) (b:Int) (by have:=HL3.out;have:=HL4.out;omega) (by rw[hlm]) (by rw[hlm];have:=HL3.out;omega) (by rw[hlm];have:=HL3.out;have:=HL4.out;omega) (by have:=HL3.out;omega) (by have:=HL4.out;omega) (by rw[hlm];have:=HL3.out;have:=HL4.out;have:=HN.out;omega) qV HRV.out (Tm.Up.append.1 ZE.out).2.1 (Tm.Up.append.1 ZF.out).2.1 (by have h:=HIL.out;simpa[List.append_assoc]using h) (HC.out.turn HT8.out));unfold qE at QM;clear hlm;go_wp2_with fail
         all_goals
          refine QM.out.mono ?_;rintro e w9 ⟨rfl,⟨s9,hso9,hI9⟩,hT9⟩;have HT9:=qb (HT8.out.trans hT9)
          have HI9:Hid (Qo w9 g off (p++(l++s9)++r)):=by unfold Hid;simpa[List.append_assoc]using hI9
          have YM:=qb hso9;clear hT9 hI9 hso9;go_wp2;all_goals(first|go_end0|refine bodyPost_ret (results_none rfl _ _ _) rfl ?_)
          all_goals exact⟨rfl,⟨_,QZ.out _ _ HSL.out YM.out,HI9.out⟩,HT9.out⟩
        ·have HSR:Hid (Tm.Qu (Tm.qd lns) (u2++v2) (u2++v2)):=Tm.Qu.yE (by
          by_cases hz:u2=[]
          ·rw[hz];simpa using(Tm.Up.append.1 ZF.out).2.1
          ·have hz2:v2=[]:=List.eq_nil_of_length_eq_zero (by have h3:=HL3.out;have h4:=HL4.out;have h5:0<u2.length:=List.length_pos_iff.2 hz;omega)
           rw[hz2];simpa using(Tm.Up.append.1 ZE.out).2.1)
         have HI9:Hid (Qo w8 g off (p++(l++(u2++v2))++r)):=by have h:=HIL.out;unfold Hid;simpa[List.append_assoc]using h
         clear hlm;by_cases hme2:mid<en
         ·have k1:decide ((mid:Int)<(en:Int))=true:=by simp<;>omega
          have k2:decide ((en:Int)<(b:Int))=false:=by simp<;>omega
          go_wp2;all_goals(first|go_end0|refine bodyPost_ret (results_none rfl _ _ _) rfl ?_)
          all_goals exact⟨rfl,⟨_,QZ.out _ _ HSL.out HSR.out,HI9.out⟩,HT8.out⟩
         ·have k1:decide ((mid:Int)<(en:Int))=false:=by simp<;>omega
          go_wp2;all_goals(first|go_end0|refine bodyPost_ret (results_none rfl _ _ _) rfl ?_)
          all_goals exact⟨rfl,⟨_,QZ.out _ _ HSL.out HSR.out,HI9.out⟩,HT8.out⟩
      ·have HSL:Hid (Tm.Qu (Tm.qd lns) (u1++v1) (u1++v1)):=Tm.Qu.yE (by
        by_cases hz:u1=[]
        ·rw[hz];simpa using(Tm.Up.append.1 ZF.out).1
        ·have hz2:v1=[]:=List.eq_nil_of_length_eq_zero (by have h3:=HL1.out;have h4:=HL2.out;have h5:0<u1.length:=List.length_pos_iff.2 hz;omega)
         rw[hz2];simpa using(Tm.Up.append.1 ZE.out).1)
       have HIL:Hid (Qo wr g off (p++(u1++v1)++(u2++v2++r))):=by have h:=HI1.out;unfold Hid;simpa[List.append_assoc]using h
       have hj:decide ((a:Int)<(st:Int))=false\/(decide ((a:Int)<(st:Int))=true/\decide ((st:Int)<(mid:Int))=false):=by
        by_cases h:a<st
        ·right;exact⟨by simp<;>omega,by simp<;>omega⟩
        ·left;simp;omega
       rcases hj with j1|⟨j1,j2⟩
       ·have hlm:(p++(u1++v1)).length=mid:=by have h:=HSL.out.2.length;have:=HA.out;have:=HL1.out;have:=HL2.out;simp at h⊢;omega
        by_cases hright:mid<en/\en<b
        ·have k1:decide ((mid:Int)<(en:Int))=true:=by simp<;>omega
         have k2:decide ((en:Int)<(b:Int))=true:=by simp<;>omega
         have QM:=qb (HIH.out (b-mid) (by have:=HNN.out;omega) (p++(u1++v1)) u2 v2 r g off N cap wr (mid:Int) (en:Int) (b:Int) (by have:=HL3.out;have:=HL4.out;omega) (by rw[hlm]) (by rw[hlm];have:=HL3.out;omega) (by rw[hlm];have:=HL3.out;have:=HL4.out;omega) (by have:=HL3.out;omega) (by have:=HL4.out;omega) (by rw[hlm];have:=HL3.out;have:=HL4.out;have:=HN.out;omega) qV HRV.out (Tm.Up.append.1 ZE.out).2.1 (Tm.Up.append.1 ZF.out).2.1 (by have h:=HIL.out;simpa[List.append_assoc]using h) (HC.out.turn HT.out));unfold qE at QM;clear hlm;go_wp2_with fail
         all_goals
          refine QM.out.mono ?_;rintro e w9 ⟨rfl,⟨s9,hso9,hI9⟩,hT9⟩;have HT9:=qb (HT.out.trans hT9)
          have HI9:Hid (Qo w9 g off (p++((u1++v1)++s9)++r)):=by unfold Hid;simpa[List.append_assoc]using hI9
          have YM:=qb hso9;clear hT9 hI9 hso9;go_wp2;all_goals(first|go_end0|refine bodyPost_ret (results_none rfl _ _ _) rfl ?_)
          all_goals exact⟨rfl,⟨_,QZ.out _ _ HSL.out YM.out,HI9.out⟩,HT9.out⟩
        ·have HSR:Hid (Tm.Qu (Tm.qd lns) (u2++v2) (u2++v2)):=Tm.Qu.yE (by
          by_cases hz:u2=[]
          ·rw[hz];simpa using(Tm.Up.append.1 ZF.out).2.1
          ·have hz2:v2=[]:=List.eq_nil_of_length_eq_zero (by have h3:=HL3.out;have h4:=HL4.out;have h5:0<u2.length:=List.length_pos_iff.2 hz;omega)
           rw[hz2];simpa using(Tm.Up.append.1 ZE.out).2.1)
         have HI9:Hid (Qo wr g off (p++((u1++v1)++(u2++v2))++r)):=by have h:=HIL.out;unfold Hid;simpa[List.append_assoc]using h
         clear hlm;by_cases hme2:mid<en
         ·have k1:decide ((mid:Int)<(en:Int))=true:=by simp<;>omega
          have k2:decide ((en:Int)<(b:Int))=false:=by simp<;>omega
          go_wp2;all_goals(first|go_end0|refine bodyPost_ret (results_none rfl _ _ _) rfl ?_)
          all_goals exact⟨rfl,⟨_,QZ.out _ _ HSL.out HSR.out,HI9.out⟩,HT.out⟩
         ·have k1:decide ((mid:Int)<(en:Int))=false:=by simp<;>omega
          go_wp2;all_goals(first|go_end0|refine bodyPost_ret (results_none rfl _ _ _) rfl ?_)
          all_goals exact⟨rfl,⟨_,QZ.out _ _ HSL.out HSR.out,HI9.out⟩,HT.out⟩
       ·have hlm:(p++(u1++v1)).length=mid:=by have h:=HSL.out.2.length;have:=HA.out;have:=HL1.out;have:=HL2.out;simp at h⊢;omega
        by_cases hright:mid<en/\en<b
        ·have k1:decide ((mid:Int)<(en:Int))=true:=by simp<;>omega
         have k2:decide ((en:Int)<(b:Int))=true:=by simp<;>omega
         have QM:=qb (HIH.out (b-mid) (by have:=HNN.out;omega) (p++(u1++v1)) u2 v2 r g off N cap wr (mid:Int) (en:Int) (b:Int) (by have:=HL3.out;have:=HL4.out;omega) (by rw[hlm]) (by rw[hlm];have:=HL3.out;omega) (by rw[hlm];have:=HL3.out;have:=HL4.out;omega) (by have:=HL3.out;omega) (by have:=HL4.out;omega) (by rw[hlm];have:=HL3.out;have:=HL4.out;have:=HN.out;omega) qV HRV.out (Tm.Up.append.1 ZE.out).2.1 (Tm.Up.append.1 ZF.out).2.1 (by have h:=HIL.out;simpa[List.append_assoc]using h) (HC.out.turn HT.out));unfold qE at QM;clear hlm;go_wp2_with fail
         all_goals
          refine QM.out.mono ?_;rintro e w9 ⟨rfl,⟨s9,hso9,hI9⟩,hT9⟩;have HT9:=qb (HT.out.trans hT9)
          have HI9:Hid (Qo w9 g off (p++((u1++v1)++s9)++r)):=by unfold Hid;simpa[List.append_assoc]using hI9
          have YM:=qb hso9;clear hT9 hI9 hso9;go_wp2;all_goals(first|go_end0|refine bodyPost_ret (results_none rfl _ _ _) rfl ?_)
          all_goals exact⟨rfl,⟨_,QZ.out _ _ HSL.out YM.out,HI9.out⟩,HT9.out⟩
        ·have HSR:Hid (Tm.Qu (Tm.qd lns) (u2++v2) (u2++v2)):=Tm.Qu.yE (by
          by_cases hz:u2=[]
          ·rw[hz];simpa using(Tm.Up.append.1 ZF.out).2.1
          ·have hz2:v2=[]:=List.eq_nil_of_length_eq_zero (by have h3:=HL3.out;have h4:=HL4.out;have h5:0<u2.length:=List.length_pos_iff.2 hz;omega)
           rw[hz2];simpa using(Tm.Up.append.1 ZE.out).2.1)
         have HI9:Hid (Qo wr g off (p++((u1++v1)++(u2++v2))++r)):=by have h:=HIL.out;unfold Hid;simpa[List.append_assoc]using h
         clear hlm;by_cases hme2:mid<en
         ·have k1:decide ((mid:Int)<(en:Int))=true:=by simp<;>omega
          have k2:decide ((en:Int)<(b:Int))=false:=by simp<;>omega
          go_wp2;all_goals(first|go_end0|refine bodyPost_ret (results_none rfl _ _ _) rfl ?_)
          all_goals exact⟨rfl,⟨_,QZ.out _ _ HSL.out HSR.out,HI9.out⟩,HT.out⟩
         ·have k1:decide ((mid:Int)<(en:Int))=false:=by simp<;>omega
          go_wp2;all_goals(first|go_end0|refine bodyPost_ret (results_none rfl _ _ _) rfl ?_)
          all_goals exact⟨rfl,⟨_,QZ.out _ _ HSL.out HSR.out,HI9.out⟩,HT.out⟩
theorem qiW(lns:List Tm.Ln)(bm:Nat):∀n,Qme lns bm n:=fun n=>Nat.strongRecOn n fun n ih=>qlf lns bm n ih
theorem qgj(lns:List Tm.Ln)(bm:Nat)(p s r:List Int)(g off N cap:Nat)(w:World)(hA:A=(p.length:Int))(hB:B=((p.length+s.length:Nat):Int))(hN:N=p.length+s.length+r.length)(qV:N<=1000000)(hR:∀z∈s,0<=z/\z<=1114111)(hI:Qo w g off (p++s++r))(hC:Cmp lns bm g w) :
  Calls Tryz.prog 195 #[.slice (some ⟨g,off,none⟩) N cap,.int .i64 A,.int .i64 B,qE bm] w fun e w'=>e=.returned (.tuple #[])/\(∃s',Tm.Qu (Tm.qd lns) s s'/\Qo w' g off (p++s'++r))/\Zv g off N w w':=by
 subst hA hB;exact qld lns bm p s r g off N cap w hN qV hR hI hC
def chunk(z o:Nat)(t:List Int):List Int:=(t.drop o).take z
theorem qbr{x y:List Int}(h:o+z<=p.length):chunk z o (p++x)=chunk z o (p++y):=by
 unfold chunk;rw[List.drop_append_of_le_length (by omega),List.drop_append_of_le_length (by omega),List.take_append_of_le_length (by simp;omega),List.take_append_of_le_length (by simp;omega)]
theorem qmg{s':List Int}(hs:s'.length=s.length)(h:p.length+s.length<=o):chunk z o (p++s'++r)=chunk z o (p++s++r):=by
 unfold chunk;have e1:List.drop o (p++s')=[]:=List.drop_eq_nil_of_le (by simp;omega);have e2:List.drop o (p++s)=[]:=List.drop_eq_nil_of_le (by simp;omega);rw[List.drop_append (l₁:=p++s'),List.drop_append (l₁:=p++s),e1,e2];simp[hs]
theorem qmh(ho:o=p.length)(hz:z=s.length):chunk z o (p++s++r)=s:=by
 subst ho hz;simp[chunk]
theorem qiX(ho:o=p.length)(hz:s.length<=z):chunk z o (p++s)=s:=by
 subst ho;simp[chunk,List.take_of_length_le hz]
theorem qfi(h:t.length<=o):chunk z o t=[]:=by unfold chunk;rw[List.drop_eq_nil_of_le h];simp
theorem qa4{d a:Nat}(h1:d∣o)(h2:d∣a)(h:o<a):o+d<=a:=by
 have:=Nat.le_of_dvd (by omega) (Nat.dvd_sub h2 h1);omega
theorem qbs(h:o+z<=t.length):(chunk z o t).length=z:=by simp[chunk];omega
theorem qaG:t=t.take o++chunk z o t++t.drop (o+z):=by
 unfold chunk;rw[List.append_assoc,<-List.drop_drop,List.take_append_drop,List.take_append_drop]
theorem qgk{x:Int}(h:x∈chunk z o t):x∈t:=List.mem_of_mem_drop (List.mem_of_mem_take h)
theorem qqj(lns:List Tm.Ln)(bm:Nat)(s:List Int)(g off N cap:Nat)(w:World)(hN:N=s.length)(qV:N<=100000)(hR:∀z∈s,0<=z/\z<=1114111)(hI:Qo w g off s)(hC:Cmp lns bm g w) :
  Calls Tryz.prog 184 #[.slice (some ⟨g,off,none⟩) N cap,.int .i64 (N:Int),qE bm] w fun e w'=>e=.returned (.tuple #[])/\(∃s',Tm.Qu (Tm.qd lns) s s'/\Qo w' g off s')/\Zv g off N w w':=by
 have HI:=qb hI;have HR:=qb hR;have HC:=qb hC;have HN:=qb hN;have HBC:Hid (qE bm=.func (.func 166) #[.map (some bm)] #[]):=rfl;clear hI hR hC hN;unfold qE;go_enter Tryz.func184,Tryz.ntmps184
 go_wp2;go_loopw [7,8] (fun va vb wr=>∃(a:Nat) (t:List Int),va=.int .i64 a/\vb=.int .i64 ((a:Int)+20)/\a<=N/\20∣a/\Tm.Q9 (Tm.qd lns) s t/\(∀o,o+20<=a->20∣o->Tm.Up (Tm.qd lns) (chunk 20 o t))/\Qo wr g off t/\Zv g off N w wr) (fun va _ _=>N+20-(intOf va).toNat)
 case atStart=>exact⟨0,s,rfl,by go_num,Nat.zero_le _,Nat.dvd_zero _,Tm.Q9.refl _ _,fun o h=>by omega,HI.out,Zv.refl _ _ _ _⟩
 case round =>
  obtain⟨a,t,rfl,rfl,haN,had,jc,qmi,hI,hT⟩:=hrel;have HS:=qb jc;have Qie:=qb qmi;have HIr:=qb hI;have HT:=qb hT;have HAD:=qb had
  have HTL:Hid (t.length=N):=by unfold Hid;rw[<-jc.length,HN.out]
  have HRt:Hid (∀z∈t,0<=z/\z<=1114111):=fun z hz=>HR.out z (HS.out.mem.2 hz);clear jc qmi hI hT had;by_cases hb:a+20<=N
  ·have hd:decide ((a:Int)+20<=(N:Int))=true:=by simp<;>omega
   have hpl:(t.take a).length=a:=by have:=HTL.out;simp;omega
   have hcl:(chunk 20 a t).length=20:=qbs (by have:=HTL.out;omega)
   have hdl:(t.drop (a+20)).length=N-(a+20):=by have:=HTL.out;simp;omega
   have ZZ:=qb (qgj lns bm (t.take a) (chunk 20 a t) (t.drop (a+20)) g off N cap wr (A:=(a:Int)) (B:=(a:Int)+20) (by rw[hpl]) (by rw[hpl,hcl];omega) (by rw[hpl,hcl,hdl];omega) (by omega) (fun z hz=>HRt.out z (qgk hz)) (by rw[<-qaG];exact HIr.out) (HC.out.turn HT.out));rw[HBC.out]at ZZ;go_wp2_with fail
   refine ZZ.out.mono ?_;rintro e w1 ⟨rfl,⟨c,hso,hI1⟩,hT1⟩;have hcc:=hso.2.length;have HT1:=qb (HT.out.trans hT1);have HI1:=qb hI1
   have HS1:Hid (Tm.Q9 (Tm.qd lns) s (t.take a++c++t.drop (a+20))):=by
    refine HS.out.trans ?_
    conv=>lhs;rw[qaG (z:=20) (o:=a) (t:=t)]
    exact Tm.Q9.append (Tm.Q9.append (Tm.Q9.refl _ _) hso.2) (Tm.Q9.refl _ _)
   have QyH:Hid (∀o,o+20<=a+20->20∣o->Tm.Up (Tm.qd lns) (chunk 20 o (t.take a++c++t.drop (a+20)))):=by
    intro o ho hod;by_cases e:o=a
    ·subst e;rw[qmh hpl.symm (by rw[<-hcc,hcl])];exact hso.1
    ·have hg:=qa4 hod HAD.out (by omega);have h:=Qie.out o hg hod;rw[qaG (z:=20) (o:=a) (t:=t),List.append_assoc]at h;rw[List.append_assoc,qbr (y:=chunk 20 a t++t.drop (a+20)) (by rw[hpl];exact hg)];exact h
   clear hso hI1 hT1 hcc hpl hcl hdl;go_wp2;go_roundw
   case rel=>exact⟨a+20,_,by go_num,by go_num,hb,(Nat.dvd_add_right (Nat.dvd_refl 20)).2 HAD.out |> fun h=>by rw[Nat.add_comm];exact h,HS1.out,QyH.out,HI1.out,HT1.out⟩
   case measure=>simp[intOf]<;>omega
  ·have hd:decide ((a:Int)+20<=(N:Int))=false:=by simp<;>omega
   have hpl:(t.take a).length=a:=by have:=HTL.out;simp;omega
   have hdl:(t.drop a).length=N-a:=by have:=HTL.out;simp;omega
   have ZZ:=qb (qgj lns bm (t.take a) (t.drop a) [] g off N cap wr (A:=(a:Int)) (B:=(N:Int)) (by rw[hpl]) (by rw[hpl,hdl];omega) (by rw[hpl,hdl];simp;omega) (by omega) (fun z hz=>HRt.out z (List.mem_of_mem_drop hz)) (by rw[List.append_nil,List.take_append_drop];exact HIr.out) (HC.out.turn HT.out));rw[HBC.out]at ZZ;go_wp2_with fail
   refine ZZ.out.mono ?_;rintro e w1 ⟨rfl,⟨c,hso,hI1⟩,hT1⟩;have hcc:=hso.2.length;have HT1:=qb (HT.out.trans hT1)
   have HI1:Hid (Qo w1 g off (t.take a++c)):=by have h:=hI1;rw[List.append_nil]at h;exact h
   have HS1:Hid (Tm.Q9 (Tm.qd lns) s (t.take a++c)):=by
    refine HS.out.trans ?_
    conv=>lhs;rw[<-List.take_append_drop a t]
    exact Tm.Q9.append (Tm.Q9.refl _ _) hso.2
   have Qdd:Hid (∀o,20∣o->Tm.Up (Tm.qd lns) (chunk 20 o (t.take a++c))):=by
    intro o hod;by_cases e:o=a
    ·subst e;rw[qiX hpl.symm (by omega)];exact hso.1
    ·by_cases e2:o<a
     ·have hg:=qa4 hod HAD.out e2;have h:=Qie.out o hg hod;rw[<-List.take_append_drop a t]at h;rw[qbr (y:=t.drop a) (by rw[hpl];exact hg)];exact h
     ·have hg:=qa4 HAD.out hod (by omega);rw[qfi (by simp;omega)];exact List.Pairwise.nil
   clear hso hI1 hT1 hcc hpl hdl HIr HT HS Qie HRt HTL;generalize t.take a++c=t1 at *;go_wp2_with fail
   go_loopw [6] (fun vz wr=>∃(z:Nat) (t:List Int),vz=.int .i64 z/\20<=z/\z<=2 * N+20/\Tm.Q9 (Tm.qd lns) s t/\(∀o,z∣o->Tm.Up (Tm.qd lns) (chunk z o t))/\Qo wr g off t/\Zv g off N w wr) (fun vz _=>2 * N+20-(intOf vz).toNat)
   case atStart=>exact⟨20,t1,rfl,Nat.le_refl _,by omega,HS1.out,Qdd.out,HI1.out,HT1.out⟩
   case round =>
    obtain⟨z,t,rfl,qBg,hzN,jc,qQ,hI,hT⟩:=hrel;have HS:=qb jc;have QvS:=qb qQ;have HIr:=qb hI;have HT:=qb hT
    have HTL:Hid (t.length=N):=by unfold Hid;rw[<-jc.length,HN.out]
    clear jc qQ hI hT;by_cases hlt:z<N
    ·have hd2:decide ((z:Int)<(N:Int))=true:=by simp<;>omega
     go_wp2_with fail
     go_loopw [7,8] (fun va vb wi=>∃(a:Nat) (t:List Int),va=.int .i64 a/\vb=.int .i64 ((a:Int)+2 * (z:Int))/\a<=N/\2 * z∣a/\Tm.Q9 (Tm.qd lns) s t/\(∀o,o+2 * z<=a->2 * z∣o->Tm.Up (Tm.qd lns) (chunk (2 * z) o t))/\(∀o,a<=o->z∣o->Tm.Up (Tm.qd lns) (chunk z o t))/\Qo wi g off t/\Zv g off N w wi) (fun va _ _=>N+2 * z-(intOf va).toNat)
     case atStart=>exact⟨0,t,rfl,by go_num,Nat.zero_le _,Nat.dvd_zero _,HS.out,fun o h=>by omega,fun o _ ho=>QvS.out o ho,HIr.out,HT.out⟩
     case round =>
      obtain⟨a,t,rfl,rfl,haN,had,jc,qmi,qxu,hI,hT⟩:=hrel;have HS2:=qb jc;have Qie:=qb qmi;have QjX:=qb qxu;have HI2:=qb hI;have HT2:=qb hT;have HAD:=qb had
      have Qgl:Hid (t.length=N):=by unfold Hid;rw[<-jc.length,HN.out]
      have HRt:Hid (∀y∈t,0<=y/\y<=1114111):=fun y hy=>HR.out y (HS2.out.mem.2 hy);have HZA:Hid (z∣a):=Nat.dvd_trans (Nat.dvd_mul_left z 2) had;clear jc qmi qxu hI hT had
      have hpl:(t.take a).length=a:=by have:=Qgl.out;simp;omega
      by_cases hb:a+2 * z<=N
      ·have hd3:decide ((a:Int)+2 * (z:Int)<=(N:Int))=true:=by simp<;>omega
       have hc1:(chunk z a t).length=z:=qbs (by have:=Qgl.out;omega);have hc2:(chunk z (a+z) t).length=z:=qbs (by have:=Qgl.out;omega)
       have hdl:(t.drop (a+2 * z)).length=N-(a+2 * z):=by have:=Qgl.out;simp;omega
       have hpt:t=t.take a++chunk z a t++chunk z (a+z) t++t.drop (a+2 * z):=by
        conv=>lhs;rw[qaG (z:=z) (o:=a) (t:=t)]
        rw[List.append_assoc (t.take a++chunk z a t)]
        congr 1
        have h:=(List.take_append_drop z (t.drop (a+z))).symm;rw[List.drop_drop]at h;rw[show a+2 * z=a+z+z from by omega];exact h
       have ZZ:=qb (qiW lns bm (z+z) (t.take a) (chunk z a t) (chunk z (a+z) t) (t.drop (a+2 * z)) g off N cap wr (a:Int) ((a:Int)+(z:Int)) ((a:Int)+2 * (z:Int)) (by rw[hc1,hc2]) (by rw[hpl]) (by rw[hpl,hc1];omega) (by rw[hpl,hc1,hc2];omega) (by omega) (by omega) (by rw[hpl,hc1,hc2,hdl];omega) (by omega) (fun y hy=>HRt.out y (by rcases List.mem_append.1 hy with h|h<;>exact qgk h)) (QjX.out a (Nat.le_refl _) HZA.out) (QjX.out (a+z) (by omega) ((Nat.dvd_add_right HZA.out).2 (Nat.dvd_refl z))) (by rw[<-hpt];exact HI2.out) (HC.out.turn HT2.out))
       rw[HBC.out]at ZZ;go_wp2_with fail
       refine ZZ.out.mono ?_;rintro e w3 ⟨rfl,⟨c,hso,hI3⟩,hT3⟩
       have hcc:c.length=2 * z:=by have h:=hso.2.length;rw[List.length_append,hc1,hc2]at h;omega
       have HT3:=qb (HT2.out.trans hT3);have HI3:=qb hI3
       have HS3:Hid (Tm.Q9 (Tm.qd lns) s (t.take a++c++t.drop (a+2 * z))):=by
        refine HS2.out.trans ?_
        conv=>lhs;rw[hpt]
        rw[List.append_assoc (t.take a) (chunk z a t)];exact Tm.Q9.append (Tm.Q9.append (Tm.Q9.refl _ _) hso.2) (Tm.Q9.refl _ _)
       have QyI:Hid (∀o,o+2 * z<=a+2 * z->2 * z∣o->Tm.Up (Tm.qd lns) (chunk (2 * z) o (t.take a++c++t.drop (a+2 * z)))):=by
        intro o ho hod;by_cases e:o=a
        ·subst e;rw[qmh hpl.symm hcc.symm];exact hso.1
        ·have hg:=qa4 hod HAD.out (by omega);have h:=Qie.out o hg hod;rw[<-List.take_append_drop a t]at h;rw[List.append_assoc,qbr (y:=t.drop a) (by rw[hpl];exact hg)];exact h
       have QyJ:Hid (∀o,a+2 * z<=o->z∣o->Tm.Up (Tm.qd lns) (chunk z o (t.take a++c++t.drop (a+2 * z)))):=by
        intro o ho hod;have h:=QjX.out o (by omega) hod;rw[hpt,List.append_assoc (t.take a) (chunk z a t)]at h;rw[qmg (s:=chunk z a t++chunk z (a+z) t) (by rw[hcc,List.length_append,hc1,hc2];omega) (by rw[hpl,List.length_append,hc1,hc2];omega)];exact h
       clear hso hI3 hT3 hcc hpl hc1 hc2 hdl hpt;go_wp2;go_roundw
       case rel=>exact⟨a+2 * z,_,by go_num,by go_num,hb,(Nat.dvd_add_right HAD.out).2 (Nat.dvd_refl _),HS3.out,QyI.out,QyJ.out,HI3.out,HT3.out⟩
       case measure=>simp[intOf]<;>omega
      ·have hd3:decide ((a:Int)+2 * (z:Int)<=(N:Int))=false:=by simp<;>omega
       by_cases hm:a+z<N
       ·have hd4:decide ((a:Int)+(z:Int)<(N:Int))=true:=by simp<;>omega
        have hc1:(chunk z a t).length=z:=qbs (by have:=Qgl.out;omega)
        have hdl:(t.drop (a+z)).length=N-(a+z):=by have:=Qgl.out;simp;omega
        have hch:chunk z (a+z) t=t.drop (a+z):=by unfold chunk;rw[List.take_of_length_le (by rw[hdl];omega)]
        have hpt:t=t.take a++chunk z a t++t.drop (a+z):=qaG;have ZZ:=qb (qiW lns bm (N-a) (t.take a) (chunk z a t) (t.drop (a+z)) [] g off N cap wr (a:Int) ((a:Int)+(z:Int)) (N:Int) (by rw[hc1,hdl];omega) (by rw[hpl]) (by rw[hpl,hc1];omega) (by rw[hpl,hc1,hdl];omega) (by omega) (by omega) (by rw[hpl,hc1,hdl];simp;omega) (by omega) (fun y hy=>HRt.out y (by rcases List.mem_append.1 hy with h|h;exact qgk h;exact List.mem_of_mem_drop h)) (QjX.out a (Nat.le_refl _) HZA.out) (by rw[<-hch];exact QjX.out (a+z) (by omega) ((Nat.dvd_add_right HZA.out).2 (Nat.dvd_refl z))) (by rw[List.append_nil,<-hpt];exact HI2.out) (HC.out.turn HT2.out));rw[HBC.out]at ZZ;go_wp2_with fail
        refine ZZ.out.mono ?_;rintro e w3 ⟨rfl,⟨c,hso,hI3⟩,hT3⟩
        have hcc:c.length=N-a:=by have h:=hso.2.length;rw[List.length_append,hc1,hdl]at h;omega
        have HT3:=qb (HT2.out.trans hT3)
        have HI3:Hid (Qo w3 g off (t.take a++c)):=by have h:=hI3;rw[List.append_nil]at h;exact h
        have HS3:Hid (Tm.Q9 (Tm.qd lns) s (t.take a++c)):=by
         refine HS2.out.trans ?_
         conv=>lhs;rw[hpt]
         rw[List.append_assoc];exact Tm.Q9.append (Tm.Q9.refl _ _) hso.2
        have Qqk:Hid (∀o,2 * z∣o->Tm.Up (Tm.qd lns) (chunk (2 * z) o (t.take a++c))):=by
         intro o hod;by_cases e:o=a
         ·subst e;rw[qiX hpl.symm (by omega)];exact hso.1
         ·by_cases e2:o<a
          ·have hg:=qa4 hod HAD.out e2;have h:=Qie.out o hg hod;rw[<-List.take_append_drop a t]at h;rw[qbr (y:=t.drop a) (by rw[hpl];exact hg)];exact h
          ·have hg:=qa4 HAD.out hod (by omega);rw[qfi (by simp;omega)];exact List.Pairwise.nil
        clear hso hI3 hT3 hcc hpl hc1 hdl hpt hch;go_wp2;go_roundw
        case rel=>exact⟨2 * z,_,by go_num,by omega,by omega,HS3.out,Qqk.out,HI3.out,HT3.out⟩
        case measure=>simp[intOf]<;>omega
       ·have hd4:decide ((a:Int)+(z:Int)<(N:Int))=false:=by simp<;>omega
        have hdl:(t.drop a).length=N-a:=by have:=Qgl.out;simp;omega
        have Qqk:Hid (∀o,2 * z∣o->Tm.Up (Tm.qd lns) (chunk (2 * z) o t)):=by
         intro o hod;by_cases e:o=a
         ·subst e;have h:=QjX.out o (Nat.le_refl _) HZA.out;unfold chunk at h⊢;rw[List.take_of_length_le (by rw[hdl];omega)]at h⊢;exact h
         ·by_cases e2:o<a
          ·exact Qie.out o (qa4 hod HAD.out e2) hod
          ·have hg:=qa4 HAD.out hod (by omega);rw[qfi (by have:=Qgl.out;omega)];exact List.Pairwise.nil
        clear hpl hdl;go_wp2;go_roundw
        case rel=>exact⟨2 * z,t,by go_num,by omega,by omega,HS2.out,Qqk.out,HI2.out,HT2.out⟩
        case measure=>simp[intOf]<;>omega
    ·have hd2:decide ((z:Int)<(N:Int))=false:=by simp<;>omega
     have HF:Hid (Tm.Qu (Tm.qd lns) s t):=by
      refine⟨?_,HS.out⟩;have h:=QvS.out 0 (Nat.dvd_zero _);unfold chunk at h;rw[List.drop_zero,List.take_of_length_le (by have:=HTL.out;omega)]at h;exact h
     go_wp2;go_end0;exact⟨rfl,⟨t,HF.out,HIr.out⟩,HT.out⟩
theorem qjY(v fv:Value)(a:Nat)(w:World)(ha:a<=1000000):Calls Tryz.prog 195 #[v,.int .i64 (a:Int),.int .i64 (a:Int),fv] w fun e w'=>e=.returned (.tuple #[])/\w'=w:=by
 go_enter Tryz.func195,Tryz.ntmps195
 go_wp2;go_loopw [8] (fun vi wr=>vi=.int .i64 ((a:Int)+1)/\wr=w) (fun _ _=>0)
 case atStart=>exact⟨rfl,rfl⟩
 case round =>
  obtain⟨rfl,rfl⟩:=hrel
  have hd:decide ((a:Int)+1<(a:Int))=false:=by simp<;>omega
  go_wp2;go_end0;exact⟨rfl,rfl⟩
theorem qn5(v fv:Value)(w:World):Calls Tryz.prog 184 #[v,.int .i64 0,fv] w fun e w'=>e=.returned (.tuple #[])/\w'=w:=by
 have HI:=qb (qjY v fv 0 w (by omega));go_enter Tryz.func184,Tryz.ntmps184
 go_wp2;go_loopw [7,8] (fun va vb wr=>va=.int .i64 0/\vb=.int .i64 20/\wr=w) (fun _ _ _=>0)
 case atStart=>exact⟨rfl,rfl,rfl⟩
 case round =>
  obtain⟨rfl,rfl,rfl⟩:=hrel;go_wp2_with fail
  refine HI.out.mono ?_;rintro e w1 ⟨rfl,rfl⟩;go_wp2_with fail
  go_loopw [6] (fun vz wi=>vz=.int .i64 20/\wi=w1) (fun _ _=>0)
  case atStart=>exact⟨rfl,rfl⟩
  case round =>
   obtain⟨rfl,rfl⟩:=hrel;go_wp2;go_end0;exact⟨rfl,rfl⟩
theorem Qf3(lns:List Tm.Ln)(bm:Nat)(s:List Int)(g off N cap:Nat)(w:World)(hN:N=s.length)(qV:N<=100000)(hR:∀z∈s,0<=z/\z<=1114111)(hI:Qo w g off s)(hC:Cmp lns bm g w) :
  Calls Tryz.prog 165 #[.slice (some ⟨g,off,none⟩) N cap,qE bm] w fun e w'=>e=.returned (.tuple #[])/\(∃s',Tm.Qu (Tm.qd lns) s s'/\Qo w' g off s')/\Zv g off N w w':=by
 have HC:=qb (qqj lns bm s g off N cap w hN qV hR hI hC);clear hI hC hR hN;unfold qE at HC⊢;go_enter Tryz.func165,Tryz.ntmps165
 go_wp2_with fail
 refine HC.out.mono ?_;rintro e w1 ⟨rfl,h1,h2⟩;have H1:=qb h1;have H2:=qb h2;clear h1 h2;go_wp2;go_end0;exact⟨rfl,H1.out,H2.out⟩
theorem QbM(a:Option Addr)(cap:Nat)(fv:Value)(w:World):Calls Tryz.prog 165 #[.slice a 0 cap,fv] w fun e w'=>e=.returned (.tuple #[])/\w'=w:=by
 go_enter Tryz.func165,Tryz.ntmps165
 go_wp2_with fail
 refine(qn5 _ _ _).mono ?_;rintro e w1 ⟨rfl,rfl⟩;go_wp2;go_end0;exact⟨rfl,rfl⟩
structure NB(lns:List Tm.Ln)(bm base:Nat)(w:World):Prop where
 base:∃w0,ZX w0 bm lns/\Below w0.heap.size w0 w/\w0.heap.size<=base
theorem NB.below{base:Nat}{w':World}(h:NB lns bm base w)(hb:Below base w w'):NB lns bm base w':=by
 obtain⟨w0,h1,h2,h3⟩:=h.base;exact⟨w0,h1,h2.trans (hb.mono h3),h3⟩
theorem NB.rd{base:Nat}(h:NB lns bm base w):ZX w bm lns:=by
 obtain⟨w0,h1,h2,h3⟩:=h.base;exact h1.below h2
def qmj(base:Nat)(ys:List Int)(w:World)(e:Ending)(w':World):Prop:=∃v',e=.returned v'/\w'.ownsRow base 3 1 v' ys.length (ints ys)/\Below base w w'
theorem qku(l:List Int)(x:Int):ints (l++[x])=ints l++[.int .i64 x]:=by simp[ints]
theorem qdt(lns:List Tm.Ln)(bm base:Nat)(r:Int)(v:Value)(xs:List Int)(w:World)(h0:(Tm.parts lns r).length=0)(hr:0<=r/\r<=1114111)(hN:NB lns bm base w)(qp:w.ownsRow base 3 1 v xs.length (ints xs))(jl:base<=w.heap.size)(hlen:xs.length+1<=100000) :
  Calls Tryz.prog 129 #[.map (some bm),v,.int .i64 r] w fun e w'=>qmj base (xs++[r]) w e w':=by
 obtain⟨f,vp,vs,yq,hfv,hp,hs⟩:=hN.rd.at hr.1;obtain⟨i0,hi,hz0,hz1,hz2⟩:=info_parts Tryz.qbR;obtain⟨av,cv,rfl⟩:=(Reads.qn qp).shape;have YY:=qb yq;have VC:=qb qp;obtain⟨pa,pc,rfl⟩:=hp.shape;obtain⟨sa,sc,rfl⟩:=hs.shape;have HP:=qb hp;generalize hpl:(Tm.parts lns r).length=pl at *;clear yq hp hs qp hN hpl;subst h0;go_enter Tryz.func129,Tryz.ntmps129
 go_wp2_with (at_lookup;go_must (refine zQ rfl _ _ rfl bm lns.length f rfl YY.out r rfl (yV hr) _ hfv ?_))
 have hbw:Below w.heap.size w (w.alloc (.cells #[.int .i64 (Tm.qd lns r),.slice pa 0 pc,.slice sa (Tm.qI lns r).length sc] 251)):=(Below.refl _ _).alloc (Nat.le_refl _) _;refine(qbi _ 0 (ints (Tm.parts lns r)) _ (HP.out.below hbw HP.out.2.1)).mono ?_;rintro e w1 ⟨rfl,hb1⟩;have HB1:Hid (Below w.heap.size w w1):=hbw.trans (hb1.mono (by simp));have hs1:=HB1.out.size;have HO1:=qb (xE VC.out HB1.out);clear hbw hb1;go_wp2_with (at_builtin;go_must (refine wpList_append_own _ rfl _ _ 83 rfl base 3 i0 (.int .i64 0) 1 8 Tryz.underlying83 hi hz0 hz1 hz2 rfl (by decide) _ _ _ rfl (HO1.out.alloc _) ⟨w1.heap.size,0,none⟩ 1 1 [.int .i64 r] rfl rfl qbS (by intro u hu;simp at hu;subst hu;rfl) (by unfold maxLen;omega) (by omega) (by simp;omega) ?_))
 intro v' w2 yx hg2 _;have HB2:Hid (Below base w w2):=((HB1.out.mono jl).alloc (by omega) _).grown hg2 (by simp;omega) (fun j hj=>(HO1.out.lt j hj).1)
 have HO2:Hid (w2.ownsRow base 3 1 v' (xs++[r]).length (ints (xs++[r]))):=by unfold Hid;rw[qku,List.length_append];exact yx
 clear yx hg2;go_wp2;go_ret;exact⟨v',rfl,HO2.out,HB2.out⟩
theorem qiU(lns:List Tm.Ln)(qR:∀o∈lns,Tm.Fit o)(bm base:Nat):∀(n:Nat) (r:Int) (v:Value) (xs:List Int) (w:World),Tm.ends lns n r=true->0<=r/\r<=1114111->NB lns bm base w->w.ownsRow base 3 1 v xs.length (ints xs)->base<=w.heap.size->xs.length+2 ^ n<=100000 ->
  Calls Tryz.prog 129 #[.map (some bm),v,.int .i64 r] w fun e w'=>qmj base (xs++Tm.expand lns n r) w e w':=by
 intro n
 induction n with
 | zero =>
  intro r v xs w xB hr hN qp jl hlen;exact qdt lns bm base r v xs w (by simpa[Tm.ends]using xB) hr hN qp jl (by simpa using hlen)
 | succ n ih =>
  intro r v xs w xB hr hN qp jl hlen;by_cases h0:(Tm.parts lns r).length=0
  ·rw[Tm.qek h0];exact qdt lns bm base r v xs w h0 hr hN qp jl (by have:=Nat.one_le_two_pow (n:=n+1);omega)
  have qQ:(Tm.parts lns r).all (Tm.ends lns n)=true:=by
   rw[Tm.ends]at xB;simpa[h0]using xB
  have hpf:=qcp qR r;have HEX:=qb (Tm.qhn (lns:=lns) (n:=n) h0);have HSH:=qb (Tm.qfh (lns:=lns) (fun q=>qcp qR q) n);have Qdd:=qb qQ;have HRG:=qb (qeh qR r);have HIH:=qb ih;obtain⟨w0,hw1,hw2,hw3⟩:=hN.base;obtain⟨f,vp,vs,qql,hfv,hp0,hs0⟩:=hw1.at hr.1;have yq:Yi w bm lns.length f:=qql.same (hw2.block bm qql.lt);have hp:=hp0.below hw2 hp0.2.1;have hs:=hs0.below hw2;have YY:=qb yq;have HW2:=qb hw2;have HP0:=qb hp0;have VC:=qb qp;have HN:=qb hN;obtain⟨pa,pc,rfl⟩:=hp.shape;obtain⟨sa,sc,rfl⟩:=hs.shape;have HP:=qb hp;obtain⟨pl,hpl⟩:∃pl,(Tm.parts lns r).length=pl:=⟨_,rfl⟩
  rw[hpl]at hfv HP HP0 h0 hpf;have HPL:=qb hpl
  have qzN:2 ^ (n+1)=2 ^ n+2 ^ n:=by rw[Nat.pow_succ];omega
  have XO:Hid (xs.length+2 ^ n+2 ^ n<=100000):=by unfold Hid;omega
  have hgt:decide (0<pl)=true:=by simp;omega
  clear yq hp hs qp hN hpl ih qQ xB hlen qzN qql hp0 hs0 hw1 hw2;go_enter Tryz.func129,Tryz.ntmps129
  go_wp2_with (at_lookup;go_must (refine zQ rfl _ _ rfl bm lns.length f rfl YY.out r rfl (yV hr) _ hfv ?_))
  have hbw:Below w.heap.size w (w.alloc (.cells #[.int .i64 (Tm.qd lns r),.slice pa pl pc,.slice sa (Tm.qI lns r).length sc] 251)):=(Below.refl _ _).alloc (Nat.le_refl _) _
  have qxv:w.heap.size<(w.alloc (.cells #[.int .i64 (Tm.qd lns r),.slice pa pl pc,.slice sa (Tm.qI lns r).length sc] 251)).heap.size:=by simp
  refine(qbi _ pl (ints (Tm.parts lns r)) _ (HP.out.below hbw HP.out.2.1)).mono ?_;rintro e w1 ⟨rfl,hb1⟩;have HB1:Hid (Below w.heap.size w w1):=hbw.trans (hb1.mono (by simp));have hs1:=HB1.out.size
  have n1:w1.cell? ⟨w.heap.size,1,none⟩=some (.slice pa pl pc):=by rw[hb1.cell (p:=⟨w.heap.size,1,none⟩) qxv,ql rfl];rfl
  have HO1:=qb (xE VC.out HB1.out);have HN1:=qb (HN.out.below (HB1.out.mono jl));have HP1:=qb (HP.out.below HB1.out HP.out.2.1);clear hbw hb1 qxv;go_wp2_with fail
  go_loopw [1,25] (fun vv i wr=>∃(k:Nat) (ys:List Int),k<=pl/\i=.int .i64 k/\ys=xs++((Tm.parts lns r).take k).flatMap (Tm.expand lns n)/\wr.ownsRow base 3 1 vv ys.length (ints ys)/\Below base w1 wr) (fun _ i _=>pl-(intOf i).toNat)
  case atStart=>exact⟨0,xs,Nat.zero_le _,rfl,by simp,HO1.out,Below.refl _ _⟩
  case round =>
   obtain⟨k,ys,hk,rfl,hys,yx,hb2⟩:=hrel;have HYS:=qb hys;have HO2:=qb yx;have HB2:=qb hb2;have hz2:=hb2.size;clear hys yx hb2;by_cases hlt:k<pl
   ·have yo:k<(Tm.parts lns r).length:=by rw[HPL.out];exact hlt
    have qvT:Below w0.heap.size w0 wr:=HW2.out.trans (((HB1.out.mono jl).trans HB2.out).mono hw3);obtain⟨g,off,rfl,hg,hc⟩:=Reads.at (k:=k) (by rw[HPL.out];exact HP0.out.below qvT HP0.out.2.1) yo;have hx:=HRG.out _ (List.getElem_mem yo);have hex:=List.all_eq_true.1 Qdd.out _ (List.getElem_mem yo);have HSN:=qb (Tm.qsh (f:=Tm.expand lns n) yo)
    have hyl:ys.length+2 ^ n<=100000:=by
     have h1:=HSH.out ((Tm.parts lns r).take k)
     have h2:((Tm.parts lns r).take k).length<=1:=by rw[List.length_take];omega
     have h3:=Nat.mul_le_mul_right (2 ^ n) h2;have h4:=XO.out;rw[HYS.out,List.length_append];omega
    have HNr:=qb (HN1.out.below HB2.out);have zC:wr.cell? ⟨g,off+k,none⟩=some (.int .i64 (Tm.parts lns r)[k]):=hc;generalize (Tm.parts lns r)[k]=x at *;clear qvT hc;go_wp2_with fail
    refine(HIH.out x _ ys wr hex hx HNr.out HO2.out (by omega) hyl).mono ?_;rintro e w3 ⟨v3,rfl,zR,hb3⟩;have HO3:=qb zR;have HB3:Hid (Below base w1 w3):=HB2.out.trans hb3
    have QzO:Hid (ys++Tm.expand lns n x=xs++((Tm.parts lns r).take (k+1)).flatMap (Tm.expand lns n)):=by unfold Hid;rw[HSN.out,<-List.append_assoc,<-HYS.out]
    clear zR hb3;go_wp2;go_roundw
    case rel=>exact⟨k+1,ys++Tm.expand lns n x,by omega,by go_num,QzO.out,HO3.out,HB3.out⟩
    case measure=>simp[intOf];omega
   ·have HF:Hid (ys=xs++Tm.expand lns (n+1) r):=by unfold Hid;rw[HYS.out,HEX.out,List.take_of_length_le (by rw[HPL.out];omega)]
    have HBF:Hid (Below base w wr):=(HB1.out.mono jl).trans HB2.out;obtain⟨a3,c3,rfl⟩:=(Reads.qn HO2.out).shape;go_wp2;go_ret;refine⟨_,rfl,?_,HBF.out⟩;rw[<-HF.out];exact HO2.out
