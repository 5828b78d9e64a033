import Derived.WalkSmall
import Derived.Test.YtmnjjjhmnhfapaaGreatDoorMLibStr
import Derived.Test.YtmnjjjhmnhfapaaGreatDoorMRefParse
namespace Go.Proofs.YtmnjjjhmnhfapaaGreatDoor
set_option maxRecDepth 100000
set_option maxHeartbeats 1000000
open Go.RowKit
theorem qsZ{s:ByteArray}(h:1<=s.size):((s.extract 0 1).toList == [42])=star s:=by
 rw[ByteArray.toList_eq,vN];have h1:=Tm.drop_cons s 0 (by omega);rw[List.drop_zero]at h1;unfold star;rw[h1,Bool.eq_iff_iff];simp
theorem QeN(s:ByteArray)(w:World):Calls Tryz.prog 221 #[.string s,.string ⟨#[42]⟩] w fun e w'=>e=.returned (.bool (star s))/\w'=w:=by
 by_cases h:(1:Int)<=(s.size:Int)
 ·have hd:decide ((1:Int)<=(s.size:Int))=true:=by simp;omega
  have HS:=qb (qsZ (s:=s) (by omega));go_enter Tryz.func221,Tryz.ntmps221
  go_wp2;go_ret;exact⟨ja HS.out,rfl⟩
 ·have hd:decide ((1:Int)<=(s.size:Int))=false:=by simp;omega
  have HS:=qb (qm4 (s:=s) (by omega));go_enter Tryz.func221,Tryz.ntmps221
  go_wp2;go_ret;exact⟨ja HS.out.symm,rfl⟩
theorem QeE(s:ByteArray)(w:World):Calls Tryz.prog 219 #[.string s,.string ⟨#[42]⟩] w fun e w'=>e=.returned (.tuple #[.string (bare s),.bool (star s)])/\w'=w:=by
 have inner:Calls Tryz.prog 220 #[.string s,.string ⟨#[42]⟩] w fun e w'=>e=.returned (.tuple #[.string (bare s),.bool (star s)])/\w'=w:=by
  cases hst:star s
  ·have HB:Hid (bare s=s):=by unfold bare Hid;rw[hst];rfl
   have HS:=qb hst;go_enter Tryz.func220,Tryz.ntmps220
   go_wp2_with fail
   refine(QeN s _).mono ?_;rintro e w' ⟨rfl,rfl⟩;go_wp2;go_ret2;exact⟨by rw[HB.out];rfl,rfl⟩
  ·have HB:Hid (bare s=s.extract 1 s.size):=by unfold bare Hid;rw[hst];rfl
   have hp:=quZ hst;go_enter Tryz.func220,Tryz.ntmps220
   go_wp2_with fail
   refine(QeN s _).mono ?_;rintro e w' ⟨rfl,rfl⟩;go_wp2;go_ret2;exact⟨by rw[HB.out];rfl,rfl⟩
 go_enter Tryz.func219,Tryz.ntmps219
 go_wp2_with fail
 refine inner.mono ?_;rintro e w' ⟨rfl,rfl⟩;go_wp2;go_ret2;exact⟨rfl,rfl⟩
def qx0(bs:List ByteArray)(x:ByteArray)(e:Ending):Prop :=
 (∃k:Nat,∃h:k<bs.length,e=.returned (.int .i64 k)/\bs[k].data.toList=x.data.toList/\∀j (_:j<k) (hj:j<bs.length),bs[j].data.toList≠x.data.toList)\/(e=.returned (.int .i64 (-1))/\∀j (hj:j<bs.length),bs[j].data.toList≠x.data.toList)
theorem Qsl(vs:Value)(bs:List ByteArray)(x:ByteArray)(w:World)(hr:Reads w vs 1 bs.length (bs.map Value.string))(hl:bs.length<=1000000) :
  Calls Tryz.prog 206 #[vs,.string x] w fun e w'=>qx0 bs x e/\w'=w:=by
 obtain⟨a,cap,rfl⟩:=hr.shape;have HR:=qb hr;clear hr;go_enter Tryz.func206,Tryz.ntmps206
 go_wp2
 go_loop [8] (fun i=>∃k:Nat,k<=bs.length/\i=.int .i64 k/\∀j (_:j<k) (hj:j<bs.length),bs[j].data.toList≠x.data.toList) (fun i=>bs.length-(intOf i).toNat)
 case atStart=>exact⟨0,Nat.zero_le _,rfl,fun j hj=>by omega⟩
 case round =>
  obtain⟨k,hk,rfl,hno⟩:=hrel;have HNO:=qb hno;clear hno;by_cases hlt:k<bs.length
  ·obtain⟨g,off,rfl,hg,hc⟩:=qg1 HR.out hlt;have HEQ:Hid (bs[k]=bs[k]):=rfl;generalize hbk:bs[k]=bk at hc;have HBK:=qb hbk;clear hbk HEQ;cases he:(x.toList == bk.toList)
   ·have HS:Hid (∀j (_:j<k+1) (hj:j<bs.length),bs[j].data.toList≠x.data.toList):=by
     intro j hj hl';by_cases e:j=k
     ·subst e;rw[HBK.out];rw[ByteArray.toList_eq,ByteArray.toList_eq]at he;intro h;rw[h]at he;simp at he
     ·exact HNO.out j (by omega) hl'
    go_wp2
    go_round
    case rel=>exact⟨k+1,by omega,by go_num,HS.out⟩
    case measure=>simp[intOf];omega
   ·have HE:Hid (bs[k].data.toList=x.data.toList):=by
     unfold Hid;rw[HBK.out];rw[ByteArray.toList_eq,ByteArray.toList_eq]at he;exact(by simpa using he:x.data.toList=bk.data.toList).symm
    go_wp2;go_ret;exact⟨.inl ⟨k,hlt,rfl,HE.out,HNO.out⟩,rfl⟩
  ·have HN:Hid (∀j (hj:j<bs.length),bs[j].data.toList≠x.data.toList):=fun j hj=>HNO.out j (by omega) hj;go_wp2;go_ret;exact⟨.inr ⟨rfl,HN.out⟩,rfl⟩
theorem Qp3(va vb:Value)(la lb:List Int)(w:World)(ha:Reads w va 1 la.length (ints la))(hb:Reads w vb 1 lb.length (ints lb))(hl:la.length<=1000000)(hl':lb.length<=1000000) :
  Calls Tryz.prog 183 #[va,vb] w fun e w'=>e=.returned (.bool (decide (la=lb)))/\∃n,w'=w.drewN n:=by
 by_cases hlen:la.length=lb.length
 ·obtain⟨a,cap,rfl⟩:=ha.shape;obtain⟨a',z8,rfl⟩:=hb.shape;have HA:=qb ha;have HB:=qb hb;have HL:=qb hlen
  have hnb:((la.length:Int) != (lb.length:Int))=false:=by simp;omega
  clear ha hb hlen;go_enter Tryz.func183,Tryz.ntmps183
  go_wp2;go_loopw [13] (fun i wr=>∃k:Nat,k<=la.length/\i=.int .i64 k/\qdC la lb k/\∃q,wr=w.drewN q) (fun i _=>la.length-(intOf i).toNat)
  case atStart=>exact⟨0,Nat.zero_le _,rfl,rfl,0,rfl⟩
  case round =>
   obtain⟨k,hk,rfl,jc,q,rfl⟩:=hrel;by_cases hlt:k<la.length
   ·have hkb:k<lb.length:=by rw[<-HL.out];exact hlt
    obtain⟨g,off,rfl,_,c1⟩:=HA.out.at hlt;obtain⟨g',j0,rfl,_,c2⟩:=HB.out.at hkb
    have i1:(0:Int)<=(k:Int):=by omega
    have i2:(k:Int)<(la.length:Int):=by omega
    have i3:(k:Int)<(lb.length:Int):=by omega
    have HE:Hid (∀h:la[k]=lb[k],qdC la lb (k+1)):=fun h=>qov jc hlt hkb h;have HX:Hid (la[k]≠lb[k]->la≠lb):=fun h h'=>h (by subst h';rfl);generalize la[k]=x at *;generalize lb[k]=y at *;clear jc hkb;go_wp2;go_quiet (fail)
    cases hxy:(x != y)
    ·go_wp2;go_roundw
     case rel=>exact⟨k+1,by omega,by go_num,HE.out (by simpa using hxy),_,rfl⟩
     case measure=>simp[intOf];omega
    ·go_wp2;go_ret;exact⟨ja (by simp[HX.out (by simpa using hxy)]),q+nq,by simp⟩
   ·have HE:=qb (qq2 jc (by omega) (by rw[<-HL.out];omega));clear jc;go_wp2;go_ret;exact⟨ja (by simp[HE.out]),q,rfl⟩
 ·obtain⟨a,cap,rfl⟩:=ha.shape;obtain⟨a',z8,rfl⟩:=hb.shape
  have hne:((la.length:Int) != (lb.length:Int))=true:=by rw[bne_iff_ne];omega
  have HE:Hid (la≠lb):=fun h=>hlen (by rw[h]);clear ha hb;go_enter Tryz.func183,Tryz.ntmps183
  go_wp2;go_ret;exact⟨ja (by simp[HE.out]),0,rfl⟩
def qs0(s:ByteArray)(c:UInt8)(e:Ending):Prop :=
 (∃m:Nat,m<s.size/\e=.returned (.tuple #[.string (s.extract 0 m),.string (s.extract (m+1) s.size),.bool true])/\Tm.split c s.data.toList=(s.extract 0 m).data.toList::Tm.split c (s.extract (m+1) s.size).data.toList) \/
 (e=.returned (.tuple #[.string s,.string ⟨#[]⟩,.bool false])/\Tm.split c s.data.toList=[s.data.toList])
theorem qm5(s:ByteArray)(c:UInt8)(w:World)(hs:s.size<=8192):Calls Tryz.prog 176 #[.string s,.string ⟨#[c]⟩] w fun e w'=>qs0 s c e/\∃n,w'=w.drewN n:=by
 rcases qip c s.data.toList with⟨h1,h2,_⟩|⟨m,h1,h2,h3,_⟩
 ·have HI:=qb h1;have HS:=qb h2;clear h1 h2;go_enter Tryz.func176,Tryz.ntmps176
  go_wp2_with fail
  refine(qb6 s c _).mono ?_;rintro e w1 ⟨rfl,rfl⟩;rw[HI.out];go_wp2
  go_ret3
  exact⟨.inr ⟨rfl,HS.out⟩,0,rfl⟩
 ·rw[zI]at h2;have HI:=qb h1
  have e1:(s.extract (m+1) s.size).data.toList=s.data.toList.drop (m+1):=by
   rw[vN,List.take_of_length_le (by rw[List.length_drop,zI];omega)]
  have e2:(s.extract 0 m).data.toList=s.data.toList.take m:=by rw[vN];simp
  have HS:Hid (Tm.split c s.data.toList=(s.extract 0 m).data.toList::Tm.split c (s.extract (m+1) s.size).data.toList):=by unfold Hid;rw[e1,e2];exact h3
  have i1:(0:Int)<=(m:Int):=by omega
  have i2:(m:Int)<=(s.size:Int):=by omega
  have i3:(m:Int)+1<=(s.size:Int):=by omega
  clear h1 h3 e1 e2;go_enter Tryz.func176,Tryz.ntmps176
  go_wp2_with fail
  refine(qb6 s c _).mono ?_;rintro e w1 ⟨rfl,rfl⟩;rw[HI.out];go_wp2;go_quiet (fail)
  go_wp2
  go_ret3
  exact⟨.inl ⟨m,h2,rfl,HS.out⟩,nq,rfl⟩
theorem Qwo(s:ByteArray)(c:UInt8)(w:World)(hs:s.size<=8192):Calls Tryz.prog 152 #[.string s,.string ⟨#[c]⟩] w fun e w'=>qs0 s c e/\∃n,w'=w.drewN n:=by
 go_enter Tryz.func152,Tryz.ntmps152
 go_wp2_with fail
 refine(qm5 s c _ hs).mono ?_;rintro e w1 ⟨hc,n,rfl⟩;rcases hc with⟨m,h1,rfl,h2⟩|⟨rfl,h2⟩
 ·have HS:=qb h2;clear h2;go_wp2
  go_ret3
  exact⟨.inl ⟨m,h1,rfl,HS.out⟩,n,rfl⟩
 ·have HS:=qb h2;clear h2;go_wp2
  go_ret3
  exact⟨.inr ⟨rfl,HS.out⟩,n,rfl⟩
