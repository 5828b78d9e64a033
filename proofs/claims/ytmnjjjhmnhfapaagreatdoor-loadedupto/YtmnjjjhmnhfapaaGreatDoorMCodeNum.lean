import Derived.BigGuardPart
import Derived.Test.YtmnjjjhmnhfapaaGreatDoorMRefNum
namespace Go.Proofs.YtmnjjjhmnhfapaaGreatDoor
set_option maxRecDepth 100000
set_option maxHeartbeats 1000000
open Go.RowKit
def yU(e:Ending)(n:Int):Prop:=e=.panicked [{v:=.iface 30 (.int .i64 n),recovered:=false}]
theorem zl(n:Int)(w:World):Calls Tryz.prog 154 #[.bool false,.int .i64 n] w fun e w'=>e=.returned (.tuple #[])/\w'=w:=by
 go_enter Tryz.func154,Tryz.ntmps154
 go_wp2;go_end0;exact⟨rfl,rfl⟩
theorem zA(n:Int)(w:World):Calls Tryz.prog 154 #[.bool true,.int .i64 n] w fun e w'=>yU e n/\w'=w:=by
 go_enter Tryz.func154,Tryz.ntmps154
 go_wp2;exact⟨rfl,rfl,rfl⟩
theorem qjS(c:UInt8)(d:Int)(h:Tm.digit c=some d)(w:World):Calls Tryz.prog 215 #[.int .u8 c.toNat] w fun e w'=>e=.returned (.int .i64 d)/\w'=w:=by
 have hu:(c.toNat:Int)<256:=by have:=c.toNat_lt;omega
 have hu0:(0:Int)<=(c.toNat:Int):=by omega
 by_cases hlo:48<=(c.toNat:Int)/\(c.toNat:Int)<=57
 ·rw[Tm.qkv hlo]at h;cases h;obtain⟨h1,h2⟩:=hlo;go_enter Tryz.func215,Tryz.ntmps215
  go_wp2;go_ret;exact⟨yf (by omega),rfl⟩
 ·by_cases hhi:97<=(c.toNat:Int)/\(c.toNat:Int)<=102
  ·rw[Tm.qiV hhi]at h;cases h;obtain⟨h1,h2⟩:=hhi
   have hd1:decide (48<=(c.toNat:Int))=true:=by simp;omega
   have hd2:decide ((c.toNat:Int)<=57)=false:=by simp;omega
   clear hlo;go_enter Tryz.func215,Tryz.ntmps215
   go_wp2;go_ret;exact⟨yf (by omega),rfl⟩
  ·rw[Tm.qqa hlo hhi]at h;cases h
theorem qjT(c:UInt8)(h:Tm.digit c=none)(w:World):Calls Tryz.prog 215 #[.int .u8 c.toNat] w fun e w'=>yU e 1/\w'=w:=by
 have hu:(c.toNat:Int)<256:=by have:=c.toNat_lt;omega
 have hlo:¬(48<=(c.toNat:Int)/\(c.toNat:Int)<=57):=fun h'=>by rw[Tm.qkv h']at h;cases h
 have hhi:¬(97<=(c.toNat:Int)/\(c.toNat:Int)<=102):=fun h'=>by rw[Tm.qiV h']at h;cases h
 clear h;go_enter Tryz.func215,Tryz.ntmps215
 go_wp2;all_goals exact⟨rfl,rfl,rfl⟩
def qbg(l:List UInt8)(most:Int)(e:Ending):Prop:=if 0<=Tm.num l/\Tm.num l<=most then e=.returned (.int .i64 (Tm.num l))else yU e 1
theorem qcW{l:List UInt8}{most:Int}{e:Ending}(h:Tm.num l=-1)(he:yU e 1):qbg l most e:=by unfold qbg;rw[if_neg (by omega)];exact he
theorem qex(s:ByteArray)(most:Int)(w:World)(hs:s.size<=maxLen) :
  Calls Tryz.prog 205 #[.string s,.int .i64 most] w fun e w'=>qbg s.data.toList most e/\w'=w:=by
 unfold maxLen at hs;by_cases h1:s.size=0
 ·have HV:=qb (Tm.qjU (l:=s.data.toList) (.inl (by rw[zI];omega)))
  have hb:((s.size:Int) == 0)=true:=by rw[beq_iff_eq];omega
  clear h1;go_enter Tryz.func205,Tryz.ntmps205
  go_wp2_with (go_at_call 154;refine(zA 1 _).mono ?_;rintro e w' ⟨rfl,rfl⟩)
  exact⟨rfl,qcW HV.out rfl,rfl⟩
 have hb1:((s.size:Int) == 0)=false:=by rw[beq_eq_false_iff_ne];omega
 by_cases h6:6<s.size
 ·have HV:=qb (Tm.qjU (l:=s.data.toList) (.inr (.inl (by rw[zI];omega))))
  have hd:decide (6<(s.size:Int))=true:=by simp;omega
  go_enter Tryz.func205,Tryz.ntmps205
  go_wp2_with (go_at_call 154;refine(zA 1 _).mono ?_;rintro e w' ⟨rfl,rfl⟩)
  exact⟨rfl,qcW HV.out rfl,rfl⟩
 have hd6:decide (6<(s.size:Int))=false:=by simp;omega
 have h0:0<s.size:=by omega
 by_cases hb:1<(s.size:Int)/\((s[0].toNat:Int) == 48)=true
 ·have HV:=qb (qt9 s h0 hb.1 hb.2);obtain⟨h2,h3⟩:=hb
  have hd2:decide (1<(s.size:Int))=true:=by simp;omega
  go_enter Tryz.func205,Tryz.ntmps205
  go_wp2_with fail
  refine(zl 1 _).mono ?_;rintro e w' ⟨rfl,rfl⟩;go_wp2_with fail
  refine(zA 1 _).mono ?_;rintro e w' ⟨rfl,rfl⟩;go_wp2;exact⟨rfl,qcW HV.out rfl,rfl⟩
 have hx:((s[0].toNat:Int) == 48)=false\/(((s[0].toNat:Int) == 48)=true/\decide (1<(s.size:Int))=false):=by
  cases h:((s[0].toNat:Int) == 48)
  ·exact .inl rfl
  ·right;refine⟨rfl,?_⟩;simp[h]at hb;simp;omega
 have HV:=qb (qsf s h0 (by omega) (by
  rcases hx with h|⟨_,h⟩
  ·exact .inl h
  ·right;simp at h;omega))
 clear hb;rcases hx with h3|⟨h3,h4⟩
 all_goals
  go_enter Tryz.func205,Tryz.ntmps205
  go_wp2_with fail
  refine(zl 1 _).mono ?_;rintro e w' ⟨rfl,rfl⟩;go_wp2_with fail
  refine(zl 1 _).mono ?_;rintro e w' ⟨rfl,rfl⟩;go_wp2_with fail
  go_loop [5,27] (fun n i=>∃k:Nat,k<=s.size/\i=.int .i64 k/\∃m:Int,0<=m/\m<16 ^ k/\n=.int .i64 m/\Tm.digits (s.data.toList.drop k) m=Tm.digits s.data.toList 0) (fun _ i=>s.size-(intOf i).toNat)
  case atStart=>exact⟨0,Nat.zero_le _,rfl,0,by omega,by omega,rfl,rfl⟩
  case round =>
   obtain⟨k,hk,rfl,m,hm0,hm1,rfl,hd⟩:=hrel;by_cases hlt:k<s.size
   ·have hc:=Tm.drop_cons s k hlt;rw[hc]at hd;clear hc
    have qBe:m<16777216:=by
     have:=Tm.qyG k (by omega);omega
    cases hdg:Tm.digit s[k]with
    | none =>
     rw[Tm.qn2 hdg]at hd;have HD:=qb hd;have HG:=qb hdg;clear hd hm1 hdg;go_wp2_with fail
     refine(qjT _ HG.out _).mono ?_;rintro e w' ⟨rfl,rfl⟩;go_wp2;exact⟨rfl,qcW (by rw[HV.out,<-HD.out]) rfl,rfl⟩
    | some d =>
     rw[Tm.qn3 hdg]at hd
     have qzF:0<=d/\d<=15:=by
      unfold Tm.digit at hdg;split at hdg
      ·cases hdg;omega
      ·split at hdg
       ·cases hdg;omega
       ·cases hdg
     obtain⟨hd0,hd1⟩:=qzF;have HD:=qb hd;have HG:=qb hdg;have HP:=qb hm1;clear hd hm1 hdg;go_wp2_with fail
     refine(qjS _ d HG.out _).mono ?_;rintro e w' ⟨rfl,rfl⟩;go_wp2
     go_round
     case rel=>exact⟨k+1,by omega,by go_num,16 * m+d,by omega,by have:=HP.out;rw[Int.pow_succ];omega,by go_num,HD.out⟩
     case measure=>simp[intOf];omega
   ·rw[Tm.qua s k (by omega)]at hd;have HD:=qb (HV.out.trans hd.symm);clear hd hm1;by_cases hle:m<=most
    ·have hdm:decide (most<m)=false:=by simp;omega
     go_wp2_with fail
     refine(zl 1 _).mono ?_;rintro e w' ⟨rfl,rfl⟩;go_wp2;go_ret;refine⟨?_,rfl⟩;have e1:Tm.num s.data.toList=m:=HD.out;unfold qbg;rw[e1,if_pos ⟨hm0,hle⟩];rfl
    ·have hdm:decide (most<m)=true:=by simp;omega
     go_wp2_with fail
     refine(zA 1 _).mono ?_;rintro e w' ⟨rfl,rfl⟩;go_wp2;refine⟨rfl,?_,rfl⟩;have e1:Tm.num s.data.toList=m:=HD.out;unfold qbg;rw[e1,if_neg (by omega)];rfl
