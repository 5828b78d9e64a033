import Derived.Test.YtmnjjjhmnhfapaaGreatDoorMIxTurn
namespace Go.Proofs.YtmnjjjhmnhfapaaGreatDoor
set_option maxRecDepth 100000
set_option maxHeartbeats 2000000
open Go.RowKit
def QgF(n:Nat)(st:Int)(sh:Bool)(w:World)(e:Ending)(w':World):Prop :=
 ∃bc bm lns,e=.returned (.pointer (some ⟨bc,0,none⟩))/\Xk w' w.heap.size bc bm st sh lns/\Zt st lns/\Tm.Qb3 lns/\Tm.zH (Tm.xh n) st=(lns,0,0)/\Below w.heap.size w w'
theorem qpw(n st:Int)(sh:Bool)(hn:-9223372036854775808<=n/\n<=9223372036854775807)(hst:-9223372036854775808<=st/\st<=9223372036854775807) :
  ∃(k:Nat) (st':Int),k<256/\∀w:World,Calls Tryz.prog 55 #[.int .i64 n,.int .i64 st,.bool sh] w fun e w'=>QgF k st' sh w e w':=by
 obtain⟨n1,n2⟩:=hn;obtain⟨s1,s2⟩:=hst;have hp:=qhs (c:=n) (n:=256) (by omega);obtain⟨k,hk⟩:∃k:Nat,qby n 256=k:=⟨(qby n 256).toNat,by omega⟩
 obtain⟨t,ht⟩:∃t:Int,qby st 4=t:=⟨_,rfl⟩
 refine⟨k,1+t,by omega,fun w=>?_⟩;have HK:=qb hk;have HT:=qb ht
 have qv5:k<256:=by omega
 clear hp hk ht;go_enter Tryz.func55,Tryz.ntmps55
 go_wp2_with fail
 refine(qmA n 256 _ ⟨n1,n2⟩ (by omega)).mono ?_;rintro e w1 ⟨rfl,rfl⟩;rw[HK.out];go_wp2_with fail
 refine(qsx k _ qv5).mono ?_;rintro e w2 ⟨s,rfl,hs,hb2⟩;have HS:=qb hs;have HB2:=qb hb2;have hz2:=hb2.size;clear hs hb2;go_wp2_with fail
 refine(qmA st 4 _ ⟨s1,s2⟩ (by omega)).mono ?_;rintro e w3 ⟨rfl,rfl⟩;have hp:=qhs (c:=st) (n:=4) (by omega);rw[HT.out]at hp⊢;obtain⟨p1,p2⟩:=hp
 have hsz:s.size<=maxLen:=by
  have h1:=qdx k 8 (by omega)
  have h2:s.data.toList.length<=860:=by rw[HS.out];exact h1
  simp at h2;unfold maxLen;omega
 obtain⟨lns,hl1,hl2⟩:=Tm.quu qv5 (st:=1+t) (by omega);have HL1:=qb hl1;have HL2:=qb hl2;clear hl1 hl2;go_wp2_with fail
 refine(qt6.2 s (1+t) sh _ hsz).mono ?_;rintro e w4 ⟨c,rfl,hc,hK,hb4⟩;rw[HS.out,HL1.out]at hc
 obtain⟨a,rfl⟩:∃a,c=some a:=by
  cases c with
  | none=>exact absurd rfl (hc.1 rfl)
  | some a=>exact⟨a,rfl⟩
 obtain⟨bc,bm,qbT,rfl,hco,hnt⟩:=hK _ rfl;rw[HS.out,HL1.out]at hnt;injection hnt with hnt _;subst hnt;have HC:=qb (hco.stays (B':=w1.heap.size) hz2 (Nat.le_refl _) (fun _ _ _=>rfl));have HOK:Hid (Zt (1+t) lns):=Zt.of HL1.out (qlh HL1.out);have HB4:=qb (HB2.out.trans (hb4.mono hz2));rw[HS.out,HL1.out];clear hc hK hco hb4;go_wp2;go_ret;exact⟨bc,bm,lns,rfl,HC.out,HOK.out,HL2.out,HL1.out,HB4.out⟩
