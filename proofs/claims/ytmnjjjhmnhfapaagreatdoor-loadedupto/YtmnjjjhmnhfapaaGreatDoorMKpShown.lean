import Derived.Test.YtmnjjjhmnhfapaaGreatDoorMKpBegin
import Derived.Test.YtmnjjjhmnhfapaaGreatDoorMIxSnap3
namespace Go.Proofs.YtmnjjjhmnhfapaaGreatDoor
set_option maxRecDepth 100000
set_option maxHeartbeats 2000000
open Go.RowKit
theorem qin(va vb:Value)(l:Tm.QU)(w:World)(ha:Reads w va 2 l.length (qY l))(hb:Reads w vb 2 l.length (qY l))(hl:l.length<=1000000) :
  Calls Tryz.prog 29 #[va,vb] w fun e w'=>e=.returned (.bool true)/\∃n,w'=w.drewN n:=by
 obtain⟨a,cap,rfl⟩:=ha.shape;obtain⟨a',z8,rfl⟩:=hb.shape;have HA:=qb ha;have HB:=qb hb;obtain⟨n,hn⟩:∃n,l.length=n:=⟨_,rfl⟩
 have HN:=qb hn;rw[hn]at hl HA HB;rw[hn];clear ha hb hn;go_enter Tryz.func29,Tryz.ntmps29
 go_wp2;go_loopw [5] (fun i wr=>∃k:Nat,k<=n/\i=.int .i64 k/\∃q,wr=w.drewN q) (fun i _=>n-(intOf i).toNat)
 case atStart=>exact⟨0,Nat.zero_le _,rfl,0,rfl⟩
 case round =>
  obtain⟨k,hk,rfl,q,rfl⟩:=hrel;by_cases hlt:k<n
  ·have yo:k<l.length:=by rw[HN.out];exact hlt
   obtain⟨g,off,rfl,hg,c0,c1⟩:=qa7 (by rw[HN.out];exact HA.out) yo;obtain⟨g',j0,rfl,hg',d0,d1⟩:=qa7 (by rw[HN.out];exact HB.out) yo
   have i1:(0:Int)<=(k:Int):=by omega
   have i2:(k:Int)<(n:Int):=by omega
   generalize l[k]=x at *;obtain⟨p,s⟩:=x;simp only at c0 c1 d0 d1;clear yo;go_wp2;go_quiet (fail)
   go_wp2;go_roundw
   case rel=>exact⟨k+1,by omega,by go_num,_,rfl⟩
   case measure=>simp[intOf];omega
  ·go_wp2;go_ret;exact⟨rfl,q,rfl⟩
theorem qqO{c:ByteArray->ByteArray->Int}(h:∀k,0<=c k ⟨#[]⟩)(es:Tm.QU):Tm.vM c es ⟨#[]⟩ ⟨#[]⟩=es:=by
 unfold Tm.vM;rw[List.filter_eq_self];intro e _;unfold Tm.within;rw[decide_eq_true (h e.1),decide_eq_true (show(ByteArray.mk #[]).size=0 from rfl)];rfl
theorem qos(lns:List Tm.Ln)(bc bm:Nat)(st:Int)(sh:Bool)(X:Nat)(S:Nat->Prop)(bx:Nat)(s:Qt)(h:Int)(l:Tm.Zr)(w:World)(hc:Jd w bc bm st sh lns)(hok:Zt st lns)(hx:Ix w X S bx bc st sh lns s)(hsh:qeJ s h=some l) :
  Calls Tryz.prog 21 #[.pointer (some ⟨bx,0,none⟩),.int .i64 h,.string ⟨#[]⟩,.string ⟨#[]⟩,.int .i64 1000] w fun e w'=>∃v,e=.returned (.tuple #[v,.int .i64 0])/\w'.ownsRow w.heap.size 67 2 v l.length (qY (Tm.qj l))/\Below w.heap.size w w':=by
 have hwh:=qqO (c:=qe lns st sh) (fun k=>qi9 lns hok.st sh k)
 have qbB:∀(es:Tm.QU) (e:Ending) (w':World),es.length<=64->qgn (qe lns st sh) es ⟨#[]⟩ ⟨#[]⟩ 1000 w e w'->∃v,e=.returned (.tuple #[v,.int .i64 0])/\w'.ownsRow w.heap.size 67 2 v es.length (qY es)/\Below w.heap.size w w':=fun es e w' hle hs=>by
  obtain⟨hb,ha⟩:=hs;rw[if_neg (by decide),if_neg (by decide),hwh es,List.take_of_length_le (by show es.length<=1000;omega)]at ha;obtain⟨v,he,ho⟩:=ha;exact⟨v,he,ho,hb⟩
 unfold qeJ at hsh;by_cases h0:h=0
 ·subst h0;rw[if_pos rfl]at hsh;cases hsh;refine(Qi0 lns bc bm st sh X S bx s ⟨#[]⟩ ⟨#[]⟩ 1000 w hc hok hx (by omega)).mono fun e w' hs=>?_;have h9:=qbB (qv s) e w' hx.few hs;rw[yN]at h9;exact h9
 ·rw[if_neg h0]at hsh;obtain⟨F,B,V,v,vh,hi⟩:=hx.mem;have hbl:=(hx.from_ bx hx.own).2;by_cases hlt:qao s h<s.held.length
  ·rw[List.getElem?_eq_getElem hlt]at hsh
   have hl:s.held[qao s h].2=l:=by simpa using hsh
   have hm:=List.getElem_mem hlt;have hr:=hi.qwx hm;have qf7:=hx.ok.qsD _ hm;rw[hl]at hr qf7;have hsl:=qiY (hi.rows _ hm).1;rw[hl]at hsl;refine(qhr lns bc bm st sh bx h l B _ ⟨#[]⟩ ⟨#[]⟩ 1000 w hc hok hx.c0 hbl ?_ qf7.1 qf7.2 hr hsl (by omega)).mono fun e w' hs=>?_
   ·refine(qmz h w hi hbl hx.ok.qvY h0).mono ?_;rw[dif_pos hlt];rintro e w' ⟨rfl,hb⟩;exact⟨rfl,hb⟩
   ·have h9:=qbB (Tm.qj l) e w' (by rw[Tm.qz];exact qf7.2) hs;rw[Tm.qz]at h9;exact h9
  ·rw[List.getElem?_eq_none (by omega)]at hsh;cases hsh
theorem qdS{X:Nat}{F S:Nat->Prop}{vf:Value}{bb bx bc bm:Nat}{st:Int}{sh:Bool}{lns:List Tm.Ln}{fs:List Tm.Fact}{s:Qt}(h:Int)(l:Tm.Zr)(w:World)(hB:Bk w X F S vf bb bx bc bm st sh lns fs s)(hsh:qeJ s h=some l) :
  Calls Tryz.prog 27 #[.pointer (some ⟨bb,0,none⟩),.int .i64 h] w fun e w'=>∃a c,e=.returned (.slice a l.length c)/\w'.ownsRow w.heap.size 67 2 (.slice a l.length c) l.length (qY (Tm.qj l))/\Bk w' X F S vf bb bx bc bm st sh lns fs s/\Qy (fun i=>i=bb) w w':=by
 have CS:=qb (qos lns bc bm st sh X S bx s h l w hB.qhQ hB.ok hB.ix hsh);have c1:=hB.c1;have hbb:=(hB.from_ bb hB.own).2;have HBK:=qb hB;clear hB;go_enter Tryz.func27,Tryz.ntmps27
 go_wp2_with fail
 refine CS.out.mono ?_;rintro e w1 ⟨v,rfl,ho,hb⟩;have HB1:=qb (HBK.out.below hb);have c3:=HB1.out.c3;have f3:=HB1.out.free 3;have hz:=hb.size
 have qBm:bb<w1.heap.size:=by omega
 obtain⟨a,cap,rfl⟩:=(Reads.qn ho).shape
 have QN:Hid ((w1.setCell ⟨bb,3,none⟩ (.bool true)).ownsRow w.heap.size 67 2 (.slice a l.length cap) l.length (qY (Tm.qj l))/\Bk (w1.setCell ⟨bb,3,none⟩ (.bool true)) X F S vf bb bx bc bm st sh lns fs s/\Qy (fun i=>i=bb) w (w1.setCell ⟨bb,3,none⟩ (.bool true))):=by
  refine⟨qO ho (fun g hg=>Below.heap_setCell _ _ _ _ (by rintro rfl;have:=(ho.lt _ hg).1;omega)),HB1.out.qqH,Qy.setCell (S:=fun i=>i=bb) (p:=⟨bb,3,none⟩) (Qy.of hb) (.inl rfl) _⟩
 clear ho hb c1;go_wp2;go_ret;exact⟨_,_,rfl,QN.out⟩
def Qz6(w:World)(F:Nat->Prop)(u:Value)(es:Tm.QU):Prop:=Reads w u 2 es.length (qY es)/\∀g,u.ownBlock=some g->¬F g
def Was(w:World)(base:Nat)(F:Nat->Prop)(vw:Value)(held:List (Nat×Tm.Zr)):Prop :=
 ∃qfs:List Value,qfs.length=held.length/\w.ownsRow base 50 1 vw held.length qfs/\(∀g,vw.ownBlock=some g->¬F g)/\∀i (hi:i<held.length) (hv:i<qfs.length),(∃a c,qfs[i]=.slice a held[i].2.length c)/\Qz6 w F qfs[i] (Tm.qj held[i].2)/\∀g,qfs[i].ownBlock=some g->vw.ownBlock≠some g
