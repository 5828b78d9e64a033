import Derived.Test.YtmnjjjhmnhfapaaGreatDoorMIxPutD
namespace Go.Proofs.YtmnjjjhmnhfapaaGreatDoor
set_option maxRecDepth 100000
set_option maxHeartbeats 2000000
open Go.RowKit
variable {V:Nat->Value}{S F:Nat->Prop}{K:ByteArray->ByteArray}
def qa5(l:List (Nat×Tm.Zr))(h:Int):Int:=if l.findIdx (fun x=>decide ((x.1:Int)=h))<l.length then l.findIdx (fun x=>decide ((x.1:Int)=h))else -1
theorem qof{l:List (Nat×Tm.Zr)}{h:Int}{k:Nat}(hk:k<l.length)(h1:(l[k].1:Int)=h)(h2:∀j (hj:j<k),(l[j].1:Int)≠h):qa5 l h=k:=by
 have:l.findIdx (fun x=>decide ((x.1:Int)=h))=k:=(List.findIdx_eq hk).2 ⟨by simpa using h1,fun j hj=>by simpa using h2 j hj⟩;unfold qa5;rw[this,if_pos hk]
theorem qqz{l:List (Nat×Tm.Zr)}{h:Int}(h1:∀j (hj:j<l.length),(l[j].1:Int)≠h):qa5 l h=-1:=by
 have:l.findIdx (fun x=>decide ((x.1:Int)=h))=l.length:=List.findIdx_eq_length.2 fun x hx=>by
  obtain⟨j,hj,rfl⟩:=List.mem_iff_getElem.1 hx;simpa using h1 j hj
 unfold qa5;rw[this,if_neg (by omega)]
theorem qmv{w:World}{a:Option Addr}{n cap:Nat}{l:List (Nat×Tm.Zr)}(h:Reads w (.slice a n cap) 2 l.length (qa6 V l)){k:Nat}(hk:k<l.length) :
  ∃g off,a=some ⟨g,off,none⟩/\g<w.heap.size/\w.cell? ⟨g,off+k * 2,none⟩=some (.int .i64 l[k].1)/\w.cell? ⟨g,off+k * 2+1,none⟩=some (V l[k].1):=by
 obtain⟨g,off,z8,he,hg,hc⟩:=h.form (by rw[qik];omega);cases he;have hr:=qbP (fun g:Nat×Tm.Zr=>[Value.int .i64 g.1,V g.1]) 2 (fun _=>rfl) l k hk;exact⟨g,off,rfl,hg,hc (k * 2) _ (hr 0 (by omega)),hc (k * 2+1) _ (hr 1 (by omega))⟩
def Qgr(V:Nat->Value)(l:List (Nat×Tm.Zr)):Prop:=∀g∈l,∃a n c,V g.1=.slice a n c
theorem Qb1.slices{w:World}{X:Nat}{bx:Nat}{s:Qt}{B:Nat->Nat}{v h:Value}(hi:Qb1 w X S F bx K s B V v h):Qgr V s.held:=fun g hg=>by
 obtain⟨a,cap,e⟩:=(Reads.qn (hi.rows g hg).1).shape;exact⟨a,_,cap,e⟩
theorem qmw(b g:Nat)(h:Int)(a:Option Addr)(n c:Nat)(w:World)(hb:w.cell? ⟨b,0,none⟩=some (.int .i64 h))(hl:b<w.heap.size) :
  Calls Tryz.prog 113 #[.agg #[.int .i64 g,.slice a n c],.pointer (some ⟨b,0,none⟩)] w fun e w'=>e=.returned (.bool (decide ((g:Int)=h)))/\Below w.heap.size w w':=by
 have hb':(w.alloc (.cells #[.int .i64 g,.slice a n c] 142)).cell? ⟨b,0,none⟩=some (.int .i64 h):=by rw[qJ hl];exact hb
 have HB:Hid (Below w.heap.size w (w.alloc (.cells #[.int .i64 g,.slice a n c] 142))):=(Below.refl _ _).alloc (Nat.le_refl _) _;clear hb;go_enter Tryz.func113,Tryz.ntmps113
 go_wp2;go_ret;exact⟨rfl,HB.out⟩
theorem Qj1(b:Nat)(h:Int)(V:Nat->Value)(l:List (Nat×Tm.Zr))(vh:Value)(w:World)(hrd:Reads w vh 2 l.length (qa6 V l))(hV:Qgr V l)(hl:l.length<=1000)(hb:w.cell? ⟨b,0,none⟩=some (.int .i64 h))(hbl:b<w.heap.size) :
  Calls Tryz.prog 112 #[vh,.func (.func 113) #[] #[.pointer (some ⟨b,0,none⟩)]] w fun e w'=>e=.returned (.int .i64 (qa5 l h))/\Below w.heap.size w w':=by
 obtain⟨a,cap,rfl⟩:=hrd.shape;have HC:Hid (∀k (hk:k<l.length),_):=fun k hk=>qmv hrd hk;have HV:=qb hV;have HBC:=qb hb;have QxF:=qb (fun k (hk:k<l.length)=>qof (l:=l) (h:=h) hk);have HNO:=qb (qqz (l:=l) (h:=h));generalize qa5 l h=pl at *;clear hrd hV hb;go_enter Tryz.func112,Tryz.ntmps112
 go_wp2;go_loopw [8] (fun i wr=>∃k:Nat,k<=l.length/\i=.int .i64 k/\Hid (∀j (hj:j<l.length),j<k->(l[j].1:Int)≠h)/\Hid (Below w.heap.size w wr)) (fun i _=>l.length-(intOf i).toNat)
 case atStart=>exact⟨0,Nat.zero_le _,rfl,fun j _ hj=>by omega,Below.refl _ _⟩
 case round =>
  obtain⟨k,hk,rfl,HN,HB⟩:=hrel;have hz:=HB.out.size;by_cases hlt:k<l.length
  ·obtain⟨g,off,rfl,hg,c0,c1⟩:=HC.out k hlt;obtain⟨va,vn,vc,hve⟩:=HV.out l[k] (List.getElem_mem hlt);rw[hve]at c1;have hc:∀o,wr.cell? ⟨g,o,none⟩=w.cell? ⟨g,o,none⟩:=fun o=>HB.out.cell (p:=⟨g,o,none⟩) hg;rw[<-hc]at c0 c1;have HY:Hid ((l[k].1:Int)=h->pl=k):=fun e=>QxF.out k hlt e (fun j hj=>HN.out j (by omega) hj)
   have HS:Hid ((l[k].1:Int)≠h->∀j (hj:j<l.length),j<k+1->(l[j].1:Int)≠h):=fun e j hj hjk=>by
    by_cases hjk2:j<k
    ·exact HN.out j hj hjk2
    ·have:j=k:=by omega
     subst this;exact e
   have hbw:wr.cell? ⟨b,0,none⟩=some (.int .i64 h):=by rw[HB.out.cell (p:=⟨b,0,none⟩) hbl];exact HBC.out
   have CC:=qb (qmw b l[k].1 h va vn vc wr hbw (by omega));generalize l[k].1=x at *;clear hc hve hbw HC HV HBC QxF;go_wp2_with fail
   refine CC.out.mono ?_;rintro e w1 ⟨rfl,hb1⟩;have HB1:Hid (Below w.heap.size w w1):=HB.out.trans (hb1.mono hz);clear hb1;by_cases hx:(x:Int)=h
   ·have hd:decide ((x:Int)=h)=true:=by simpa using hx
    have HE:=qb (HY.out hx);rw[hd];clear hx hd;go_wp2;go_ret;exact⟨by rw[HE.out];rfl,HB1.out⟩
   ·have hd:decide ((x:Int)=h)=false:=by simpa using hx
    have HE:=qb (HS.out hx);rw[hd];clear hx hd;go_wp2;go_roundw
    case rel=>exact⟨k+1,by omega,by go_num,HE.out,HB1.out⟩
    case measure=>simp[intOf];omega
  ·have HE:Hid (pl=-1):=HNO.out (fun j hj=>HN.out j hj (by omega));clear HC HV;go_wp2;go_ret;exact⟨by rw[HE.out];rfl,HB.out⟩
theorem qmx(h:Int)(V:Nat->Value)(l:List (Nat×Tm.Zr))(vh:Value)(w:World)(hrd:Reads w vh 2 l.length (qa6 V l))(hV:Qgr V l)(hl:l.length<=1000) :
  Calls Tryz.prog 69 #[vh,.int .i64 h] w fun e w'=>e=.returned (.int .i64 (qa5 l h))/\Below w.heap.size w w':=by
 have HB:Hid (Below w.heap.size w (w.alloc (.cells #[.int .i64 h] 3))):=(Below.refl _ _).alloc (Nat.le_refl _) _;have HI:=qb (Qj1 w.heap.size h V l vh (w.alloc (.cells #[.int .i64 h] 3)) (hrd.below HB.out hrd.2.1) hV hl (by rw[ql rfl];rfl) (by simp));obtain⟨a,cap,rfl⟩:=hrd.shape;clear hrd hV;go_enter Tryz.func69,Tryz.ntmps69
 go_wp2_with fail
 refine HI.out.mono ?_;rintro e w1 ⟨rfl,hb1⟩;have HB1:Hid (Below w.heap.size w w1):=HB.out.trans (hb1.mono (by simp));clear hb1;go_wp2;go_ret;exact⟨rfl,HB1.out⟩
def qeJ(s:Qt)(h:Int):Option Tm.Zr:=if h=0 then some s.now else(s.held[qao s h]?).map (·.2)
theorem qmy(s:Qt)(h:Int):qa5 s.held h=if qao s h<s.held.length then(qao s h:Int)else -1:=rfl
theorem qmz{X:Nat}{bx:Nat}{s:Qt}{B:Nat->Nat}{v vh:Value}(h:Int)(w:World)(hi:Qb1 w X S F bx K s B V v vh)(hl:bx<w.heap.size)(hlen:s.held.length<=8)(h0:h≠0) :
  Calls Tryz.prog 61 #[.pointer (some ⟨bx,0,none⟩),.int .i64 h] w fun e w'=>(e=.returned (if hlt:qao s h<s.held.length then .tuple #[V s.held[qao s h].1,.int .i64 0]else .tuple #[.slice none 0 0,.int .i64 9]))/\Below w.heap.size w w':=by
 have hrd:=Reads.qn hi.held;have HF:=qb (qmx h V s.held vh w hrd hi.slices (by omega));rw[qmy]at HF;have c2:=hi.c2
 have hne:((h:Int) == 0)=false:=by simpa using h0
 obtain⟨a,cap,rfl⟩:=hrd.shape;by_cases hlt:qao s h<s.held.length
 ·rw[dif_pos hlt];rw[if_pos hlt]at HF;have HC:Hid (∀w',Below w.heap.size w w'->_):=fun w' hb=>qmv (hrd.below hb hrd.2.1) hlt;obtain⟨va,vn,vc,hve⟩:=hi.slices s.held[qao s h] (List.getElem_mem hlt);rw[hve]at HC⊢;generalize s.held[qao s h].1=x at *;generalize qao s h=k at *
  have i1:¬((k:Int)<0):=by omega
  have i2:(0:Int)<=(k:Int):=by omega
  have i3:(k:Int)<(s.held.length:Int):=by omega
  clear hi hrd hve;go_enter Tryz.func61,Tryz.ntmps61
  go_wp2_with fail
  refine HF.out.mono ?_;rintro e w1 ⟨rfl,hb1⟩;have HB1:=qb hb1;obtain⟨g,off,rfl,hg,x0,x1⟩:=HC.out w1 hb1
  have c21:w1.cell? ⟨bx,2,none⟩=some (.slice (some ⟨g,off,none⟩) s.held.length cap):=by rw[hb1.cell (p:=⟨bx,2,none⟩) hl];exact c2
  clear hb1 c2;go_wp2;go_ret2;exact⟨rfl,HB1.out⟩
 ·rw[dif_neg hlt];rw[if_neg hlt]at HF;clear hi hrd;go_enter Tryz.func61,Tryz.ntmps61
  go_wp2_with fail
  refine HF.out.mono ?_;rintro e w1 ⟨rfl,hb1⟩;have HB1:=qb hb1;clear hb1;go_wp2;go_ret2;exact⟨rfl,HB1.out⟩
