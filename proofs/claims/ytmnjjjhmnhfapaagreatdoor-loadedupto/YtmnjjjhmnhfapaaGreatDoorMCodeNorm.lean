import Derived.Test.YtmnjjjhmnhfapaaGreatDoorMCodeArr
namespace Go.Proofs.YtmnjjjhmnhfapaaGreatDoor
set_option maxRecDepth 100000
set_option maxHeartbeats 4000000
open Go.RowKit
variable {s:ByteArray}
theorem qsd{w:World}{r:Nat}{pos:Nat}(hr:w.heap[r]?=some (.stringIter s pos))(h:pos<s.size) :
  ∃wn:World,(∀ty,(Instr.next (.pointer (some ⟨r,0,none⟩)) true ty).run Tryz.prog w=.ok (.tuple #[.bool true,.int .i64 pos,.int .i32 (Utf8.decode s pos).1]) wn)/\wn.heap.size=w.heap.size/\wn.heap[r]?=some (.stringIter s (pos+(Utf8.decode s pos).2))/\(∀k,k≠r->wn.heap[k]?=w.heap[k]?)/\wn.os=w.os/\wn.tape=w.tape/\wn.output=w.output:=by
 have hlt:=(Array.getElem?_eq_some_iff.1 hr).1;refine⟨{w with heap:=w.heap.setIfInBounds r (.stringIter s (pos+(Utf8.decode s pos).2))},fun ty=>?_,by simp,by simp[hlt],fun k hk=>by simp only[Array.getElem?_setIfInBounds];rw[if_neg (by omega)],rfl,rfl,rfl⟩;simp only[Instr.next,getObj,setObj,Sem.run_bind,Sem.run,hr,Result.andThen,h,if_true];simp[goInt]
theorem qse{w:World}{r:Nat}{pos:Nat}(hr:w.heap[r]?=some (.stringIter s pos))(h:¬pos<s.size)(ty:TypeId) :
  (Instr.next (.pointer (some ⟨r,0,none⟩)) true ty).run Tryz.prog w=.ok (.tuple #[.bool false]) w:=by
 simp[Instr.next,getObj,Sem.run,hr,h]
theorem qt7{l m:List Int}{f:Int->List Int}:(l++m).flatMap f=l.flatMap f++m.flatMap f:=List.flatMap_append
theorem qdp{lns:List Tm.Ln}(qR:∀o∈lns,Tm.Fit o):∀(n:Nat) (r:Int),0<=r/\r<=1114111->∀x∈Tm.expand lns n r,0<=x/\x<=1114111
 | 0,r,hr,x,hx=>by simp[Tm.expand]at hx;subst hx;exact hr
 | n+1,r,hr,x,hx=>by
  rw[Tm.expand]at hx;split at hx
  ·simp at hx;subst hx;exact hr
  ·obtain⟨y,hy,hx⟩:=List.mem_flatMap.1 hx;exact qdp qR n y (qeh qR r y hy) x hx
theorem qbU(lns:List Tm.Ln)(qR:∀o∈lns,Tm.Fit o)(xB:∀r,Tm.ends lns 4 r=true)(bm:Nat)(s:ByteArray)(w:World)(hs:s.size<=64)(hrd:ZX w bm lns) :
  Calls Tryz.prog 86 #[.map (some bm),.string s] w fun e w'=>∃v,e=.returned v/\w'.ownsRow (w.heap.size+1) 3 1 v (zq lns s).length (ints (zq lns s))/\Below w.heap.size w w':=by
 have HRD:=qb hrd;have Qe4:=qb qR;have QiE:=qb xB;clear hrd xB;go_enter Tryz.func86,Tryz.ntmps86
 go_wp2_with fail
 have h0a:(w.iter s 0).heap[w.heap.size]?=some (.stringIter s 0):=World.iter_heap w s 0;have h0b:Below w.heap.size w (w.iter s 0):=(Below.refl _ _).alloc (Nat.le_refl _) _
 have h0c:w.heap.size+1<=(w.iter s 0).heap.size:=by simp[World.iter]
 have H0:=qb (And.intro h0a (And.intro h0b h0c));clear h0a h0b h0c;have HSH:=qb (Tm.qfh (lns:=lns) (fun q=>qcp qR q) 4);go_loopw [5] (fun v wr=>∃(pos:Nat) (ds:List Int),wr.heap[w.heap.size]?=some (.stringIter s pos)/\ds++runesFrom s s.size pos=jR s/\ds.length<=pos/\wr.ownsRow (w.heap.size+1) 3 1 v (ds.flatMap (Tm.expand lns 4)).length (ints (ds.flatMap (Tm.expand lns 4)))/\Below w.heap.size w wr/\w.heap.size+1<=wr.heap.size) (fun _ wr=>s.size-wr.iterPos w.heap.size)
 case atStart=>exact⟨0,[],H0.out.1,rfl,Nat.le_refl _,World.ownsRow_nil _ _ _ _,H0.out.2.1,H0.out.2.2⟩
 case round =>
  obtain⟨pos,ds,hit,hds,hdl,qp,hb,hz⟩:=hrel;have HIT:=qb hit;have HDS:=qb hds;have HO:=qb qp;have HB:=qb hb
  have HIP:Hid (wr.iterPos w.heap.size=pos):=by unfold Hid World.iterPos;rw[hit]
  by_cases hp:pos<s.size
  ·obtain⟨wn,hnx,hnz,hnr,hno,n1,n2,n3⟩:=qsd hit hp;have hw:=decide_eq_true (p:=True) trivial;have hwd:=qdq s pos hp;have qyF:=qhm s pos;have Qg2:=qb (qjR hp);have HBn:Hid (Below w.heap.size w wn):=HB.out.trans ⟨n1,n2,n3,by omega,fun k hk=>hno k (by omega)⟩;have HOn:=qb (qO (w':=wn) HO.out (fun k hk=>hno k (by have:=(HO.out.lt k hk).1;omega)));have HNR:=qb hnr;have HNB:Hid (NB lns bm (w.heap.size+1) wn):=⟨w,HRD.out,HBn.out,by omega⟩
   have hlen:(ds.flatMap (Tm.expand lns 4)).length+2 ^ 4<=100000:=by
    have h1:=HSH.out ds
    have h2:ds.length<=64:=by omega
    have h3:=Nat.mul_le_mul_right (2 ^ 4) h2;omega
   obtain⟨x,hx⟩:∃x:Int,((Utf8.decode s pos).1:Int)=x:=⟨_,rfl⟩
   have hx0:0<=x/\x<=1114111:=by omega
   rw[hx]at hnx Qg2;generalize (Utf8.decode s pos).2=wd at *;clear hit hds qp hb hno n1 n2 n3 hnr hx qyF hw;go_wp2_with fail
   refine(qiU lns qR bm (w.heap.size+1) 4 x _ (ds.flatMap (Tm.expand lns 4)) wn (QiE.out x) hx0 HNB.out HOn.out (by omega) hlen).mono ?_;rintro e w3 ⟨v3,rfl,zR,hb3⟩;have hz3:=hb3.size
   have e1:(ds++[x]).flatMap (Tm.expand lns 4)=ds.flatMap (Tm.expand lns 4)++Tm.expand lns 4 x:=by rw[qt7];simp
   have HO3:Hid (w3.ownsRow (w.heap.size+1) 3 1 v3 ((ds++[x]).flatMap (Tm.expand lns 4)).length (ints ((ds++[x]).flatMap (Tm.expand lns 4)))):=by unfold Hid;rw[e1];exact zR
   have Qxt:Hid (w3.heap[w.heap.size]?=some (.stringIter s (pos+wd))):=by unfold Hid;rw[hb3.block _ (by omega)];exact HNR.out
   have HB3:Hid (Below w.heap.size w w3):=HBn.out.trans (hb3.mono (by omega))
   have QzD:Hid (ds++[x]++runesFrom s s.size (pos+wd)=jR s):=by unfold Hid;rw[<-HDS.out,Qg2.out];simp
   have QzE:Hid (w3.iterPos w.heap.size=pos+wd):=by unfold Hid World.iterPos;rw[Qxt.out]
   clear zR hb3 e1;go_wp2;go_roundw
   case rel=>exact⟨pos+wd,ds++[x],Qxt.out,QzD.out,by simp;omega,HO3.out,HB3.out,by omega⟩
   case measure=>rw[QzE.out,HIP.out];omega
  ·have HE:Hid (ds=jR s):=by have h:=hds;rw[vL (by omega),List.append_nil]at h;exact h
   have hnx:=fun ty=>qse hit hp ty;have HNB:Hid (NB lns bm (w.heap.size+1) wr):=⟨w,HRD.out,HB.out,by omega⟩
   obtain⟨xs,hxs⟩:∃xs,ds.flatMap (Tm.expand lns 4)=xs:=⟨_,rfl⟩
   rw[hxs]at HO
   have HNO:Hid (zq lns s=Tm.ord (Tm.qd lns) xs):=by unfold Hid zq;rw[<-HE.out,hxs]
   have HXR:Hid (∀x∈xs,0<=x/\x<=1114111):=fun x hx=>by
    rw[<-hxs,HE.out]at hx;obtain⟨y,hy,hx⟩:=List.mem_flatMap.1 hx;exact qdp qR 4 y (qbo y hy) x hx
   have hxl:xs.length<=100000:=by
    have h1:=HSH.out ds
    have h2:ds.length<=64:=by have h:=congrArg List.length hds;have h3:=qbp (s:=s) (f:=s.size) (pos:=0);simp[jR]at h;omega
    have h3:=Nat.mul_le_mul_right (2 ^ 4) h2;rw[<-hxs];omega
   have hol:=HO.out.2;clear hit hds qp hb hxs;rcases hol with⟨qt8,hx0⟩|⟨g,cap,cur,hsl,_⟩
   ·subst qt8;have hxe:xs=[]:=List.eq_nil_of_length_eq_zero hx0;subst hxe;have HN0:Hid (zq lns s=[]):=HNO.out;go_wp2_with fail
    refine(qlW bm _).mono ?_;rintro e w3 ⟨rfl,rfl⟩;go_wp2;go_ret;refine⟨_,rfl,?_,HB.out⟩;rw[HN0.out];exact World.ownsRow_nil _ _ _ _
   ·subst hsl;go_wp2_with fail
    refine(qnP lns qR bm (w.heap.size+1) g cap xs _ HXR.out HNB.out HO.out hz hxl).mono ?_;rintro e w3 ⟨rfl,zR,hb3⟩
    have HF:Hid (w3.ownsRow (w.heap.size+1) 3 1 (.slice (some ⟨g,0,none⟩) xs.length cap) (zq lns s).length (ints (zq lns s))):=by unfold Hid;rw[HNO.out,Tm.qcS];exact zR
    have HB3:Hid (Below w.heap.size w w3):=HB.out.trans (hb3.mono (by omega));clear zR hb3;go_wp2;go_ret;exact⟨_,rfl,HF.out,HB3.out⟩
def qg3(lns:List Tm.Ln)(s:ByteArray)(w:World)(e:Ending)(w':World):Prop :=
 if s.size<=64 then ∃v,e=.returned (.tuple #[v,.int .i64 0])/\w'.ownsRow (w.heap.size+1) 3 1 v (zq lns s).length (ints (zq lns s))/\Below w.heap.size w w' else e=.returned (.tuple #[.slice none 0 0,.int .i64 7])/\w'=w
theorem jo(s:ByteArray)(w:World):Calls Tryz.prog 84 #[.string s] w fun e w'=>e=.returned (.bool (decide (64<(s.size:Int))))/\w'=w:=by
 go_enter Tryz.func84,Tryz.ntmps84
 go_wp2;go_ret;exact⟨rfl,rfl⟩
