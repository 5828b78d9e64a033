import Derived.Lib.Bytealg
import Derived.Laws.Externs
import Derived.Test.YtmnjjjhmnhfapaaGreatDoorMSorts
namespace Go.Proofs.YtmnjjjhmnhfapaaGreatDoor
set_option maxRecDepth 100000
set_option maxHeartbeats 1000000
open Go.RowKit
variable {w:World}{G:Nat}{l:List UInt8}
theorem qiq(s:ByteArray)(c:UInt8)(w:World):(callFunc 210 #[.string s,.int .u8 c.toNat]).run Tryz.prog w=.ok (.value (.int .i64 (Lib.indexByte s.data.toList c))) w:=by
 rw[run_callFunc_extern Tryz.func210 (by kernel_rfl) (by kernel_rfl) (by kernel_rfl) (show Extern.find _=some Extern.BytealgIndexByte.indexByte by kernel_rfl),Lib.run_indexByteString];simp
theorem qm6(s:ByteArray)(c:UInt8)(w:World):(callFunc 214 #[.string s,.int .u8 c.toNat]).run Tryz.prog w=.ok (.value (.int .i64 (Lib.countByte s.data.toList c))) w:=by
 rw[run_callFunc_extern Tryz.func214 (by kernel_rfl) (by kernel_rfl) (by kernel_rfl) (show Extern.find _=some Extern.BytealgCount.count by kernel_rfl),Lib.run_countString];simp
theorem qgH(s:ByteArray)(c:UInt8)(w:World):Calls Tryz.prog 198 #[.string s,.int .u8 c.toNat] w fun e w'=>e=.returned (.int .i64 (Lib.indexByte s.data.toList c))/\w'=w:=by
 have h:=qiq s c w;go_enter Tryz.func198,Tryz.ntmps198
 go_wp2;go_ret;exact⟨rfl,rfl⟩
theorem qkd(c:UInt8)(s:ByteArray)(h:([c] == s.toList)=true):Lib.indexByte s.data.toList c=0:=by
 rw[ByteArray.toList_eq]at h;have:s.data.toList=[c]:=(by simpa using h: [c]=s.data.toList).symm;rw[this];simp[Lib.indexByte]
theorem qb6(s:ByteArray)(c:UInt8)(w:World):Calls Tryz.prog 187 #[.string s,.string ⟨#[c]⟩] w fun e w'=>e=.returned (.int .i64 (Lib.indexByte s.data.toList c))/\w'=w:=by
 cases he:([c] == s.toList)
 ·go_enter Tryz.func187,Tryz.ntmps187
  go_wp2_with fail
  refine(qgH s c _).mono ?_;rintro e w' ⟨rfl,rfl⟩;go_wp2;go_ret;exact⟨rfl,rfl⟩
 ·have HI:=qb (qkd c s he);go_enter Tryz.func187,Tryz.ntmps187
  go_wp2;go_ret;exact⟨yf HI.out.symm,rfl⟩
theorem qm7(s:ByteArray)(c:UInt8)(w:World):Calls Tryz.prog 204 #[.string s,.string ⟨#[c]⟩] w fun e w'=>e=.returned (.int .i64 (Lib.indexByte s.data.toList c))/\w'=w:=by
 go_enter Tryz.func204,Tryz.ntmps204
 go_wp2_with fail
 refine(qb6 s c _).mono ?_;rintro e w' ⟨rfl,rfl⟩;go_wp2;go_ret;exact⟨rfl,rfl⟩
theorem qm8(s:ByteArray)(c:UInt8)(w:World):Calls Tryz.prog 203 #[.string s,.string ⟨#[c]⟩] w fun e w'=>e=.returned (.int .i64 (Lib.countByte s.data.toList c))/\w'=w:=by
 have h:(callFunc 214 #[.string s,.int .u8 (((ByteArray.mk #[c])[0]'(by show 0<1;omega)).toNat)]).run Tryz.prog w=.ok (.value (.int .i64 (Lib.countByte s.data.toList c))) w:=qm6 s c w;go_enter Tryz.func203,Tryz.ntmps203
 go_wp2;go_ret;exact⟨rfl,rfl⟩
theorem qip(c:UInt8)(l:List UInt8):(Lib.indexByte l c=-1/\Tm.split c l=[l]/\l.count c=0)\/(∃m:Nat,Lib.indexByte l c=m/\m<l.length/\Tm.split c l=l.take m::Tm.split c (l.drop (m+1))/\l.count c=1+(l.drop (m+1)).count c):=by
 induction l with
 | nil=>left;simp[Lib.indexByte,Tm.split]
 | cons x r ih =>
  by_cases hx:x=c
  ·subst hx;right;refine⟨0,by simp[Lib.indexByte],by simp,by simp[Tm.split],by simp;omega⟩
  ·have hxc:(x == c)=false:=by simp[hx]
   rcases ih with⟨h1,h2,h3⟩|⟨m,h1,h2,h3,h4⟩
   ·left;refine⟨by simp[Lib.indexByte,hxc,h1],?_,by rw[List.count_cons,h3];simp[hx]⟩;rw[Tm.qc3,if_neg hx,h2]
   ·right;refine⟨m+1,?_,by simp;omega,?_,?_⟩
    ·have hne:((Lib.indexByte r c) == -1)=false:=by rw[beq_eq_false_iff_ne];omega
     simp only[Lib.indexByte,hxc,hne];rw[h1];simp
    ·rw[Tm.qc3,if_neg hx,h3];simp
    ·rw[List.count_cons,h4];simp[hx]
theorem qpa{j:Nat}{cur:Array Value}{e:TypeId}{fr:Nat×Nat}(h:w.heap[G]?=some (.cells cur e fr))(u:Value):(w.setCell ⟨G,j,none⟩ u).heap[G]?=some (.cells (cur.setIfInBounds j u) e fr):=by
 simp[World.setCell,Array.getElem?_modify,h]
structure Qap(w:World)(G:Nat)(c:UInt8)(l:List UInt8)(k:Nat)(r:List UInt8)(wr:World):Prop where
 below:Below G w wr
 room:G<wr.heap.size
 row:∃(cur:Array Value) (bs:List ByteArray),wr.heap[G]?=some (.cells cur 9 (0,0))/\cur.size=l.count c+1/\bs.length=k/\cur.toList.take k=bs.map Value.string/\Tm.split c l=bs.map (·.data.toList)++Tm.split c r
 count:l.count c=k+r.count c
theorem Qap.cell{c:UInt8}{k:Nat}{r:List UInt8}{wr:World}(h:Qap w G c l k r wr):∃u,wr.cell? ⟨G,k,none⟩=some u/\wr.frozen? ⟨G,k,none⟩=false:=by
 obtain⟨cur,bs,h1,h2,h3,h4,h5⟩:=h.row
 have hk:k<cur.size:=by rw[h2,h.count];omega
 refine⟨cur[k],?_,by simp[World.frozen?,h1]⟩;rw[cell_of_row wr G k cur _ _ h1];simp[hk]
theorem Qap.step{c:UInt8}{k m:Nat}{s:ByteArray}{wr:World}(h:Qap w G c l k s.data.toList wr)(hm:Tm.split c s.data.toList=s.data.toList.take m::Tm.split c (s.data.toList.drop (m+1)))(hc:s.data.toList.count c=1+(s.data.toList.drop (m+1)).count c) :
  Qap w G c l (k+1) (s.extract (m+1) s.size).data.toList (wr.setCell ⟨G,k,none⟩ (.string (s.extract 0 m))):=by
 obtain⟨cur,bs,h1,h2,h3,h4,h5⟩:=h.row
 have hk:k<cur.size:=by rw[h2,h.count];omega
 have e1:(s.extract (m+1) s.size).data.toList=s.data.toList.drop (m+1):=by
  rw[vN,List.take_of_length_le (by rw[List.length_drop,zI];omega)]
 rw[e1];refine⟨h.below.setCell (by simp) _,by simpa[World.setCell]using h.room,⟨_,bs++[s.extract 0 m],qpa h1 _,by simpa using h2,by simp[h3],?_,?_⟩,by rw[h.count,hc];omega⟩
 ·rw[List.take_succ_eq_append_getElem (by simpa using hk)];simp only[Array.toList_setIfInBounds,List.take_set,List.map_append,List.map_cons,List.map_nil];rw[List.set_eq_of_length_le (by simp;omega),h4];simp
 ·rw[h5,hm,List.map_append,List.append_assoc];simp
theorem qm9(s:ByteArray)(c:UInt8)(w:World)(hs:s.size<=8192):Calls Tryz.prog 188 #[.string s,.string ⟨#[c]⟩,.int .i64 0,.int .i64 (-1)] w fun e w' =>
  ∃(v:Value) (bs:List ByteArray),e=.returned v/\Reads w' v 1 bs.length (bs.map Value.string)/\bs.map (·.data.toList)=Tm.split c s.data.toList/\(∀g,v.ownBlock=some g->w.heap.size<=g)/\Below w.heap.size w w':=by
 obtain⟨i0,hi,hz0,hz1,hz2⟩:=info_parts (show(Tryz.prog.info? 9).map (fun i=>(i.zero,i.size,i.bytes))=some (some (.string ByteArray.empty),1,16) by kernel_rfl)
 have hcn:Lib.countByte s.data.toList c<=s.size:=by
  unfold Lib.countByte;have:=List.count_le_length (a:=c) (l:=s.data.toList);rw[zI]at this;exact this
 have qqg:([c]:List UInt8).isEmpty=false:=rfl
 have qgo:min ((Lib.countByte s.data.toList c:Int)+1) ((s.size:Int)+1)=(Lib.countByte s.data.toList c:Int)+1:=by omega
 go_enter Tryz.func188,Tryz.ntmps188
 go_wp2_with fail
 refine(qm8 s c _).mono ?_;rintro e w1 ⟨rfl,rfl⟩;generalize hN:Lib.countByte s.data.toList c=N at *;have HN:=qb hN;clear hN;go_wp2_with (at_make;go_must (refine wpList_make_full _ rfl _ _ 22 rfl w1.heap.size 9 i0 (.string ByteArray.empty) 1 Tryz.underlying22 hi hz0 hz1 _ _ _ _ (N+1) rfl rfl (by omega) (by omega) (by rw[hz2];omega) (by unfold maxLen;omega) (Nat.le_refl _) ?_))
 intro w2 qp qdH
 have hst:Qap w1 w1.heap.size c s.data.toList 0 s.data.toList w2:=by
  rcases qp.2 with⟨hv,_⟩|⟨g,cap,cur,hv,hb,hg,qV,qpQ,hsz,ht⟩
  ·cases hv
  ·cases hv;exact⟨(Below.refl _ _).grown qdH (Nat.le_refl _) (fun k hk=>by cases hk),(Array.getElem?_eq_some_iff.1 hg).1,⟨cur,[],hg,by rw[hsz,<-HN.out];simp[Lib.countByte],rfl,by simp,by simp⟩,by simp⟩
 clear qp qdH;go_wp2_with fail
 go_loopw [0,10] (fun sv i wr=>∃(k:Nat) (r:ByteArray),sv=.string r/\i=.int .i64 k/\k<=N/\r.size<=s.size/\Qap w1 w1.heap.size c s.data.toList k r.data.toList wr) (fun _ i _=>N-(intOf i).toNat)
 case atStart=>exact⟨0,s,rfl,rfl,Nat.zero_le _,Nat.le_refl _,hst⟩
 case round =>
  obtain⟨k,r,rfl,rfl,hk,hrs,hS⟩:=hrel;obtain⟨u,cu,fu⟩:=hS.cell;have qc7:=hS.count;rw[show s.data.toList.count c=N from HN.out]at qc7;have HS:=qb hS;by_cases hlt:k<N
  ·rcases qip c r.data.toList with⟨_,_,h0⟩|⟨m,h1,h2,h3,h4⟩
   ·exfalso;omega
   ·rw[zI]at h2;have HST:=qb (hS.step h3 h4);have HI:=qb h1;clear hS hst qc7 h1 h3 h4;go_wp2_with fail
    refine(qm7 r c _).mono ?_;rintro e w3 ⟨rfl,rfl⟩;rw[HI.out];go_wp2;go_roundw
    case rel=>exact⟨k+1,r.extract (m+1) r.size,rfl,by go_num,by omega,by simp;omega,HST.out⟩
    case measure=>simp[intOf];omega
  ·have hkN:k=N:=by omega
   rcases qip c r.data.toList with⟨_,hsp,h0⟩|⟨m,h1,h2,h3,h4⟩
   ·obtain⟨cur,bs,e1,e2,e3,e4,e5⟩:=hS.row
    have qbB:Hid (∃bs:List ByteArray,bs.length=N+1/\Reads (wr.setCell ⟨w1.heap.size,k,none⟩ (.string r)) (.slice (some ⟨w1.heap.size,0,none⟩) (N+1) (N+1)) 1 bs.length (bs.map Value.string)/\bs.map (·.data.toList)=Tm.split c s.data.toList):=by
     refine⟨bs++[r],by simp[e3,hkN],?_,by rw[e5,hsp];simp⟩
     have hsz:cur.size=N+1:=by rw[e2];rw[show s.data.toList.count c=N from HN.out]
     have hl:(bs++[r]).length=N+1:=by simp[e3,hkN]
     rw[hl];refine⟨by simp[e3,hkN],fun g hg=>?_,_,_,rfl,⟨Nat.le_refl _,by unfold maxLen;omega⟩,fun j x hx=>⟨w1.heap.size,0,rfl,?_⟩⟩
     ·simp[Value.ownBlock]at hg;have:=hS.room;simp[World.setCell];omega
     ·rw[cell_of_row _ _ (0+j) _ _ _ (qpa e1 _)];rw[Nat.zero_add];by_cases hj:j<k
      ·have:cur.toList[j]?=some x:=by
        have h:=congrArg (fun l=>l[j]?) e4;simp only[List.getElem?_take,hj,if_true]at h;rw[h,<-hx,List.map_append,List.getElem?_append_left (by simp[e3];exact hj)]
       rw[Array.getElem?_setIfInBounds_ne (by omega)];simpa using this
      ·have hj2:j=k:=by
        have:=(List.getElem?_eq_some_iff.1 hx).1;simp[e3]at this;omega
       subst hj2;rw[Array.getElem?_setIfInBounds_self_of_lt (by omega)];rw[<-hx,List.map_append,List.getElem?_append_right (by simp[e3])];simp[e3]
    have HB:Hid (Below w1.heap.size w1 (wr.setCell ⟨w1.heap.size,k,none⟩ (.string r))):=hS.below.setCell (by simp) _;clear hS hst qc7 h0 hsp e1 e2 e3 e4 e5;subst hkN;go_wp2;go_ret;obtain⟨bs,hb1,hb2,hb3⟩:=qbB.out;exact⟨.slice (some ⟨w1.heap.size,0,none⟩) (k+1) (k+1),bs,rfl,hb2,hb3,fun g hg=>by simp[Value.ownBlock]at hg;omega,HB.out⟩
   ·exfalso;omega
theorem Qga(s:ByteArray)(c:UInt8)(w:World)(hs:s.size<=8192):Calls Tryz.prog 177 #[.string s,.string ⟨#[c]⟩] w fun e w' =>
  ∃(v:Value) (bs:List ByteArray),e=.returned v/\Reads w' v 1 bs.length (bs.map Value.string)/\bs.map (·.data.toList)=Tm.split c s.data.toList/\(∀g,v.ownBlock=some g->w.heap.size<=g)/\Below w.heap.size w w':=by
 go_enter Tryz.func177,Tryz.ntmps177
 go_wp2_with fail
 refine(qm9 s c _ hs).mono ?_;rintro e w1 ⟨v,bs,rfl,h1,h2,h3,h4⟩;have H:=qb (And.intro h1 (And.intro h2 (And.intro h3 h4)));clear h1 h2 h3 h4;go_wp2;go_ret;exact⟨v,bs,rfl,H.out⟩
