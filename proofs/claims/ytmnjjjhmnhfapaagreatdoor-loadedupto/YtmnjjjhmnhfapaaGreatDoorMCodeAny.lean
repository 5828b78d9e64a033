import Derived.Deep.RegionHeld3
import Derived.Maps.OwnOps
import Derived.Maps.OwnSet
import Derived.Maps.AppendAt
import Derived.Test.YtmnjjjhmnhfapaaGreatDoorMCodeNum
import Derived.Test.YtmnjjjhmnhfapaaGreatDoorMLibCut
namespace Go.Proofs.YtmnjjjhmnhfapaaGreatDoor
set_option maxRecDepth 100000
set_option maxHeartbeats 1000000
open Go.RowKit
variable {l:Tm.Ln}{e:TypeId}{bs:List ByteArray}{k b n B base bm bd:Nat}{p:ByteArray->Bool}{w w' u w2:World}{f:Int->Value}{r cl line:Int}{v vp vw pv sv:Value}{col jf:Nat->Int}{c:Int->Prop}{xs:List (Value×Value)}{ld:Bool}{ls lns:List Tm.Ln}
def ze(most:Int)(l:List UInt8):Bool:=decide (0<=Tm.num l/\Tm.num l<=most)
theorem qpA{l:List UInt8}{most:Int}{e:Ending}(h:ze most l=true)(ha:qbg l most e):e=.returned (.int .i64 (Tm.num l)):=by
 unfold qbg at ha;rw[if_pos (by simpa[ze]using h)]at ha;exact ha
theorem qrO{l:List UInt8}{most:Int}{e:Ending}(h:ze most l=false)(ha:qbg l most e):yU e 1:=by
 unfold qbg at ha;rw[if_neg (by simpa[ze]using h)]at ha;exact ha
theorem zW(s:ByteArray)(most:Int)(w:World)(hs:s.size<=maxLen)(h:ze most s.data.toList=true) :
  Calls Tryz.prog 205 #[.string s,.int .i64 most] w fun e w'=>e=.returned (.int .i64 (Tm.num s.data.toList))/\w'=w :=
 (qex s most w hs).mono fun _ _ hh=>⟨qpA h hh.1,hh.2⟩
theorem yR(s:ByteArray)(most:Int)(w:World)(hs:s.size<=maxLen)(h:ze most s.data.toList=false) :
  Calls Tryz.prog 205 #[.string s,.int .i64 most] w fun e w'=>yU e 1/\w'=w :=
 (qex s most w hs).mono fun _ _ hh=>⟨qrO h hh.1,hh.2⟩
theorem qda(s:ByteArray)(w:World)(hs:s.size<=maxLen)(h:ze 1114111 s.data.toList=true) :
  Calls Tryz.prog 189 #[.string s] w fun e w'=>e=.returned (.int .i64 (Tm.num s.data.toList))/\w'=w:=by
 go_enter Tryz.func189,Tryz.ntmps189
 go_wp2_with fail
 refine(zW s _ _ hs h).mono ?_;rintro e w' ⟨rfl,rfl⟩;go_wp2;go_ret;exact⟨rfl,rfl⟩
theorem qd8(s:ByteArray)(w:World)(hs:s.size<=maxLen)(h:ze 1114111 s.data.toList=false) :
  Calls Tryz.prog 189 #[.string s] w fun e w'=>yU e 1/\w'=w:=by
 go_enter Tryz.func189,Tryz.ntmps189
 go_wp2_with fail
 refine(yR s _ _ hs h).mono ?_;rintro e w' ⟨rfl,rfl⟩;go_wp2;exact⟨rfl,rfl,rfl⟩
def xY(l:List UInt8):Bool:=decide (1<=Tm.num l/\Tm.num l<=254)
theorem qfH(s:ByteArray)(w:World)(hs:s.size<=maxLen)(h:xY s.data.toList=true) :
  Calls Tryz.prog 190 #[.string s] w fun e w'=>e=.returned (.int .i64 (Tm.num s.data.toList))/\w'=w:=by
 have h1:1<=Tm.num s.data.toList/\Tm.num s.data.toList<=254:=by simpa[xY]using h
 have h2:ze 254 s.data.toList=true:=by simp[ze];omega
 go_enter Tryz.func190,Tryz.ntmps190
 go_wp2_with fail
 refine(zW s _ _ hs h2).mono ?_;rintro e w' ⟨rfl,rfl⟩;generalize hq:Tm.num s.data.toList=p at *;have HQ:=qb hq
 have hb:((p:Int) == 0)=false:=by rw[beq_eq_false_iff_ne];omega
 clear h h2 hq;go_wp2_with fail
 refine(zl 1 _).mono ?_;rintro e w' ⟨rfl,rfl⟩;go_wp2;go_ret;exact⟨yf HQ.out.symm,rfl⟩
theorem qdb(s:ByteArray)(w:World)(hs:s.size<=maxLen)(h:xY s.data.toList=false) :
  Calls Tryz.prog 190 #[.string s] w fun e w'=>yU e 1/\w'=w:=by
 cases h2:ze 254 s.data.toList
 ·go_enter Tryz.func190,Tryz.ntmps190
  go_wp2_with fail
  refine(yR s _ _ hs h2).mono ?_;rintro e w' ⟨rfl,rfl⟩;go_wp2;exact⟨rfl,rfl,rfl⟩
 ·have h1:0<=Tm.num s.data.toList/\Tm.num s.data.toList<=254:=by simpa[ze]using h2
  have h3:¬(1<=Tm.num s.data.toList/\Tm.num s.data.toList<=254):=by simpa[xY]using h
  go_enter Tryz.func190,Tryz.ntmps190
  go_wp2_with fail
  refine(zW s _ _ hs h2).mono ?_;rintro e w' ⟨rfl,rfl⟩;generalize Tm.num s.data.toList=p at *
  have hb:((p:Int) == 0)=true:=by rw[beq_iff_eq];omega
  clear h h2 h1 h3;go_wp2_with fail
  refine(zA 1 _).mono ?_;rintro e w' ⟨rfl,rfl⟩;go_wp2;exact⟨rfl,rfl,rfl⟩
def qbQ(bs:List ByteArray)(B:Nat)(e:Ending)(w':World):Prop :=
 if bs.all (fun b=>ze 1114111 b.data.toList)then ∃v,e=.returned v/\Reads w' v 1 bs.length (ints (bs.map fun b=>Tm.num b.data.toList))/\(∀g,v.ownBlock=some g->B<=g)else yU e 1
def qdc(bs:List ByteArray)(k:Nat):List Value:=ints ((bs.take k).map fun b=>Tm.num b.data.toList)
theorem qnN(h:k<bs.length):qdc bs (k+1)=qdc bs k++[.int .i64 (Tm.num bs[k].data.toList)]:=by
 unfold qdc ints;rw[List.take_succ_eq_append_getElem h,List.map_append,List.map_append];rfl
theorem qpB(h:bs.length<=k):qdc bs k=ints (bs.map fun b=>Tm.num b.data.toList):=by
 unfold qdc;rw[List.take_of_length_le h]
theorem qw2(h:(bs.take k).all p=true)(hk:k<bs.length)(hx:p bs[k]=true):(bs.take (k+1)).all p=true:=by
 rw[List.take_succ_eq_append_getElem hk,List.all_append,h];simp[hx]
theorem qw3(hk:k<bs.length)(hx:p bs[k]=false):bs.all p=false:=by
 rw[List.all_eq_false];exact⟨bs[k],List.getElem_mem hk,by simp[hx]⟩
theorem qfI(vs:Value)(bs:List ByteArray)(w:World)(hr:Reads w vs 1 bs.length (bs.map Value.string))(hl:bs.length<=8193)(hz:∀b∈bs,b.size<=8192) :
  Calls Tryz.prog 191 #[vs] w fun e w'=>qbQ bs w.heap.size e w'/\Below w.heap.size w w':=by
 obtain⟨a,cap,rfl⟩:=hr.shape;obtain⟨i0,hi,hz0,hz1,hz2⟩:=info_parts Tryz.qbR;have HR:=qb hr;have HZ:=qb hz;clear hr hz;go_enter Tryz.func191,Tryz.ntmps191
 go_wp2_with (at_make;go_must (refine wpList_make_own _ rfl _ _ 83 rfl w.heap.size 3 i0 (.int .i64 0) 1 Tryz.underlying83 hi hz0 hz1 _ _ _ bs.length rfl rfl (by omega) (by rw[hz2];omega) (by unfold maxLen;omega) (Nat.le_refl _) ?_))
 intro w1 qp qdH;have hb1:Below w.heap.size w w1:=(Below.refl _ _).grown qdH (Nat.le_refl _) (fun k hk=>by cases hk);clear qdH;go_wp2_with fail
 go_loopw [3,11] (fun v i wr=>∃k:Nat,k<=bs.length/\i=.int .i64 k/\(bs.take k).all (fun b=>ze 1114111 b.data.toList)=true/\wr.ownsRow w.heap.size 3 1 v k (qdc bs k)/\Below w.heap.size w wr) (fun _ i _=>bs.length-(intOf i).toNat)
 case atStart=>exact⟨0,Nat.zero_le _,rfl,rfl,qp,hb1⟩
 case round =>
  obtain⟨k,hk,rfl,qQ,j8,hb⟩:=hrel;obtain⟨av,cv,rfl⟩:=(Reads.qn j8).shape;have Qdd:=qb qQ;have HB:=qb hb;have hzr:=hb.size;by_cases hlt:k<bs.length
  ·obtain⟨g,off,rfl,hg,hc⟩:=qg1 (HR.out.below hb HR.out.2.1) hlt;have hsk:=HZ.out _ (List.getElem_mem hlt);have HTK:=qb (qnN hlt);cases hok:ze 1114111 bs[k].data.toList
   ·have HNO:=qb (qw3 (p:=fun b=>ze 1114111 b.data.toList) hlt hok);clear qQ hb qp hb1;go_wp2_with fail
    refine(qd8 bs[k] _ (by unfold maxLen;omega) hok).mono ?_;rintro e w' ⟨rfl,rfl⟩;go_wp2;exact⟨rfl,by unfold qbQ;rw[HNO.out];rfl,HB.out⟩
   ·have HA2:=qb (qw2 (p:=fun b=>ze 1114111 b.data.toList) qQ hlt hok);clear qQ hb qp hb1;go_wp2_with fail
    refine(qda bs[k] _ (by unfold maxLen;omega) hok).mono ?_;rintro e w2 ⟨rfl,rfl⟩;generalize Tm.num bs[k].data.toList=p at *;go_wp2_with (at_builtin;go_must (refine wpList_append_own _ rfl _ _ 83 rfl w.heap.size 3 i0 (.int .i64 0) 1 8 Tryz.underlying83 hi hz0 hz1 hz2 rfl (by decide) _ _ _ rfl (j8.alloc _) ⟨w2.heap.size,0,none⟩ 1 1 [.int .i64 p] rfl rfl qbS (by intro u hu;simp at hu;subst hu;rfl) (by unfold maxLen;omega) (by omega) (by simp;omega) ?_))
    intro v' w3 zR qfY _;have HB3:Hid (Below w.heap.size w w3):=(HB.out.alloc hzr _).grown qfY (by simp;omega) (fun j hj=>(j8.lt j hj).1)
    have HO3:Hid (w3.ownsRow w.heap.size 3 1 v' (k+1) (qdc bs (k+1))):=by unfold Hid;rw[HTK.out];exact zR
    clear zR qfY j8;go_wp2;go_roundw
    case rel=>exact⟨k+1,by omega,by go_num,HA2.out,HO3.out,HB3.out⟩
    case measure=>simp[intOf];omega
  ·have e1:bs.take k=bs:=List.take_of_length_le (by omega)
   have HF:Hid (qbQ bs w.heap.size (.returned (.slice av k cv)) wr):=by
    unfold Hid qbQ;rw[e1]at qQ;rw[qpB (by omega)]at j8;rw[qQ]
    have hk2:k=bs.length:=by omega
    subst hk2;exact⟨_,rfl,Reads.qn j8,fun g hg=>(j8.lt g hg).1⟩
   clear qQ hb qp hb1 j8 e1;go_wp2;go_ret;exact⟨HF.out,HB.out⟩
open Go.RowKit Go.Maps
def qoV(v:Value):Option (DataW Value×List MemPlace):=some (.held v,[])
def qde:Value:=.agg #[.int .i64 0,.slice none 0 0,.slice none 0 0]
theorem qrP:Keyed Tryz.prog 3:=int_keyed Tryz.underlying3
theorem qtz(w:World):(zeroValue 251).run Tryz.prog w=.ok qde w:=by kernel_rfl
def Yi(w:World)(b n:Nat)(f:Int->Value):Prop :=
 ∃D:DataW Value,w.ownsMap Tryz.prog 3 qoV b n D/\∀r,(Lit.int .i64 r).wf=true->D.atKey (.int .i64 r) (.held qde)=.held (f r)
def upd(f:Int->Value)(r:Int)(v:Value):Int->Value:=fun x=>if x=r then v else f x
theorem Yi.made(w:World):Yi (w.alloc (.map #[] 0)) w.heap.size 0 fun _=>qde :=
 ⟨_,World.ownsMap_made w _ _ _,fun _ _=>rfl⟩
theorem Yi.lt(h:Yi w b n f):b<w.heap.size:=by
 obtain⟨D,h,_⟩:=h;exact h.lt
theorem Yi.same(h:Yi w b n f)(hb:w'.heap[b]?=w.heap[b]?):Yi w' b n f:=by
 obtain⟨D,⟨es,c,hx,r⟩,hf⟩:=h;exact⟨D,⟨es,c,hb.trans hx,r⟩,hf⟩
theorem Yi.look(h:Yi w b n f)(hr:(Lit.int .i64 r).wf=true) :
  (Instr.lookup 168 (.map (some b)) (.int .i64 r) false).run Tryz.prog w=.ok (f r) w:=by
 obtain⟨D,h,hf⟩:=h;obtain⟨v,ps,zk,hv⟩:=h.lookup qrP (t:=168) (e:=251) (by kernel_rfl) (qtz w) (zd:=.held qde) (zp:=[]) rfl (keyOf_int_mk Tryz.underlying3 hr);rw[hf r hr]at hv;simp[qoV]at hv;rw[zk,hv.1]
theorem Yi.put(h:Yi w b n f)(hn:n<maxLen)(hr:(Lit.int .i64 r).wf=true)(v:Value) :
  ∃w',(Instr.mapUpdate 168 (.map (some b)) (.int .i64 r) v).run Tryz.prog w=.ok () w'/\Yi w' b (n+1) (upd f r v)/\w.grownBy w' (some b):=by
 obtain⟨D,h,hf⟩:=h;have him:=h.isMap;obtain⟨w',zk,qp,hg⟩:=h.update qrP (t:=168) (e:=251) (by kernel_rfl) hn (keyOf_int_mk Tryz.underlying3 hr) (val:=v) (d:=.held v) (ps:=[]) rfl;refine⟨w',zk,⟨_,qp,fun x hx=>?_⟩,hg⟩;unfold upd;by_cases e:x=r
 ·subst e;rw[if_pos rfl,atKey_put_same him (by simp[WideAt.IsKeyLit])]
 ·rw[if_neg e,atKey_put_other (by simpa using e),hf x hx]
theorem zQ{w:World}{ops:Array Oper}{rest:List Oper}{o:Oper}{a:Act}{Q:Exit->Act->World->Prop}
  (hg:o.guard=none) (m x:Operand) (hop:o.op=Op.lookup 168 m x false) (b n:Nat) (f:Int->Value)
  (hm:a.eval m=.map (some b)) (qp:Yi w b n f) (r:Int) (hx:a.eval x=.int .i64 r) (hr:(Lit.int .i64 r).wf=true) (v:Value) (hv:f r=v)
  (hK:wpList Tryz.prog ops Q rest (a.put o.dst v) w) :
  wpList Tryz.prog ops Q (o::rest) a w:=by
 refine wpList_plain hg fun K' hK'=>?_;have zk:=qp.look hr;subst hv;unfold Oper.wp;simp[execOp,hop,hm,hx,zk,Result.andThen];exact hK' _ _ hK
theorem yV(h:0<=r/\r<=1114111):(Lit.int .i64 r).wf=true:=WalkArith.wf_i64 (by omega)
structure QB(B b:Nat)(w w':World):Prop where
 os:w'.os=w.os
 tape:w'.tape=w.tape
 output:w'.output=w.output
 size:w.heap.size<=w'.heap.size
 block:∀k,k<B->k≠b->w'.heap[k]?=w.heap[k]?
theorem QB.refl(B b:Nat)(w:World):QB B b w w:=⟨rfl,rfl,rfl,Nat.le_refl _,fun _ _ _=>rfl⟩
theorem QB.of(h:Below B w w'):QB B b w w':=⟨h.os,h.tape,h.output,h.size,fun k hk _=>h.block k hk⟩
theorem QB.trans{v:World}(h:QB B b u v)(k:QB B b v w):QB B b u w :=
 ⟨k.os.trans h.os,k.tape.trans h.tape,k.output.trans h.output,Nat.le_trans h.size k.size,fun i hi hb=>(k.block i hi hb).trans (h.block i hi hb)⟩
theorem QB.then{v:World}(h:QB B b u v)(k:Below B v w):QB B b u w:=h.trans (QB.of k)
theorem QB.drew(h:QB B b u w):QB B b u w.drew:=⟨h.os,h.tape,h.output,h.size,h.block⟩
theorem QB.alloc(h:QB B b u w)(hB:B<=w.heap.size)(o:Obj):QB B b u (w.alloc o):=h.then ((Below.refl _ _).alloc hB o)
theorem QB.setCell(h:QB B b u w){p:Addr}(hp:B<=p.block)(v:Value):QB B b u (w.setCell p v):=h.then ((Below.refl _ _).setCell hp v)
theorem QB.grown{row:Option Nat}(h:QB B b u w)(hg:w.grownBy w' row)(hB:B<=w.heap.size)(hr:∀k,row=some k->B<=k\/k=b):QB B b u w' :=
 h.trans ⟨hg.os,hg.tape,hg.output,hg.size,fun k hk hb=>hg.block k (by omega) (fun e=>by rcases hr k e.symm with h|h<;>omega)⟩
theorem QB.cell(h:QB B b w w'){p:Addr}(hp:p.block<B)(hb:p.block≠b):w'.cell? p=w.cell? p:=World.cell?_of_block (h.block _ hp hb)
theorem QB.frozen{B b:Nat}{w w':World}(h:QB B b w w'){p:Addr}(hp:p.block<B)(hb:p.block≠b):w'.frozen? p=w.frozen? p:=World.frozen?_of_block (h.block _ hp hb)
theorem QB.below{B':Nat}(h:QB B b w w')(hB:B'<=B)(hb:B'<=b):Below B' w w':=⟨h.os,h.tape,h.output,h.size,fun k hk=>h.block k (by omega) (by omega)⟩
structure ZS(w w':World)(col jf:Nat->Int)(c:Int->Prop):Prop where
 size:w.heap.size<=w'.heap.size
 block:∀g,g<w.heap.size->c (col g)->w'.heap[g]?=w.heap[g]?
 same:∀g,g<w.heap.size->jf g=col g
theorem ZS.below(h:Below w.heap.size w w'):ZS w w' col col c:=⟨h.size,fun g hg _=>h.block g hg,fun _ _=>rfl⟩
theorem ZS.grown{c0:Int}(h:w.grownBy w' (some b))(hb:col b=c0):ZS w w' col col (· ≠c0) :=
 ⟨h.size,fun g hg hc=>h.block g hg (fun e=>by cases e;exact hc hb),fun _ _=>rfl⟩
theorem ZS.trans{a b d:World}{c1 c2 c3:Nat->Int}(h:ZS a b c1 c2 c)(k:ZS b d c2 c3 c):ZS a d c1 c3 c :=
 ⟨Nat.le_trans h.size k.size,fun g hg hc=>(k.block g (Nat.lt_of_lt_of_le hg h.size) (by rw[h.same g hg];exact hc)).trans (h.block g hg hc),fun g hg=>(k.same g (Nat.lt_of_lt_of_le hg h.size)).trans (h.same g hg)⟩
def jB(col:Nat->Int)(b:Nat)(c:Int):Nat->Int:=fun g=>if g=b then c else col g
def Data(w:World)(col:Nat->Int)(v:Value)(size n:Nat)(xs:List Value):Prop:=Reads w v size n xs/\∀g,v.ownBlock=some g->col g=-1
theorem Data.zc{size:Nat}{xs:List Value}(h:Data w col v size n xs)(k:ZS w w' col jf c)(hc:c (-1)):Data w' jf v size n xs:=by
 refine⟨h.1.jI k.size (fun g hg=>k.block g (h.1.2.1 g hg) (by rw[h.2 g hg];exact hc)),fun g hg=>?_⟩;rw[k.same g (h.1.2.1 g hg)];exact h.2 g hg
theorem qO{size:Nat}{xs:List Value}(h:w.ownsRow base e size v n xs)(hb:∀g,v.ownBlock=some g->w'.heap[g]?=w.heap[g]?):w'.ownsRow base e size v n xs:=by
 refine⟨h.1,?_⟩;rcases h.2 with h2|⟨g,cap,cur,hv,hg,hh,r⟩
 ·exact .inl h2
 ·exact .inr ⟨g,cap,cur,hv,hg,by rw[hb g (by rw[hv];rfl)];exact hh,r⟩
def Row(w:World)(col:Nat->Int)(base:Nat)(e:TypeId)(size:Nat)(cl:Int)(v:Value)(n:Nat)(xs:List Value):Prop:=w.ownsRow base e size v n xs/\∀g,v.ownBlock=some g->col g=cl
theorem Row.zc{size:Nat}{xs:List Value}(h:Row w col base e size cl v n xs)(k:ZS w w' col jf c)(hc:c cl):Row w' jf base e size cl v n xs:=by
 refine⟨qO h.1 (fun g hg=>k.block g (h.1.lt g hg).2 (by rw[h.2 g hg];exact hc)),fun g hg=>?_⟩;rw[k.same g (h.1.lt g hg).2];exact h.2 g hg
def zV(ld:Bool)(xs:List (Value×Value))(ls:List Tm.Ln):List Value:=(xs.zip ls).flatMap fun p=>(cond ld [Value.int .i64 p.2.num] [])++[p.1.1,p.1.2]
theorem qk3(hl:xs.length=ls.length)(x:Value×Value)(l:Tm.Ln):zV ld (xs++[x]) (ls++[l])=zV ld xs ls++((cond ld [Value.int .i64 l.num] [])++[x.1,x.2]):=by
 unfold zV;rw[List.zip_append hl];simp
theorem qaO(hl:xs.length=ls.length){f:Nat}(h:k<ls.length)(h':k<xs.length)(hf:f<2) :
  (zV false xs ls)[k * 2+f]?=([xs[k].1,xs[k].2])[f]?:=by
 induction xs generalizing ls k with
 | nil=>simp at h'
 | cons a r ih =>
  cases ls with
  | nil=>simp at h
  | cons b q =>
   cases k with
   | zero =>
    simp only[zV,List.zip_cons_cons,List.flatMap_cons];rw[List.getElem?_append_left (by simp;omega)];simp
   | succ k =>
    simp only[zV,List.zip_cons_cons,List.flatMap_cons];rw[List.getElem?_append_right (by simp;omega)];have:=ih (ls:=q) (by simpa using hl) (k:=k) (by simpa using h) (by simpa using h');simp only[zV]at this;simp only[cond_false,List.nil_append,List.length_cons,List.length_nil]at *;rw[show(k+1) * 2+f-(0+1+1)=k * 2+f from by omega,this];rfl
theorem xx(hl:xs.length=ls.length){f:Nat}(h:k<ls.length)(h':k<xs.length)(hf:f<3) :
  (zV true xs ls)[k * 3+f]?=([Value.int .i64 ls[k].num,xs[k].1,xs[k].2])[f]?:=by
 induction xs generalizing ls k with
 | nil=>simp at h'
 | cons a r ih =>
  cases ls with
  | nil=>simp at h
  | cons b q =>
   cases k with
   | zero =>
    simp only[zV,List.zip_cons_cons,List.flatMap_cons];rw[List.getElem?_append_left (by simp;omega)];simp
   | succ k =>
    simp only[zV,List.zip_cons_cons,List.flatMap_cons];rw[List.getElem?_append_right (by simp;omega)];have:=ih (ls:=q) (by simpa using hl) (k:=k) (by simpa using h) (by simpa using h');simp only[zV]at this;simp only[cond_true,List.cons_append,List.nil_append,List.length_cons,List.length_nil]at *;rw[show(k+1) * 3+f-(0+1+1+1)=k * 3+f from by omega,this];rfl
def Qce(w:World)(col:Nat->Int)(x:Value×Value)(l:Tm.Ln):Prop:=Data w col x.1 1 l.qh.length (ints l.qh)/\Data w col x.2 4 l.els.length (qG l.els)
def Ji(w:World)(col:Nat->Int)(base:Nat)(e:TypeId)(ld:Bool)(cl:Int)(v:Value)(ls:List Tm.Ln):Prop :=
 ∃xs:List (Value×Value),xs.length=ls.length/\Row w col base e (cond ld 3 2) cl v ls.length (zV ld xs ls)/\∀k (h:k<ls.length) (h':k<xs.length),Qce w col xs[k] ls[k]
theorem Ji.zc(h:Ji w col base e ld cl v ls)(k:ZS w w' col jf c)(hc:c (-1))(hcl:c cl):Ji w' jf base e ld cl v ls:=by
 obtain⟨xs,hl,hr,hok⟩:=h;exact⟨xs,hl,hr.zc k hcl,fun j h h'=>⟨(hok j h h').1.zc k hc,(hok j h h').2.zc k hc⟩⟩
theorem Ji.nil(w:World)(col:Nat->Int)(base:Nat)(e:TypeId)(ld:Bool)(cl:Int):Ji w col base e ld cl (.slice none 0 0) [] :=
 ⟨[],rfl,⟨World.ownsRow_nil _ _ _ _,fun g hg=>by cases hg⟩,fun k h=>by simp at h⟩
theorem Ji.snoc{w w':World}{col jf:Nat->Int}{c:Int->Prop}{base:Nat}{e:TypeId}{ld:Bool}{cl:Int}{v':Value}{ls:List Tm.Ln}{xs:List (Value×Value)}{x:Value×Value}{l:Tm.Ln}
  (hl:xs.length=ls.length) (hok:∀k (h:k<ls.length) (h':k<xs.length),Qce w col xs[k] ls[k]) (hx:Qce w col x l) (k:ZS w w' col jf c) (hc:c (-1))
  (qp:w'.ownsRow base e (cond ld 3 2) v' (ls.length+1) (zV ld xs ls++((cond ld [Value.int .i64 l.num] [])++[x.1,x.2]))) (qzc:∀g,v'.ownBlock=some g->jf g=cl):Ji w' jf base e ld cl v' (ls++[l]):=by
 refine⟨xs++[x],by simp[hl],⟨?_,qzc⟩,fun j h h'=>?_⟩
 ·rw[qk3 hl];simpa using qp
 ·by_cases e:j<ls.length
  ·have e':j<xs.length:=by omega
   rw[List.getElem_append_left e',List.getElem_append_left e];exact⟨(hok j e e').1.zc k hc,(hok j e e').2.zc k hc⟩
  ·simp at h
   have:j=ls.length:=by omega
   subst this;rw[List.getElem_append_right (by omega),List.getElem_append_right (by omega)];simpa using⟨hx.1.zc k hc,hx.2.zc k hc⟩
def Xz(w:World)(col:Nat->Int)(base:Nat)(lns:List Tm.Ln)(r:Int)(v:Value):Prop :=
 ∃vp vs,v=.agg #[.int .i64 (Tm.qd lns r),vp,vs]/\Data w col vp 1 (Tm.parts lns r).length (ints (Tm.parts lns r))/\Ji w col base 238 false r vs (Tm.qI lns r)
theorem Xz.zc(h:Xz w col base lns r v)(k:ZS w w' col jf c)(hc:c (-1))(hr:c r):Xz w' jf base lns r v:=by
 obtain⟨vp,vs,rfl,h1,h2⟩:=h;exact⟨vp,vs,rfl,h1.zc k hc,h2.zc k hc hr⟩
theorem Xz.other{qbT:List Tm.Ln}(h:Xz w col base lns r v)(h1:Tm.qd qbT r=Tm.qd lns r)(h2:Tm.parts qbT r=Tm.parts lns r)(h3:Tm.qI qbT r=Tm.qI lns r):Xz w col base qbT r v:=by
 unfold Xz;rw[h1,h2,h3];exact h
structure Nd(w:World)(col:Nat->Int)(base bm:Nat)(lns:List Tm.Ln):Prop where
 hue:col bm=-2
 from_:0<=bm
 map:∃f,Yi w bm lns.length f/\∀r,0<=r->Xz w col base lns r (f r)
theorem Nd.zc(h:Nd w col base bm lns)(k:ZS w w' col jf c)(hc:c (-1))(hm:c (-2))(hr:∀r,0<=r->c r):Nd w' jf base bm lns:=by
 obtain⟨h1,h2,f,hf,hok⟩:=h;refine⟨?_,h2,f,hf.same (k.block bm hf.lt (by rw[h1];exact hm)),fun r hr0=>(hok r hr0).zc k hc (hr r hr0)⟩;rw[k.same bm hf.lt];exact h1
theorem Nd.look(h:Nd w col base bm lns)(hr:0<=r) :
  ∃f vp vs,Yi w bm lns.length f/\f r=.agg #[.int .i64 (Tm.qd lns r),vp,vs]/\Data w col vp 1 (Tm.parts lns r).length (ints (Tm.parts lns r))/\Ji w col base 238 false r vs (Tm.qI lns r)/\(∀x,0<=x->Xz w col base lns x (f x)):=by
 obtain⟨h1,h2,f,hf,hok⟩:=h;obtain⟨vp,vs,hv,hp,hs⟩:=hok r hr;exact⟨f,vp,vs,hf,hv,hp,hs,hok⟩
def jJ(ls:List Tm.Ln):List Value:=ls.flatMap fun l=>[Value.int .i64 l.num,.int .i64 (l.qh.getD 0 0)]
theorem qjD:jJ (ls++[l])=jJ ls++[Value.int .i64 l.num,.int .i64 (l.qh.getD 0 0)]:=by simp[jJ]
theorem qfJ{f:Nat}(h:k<ls.length)(hf:f<2):(jJ ls)[k * 2+f]?=([Value.int .i64 ls[k].num,.int .i64 (ls[k].qh.getD 0 0)])[f]?:=by
 induction ls generalizing k with
 | nil=>simp at h
 | cons a r ih =>
  cases k with
  | zero =>
   simp only[jJ,List.flatMap_cons];rw[List.getElem?_append_left (by simp;omega)];simp
  | succ k =>
   simp only[jJ,List.flatMap_cons];rw[List.getElem?_append_right (by simp;omega)];have:=ih (k:=k) (by simpa using h);simp only[jJ]at this;simp only[List.length_cons,List.length_nil]at *;rw[show(k+1) * 2+f-(0+1+1)=k * 2+f from by omega,this];rfl
def Pt(w:World)(col:Nat->Int)(base:Nat)(v:Value)(lns:List Tm.Ln):Prop:=Row w col base 234 2 (-4) v (Tm.zo lns).length (jJ (Tm.zo lns))
def Wt(w:World)(col:Nat->Int)(base:Nat)(v:Value)(lns:List Tm.Ln):Prop:=Ji w col base 240 true (-5) v (Tm.zi lns)
structure Dr(w:World)(col:Nat->Int)(base bd bm:Nat)(line:Int)(vp vw:Value):Prop where
 hue:col bd=-3
 from_:base<=bd
 lt:bd<w.heap.size
 c0:w.cell? ⟨bd,0,none⟩=some (.map (some bm))
 c1:w.cell? ⟨bd,1,none⟩=some (.int .i64 line)
 c2:w.cell? ⟨bd,2,none⟩=some vp
 c3:w.cell? ⟨bd,3,none⟩=some vw
 free:∀o,w.frozen? ⟨bd,o,none⟩=false
theorem Dr.zc(h:Dr w col base bd bm line vp vw)(k:ZS w w' col jf c)(hc:c (-3)):Dr w' jf base bd bm line vp vw:=by
 have hb:=k.block bd h.lt (by rw[h.hue];exact hc);refine⟨?_,h.from_,Nat.lt_of_lt_of_le h.lt k.size,?_,?_,?_,?_,fun o=>?_⟩
 ·rw[k.same bd h.lt];exact h.hue
 ·rw[World.cell?_of_block (w:=w) (a:=⟨bd,0,none⟩) hb];exact h.c0
 ·rw[World.cell?_of_block (w:=w) (a:=⟨bd,1,none⟩) hb];exact h.c1
 ·rw[World.cell?_of_block (w:=w) (a:=⟨bd,2,none⟩) hb];exact h.c2
 ·rw[World.cell?_of_block (w:=w) (a:=⟨bd,3,none⟩) hb];exact h.c3
 ·rw[World.frozen?_of_block (w:=w) (a:=⟨bd,o,none⟩) hb];exact h.free o
structure Rep(w:World)(col:Nat->Int)(base bd bm:Nat)(line:Int)(vp vw:Value)(lns:List Tm.Ln):Prop where
 dr:Dr w col base bd bm line vp vw
 nd:Nd w col base bm lns
 pt:Pt w col base vp lns
 wt:Wt w col base vw lns
 fit:∀o∈lns,Tm.Fit o
 low:∀g,g<base->col g≠-1
theorem Rep.zc(h:Rep w col base bd bm line vp vw lns)(k:ZS w w' col jf (fun _=>True)):Rep w' jf base bd bm line vp vw lns :=
 ⟨h.dr.zc k trivial,h.nd.zc k trivial trivial (fun _ _=>trivial),h.pt.zc k trivial,h.wt.zc k trivial trivial,h.fit,fun g hg=>by rw[k.same g (by have h1:=h.dr.from_;have h2:=h.dr.lt;omega)];exact h.low g hg⟩
theorem Rep.below(h:Rep w col base bd bm line vp vw lns)(hb:Below w.heap.size w w'):Rep w' col base bd bm line vp vw lns:=h.zc (ZS.below hb)
theorem qhR(h:∀o∈lns,Tm.Fit o)(hl:Tm.Fit l):∀o∈lns++[l],Tm.Fit o:=by
 intro o ho;rcases List.mem_append.1 ho with h1|h1
 ·exact h o h1
 ·simp at h1;subst h1;exact hl
theorem Nd.class{w2:World}{r cls n:Int}{pv sv:Value}(hnd:Nd w col base bm lns)(qQ:∀x,0<=x->Xz w col base lns x (f x))
  (hp:Data w col pv 1 (Tm.parts lns r).length (ints (Tm.parts lns r))) (hs:Ji w col base 238 false r sv (Tm.qI lns r)) (hr:0<=r)
  (hm:Yi w2 bm (lns.length+1) (upd f r (.agg #[.int .i64 cls,pv,sv]))) (k:ZS w w2 col col (· ≠-2)) (h0:Tm.qd lns r=0) (hf:∀o∈lns,Tm.Fit o):Nd w2 col base bm (lns++[⟨[99],[r,cls],[],n⟩]):=by
 have hp':∀x,Tm.parts (lns++[⟨[99],[r,cls],[],n⟩]) x=Tm.parts lns x:=fun x=>by rw[Tm.qcQ,if_neg (by simp[Tm.yW])]
 have hs':∀x,Tm.qI (lns++[⟨[99],[r,cls],[],n⟩]) x=Tm.qI lns x:=fun x=>by rw[Tm.qcf,if_neg (by simp[Tm.xA])]
 refine⟨hnd.hue,hnd.from_,_,by simpa using hm,fun x hx=>?_⟩;unfold upd;by_cases e:x=r
 ·subst e;rw[if_pos rfl];refine⟨pv,sv,?_,?_,?_⟩
  ·rw[Tm.qbh,if_pos ⟨Tm.qpC hf h0,by simp[Tm.isClass]⟩];rfl
  ·rw[hp'];exact hp.zc k (by first|decide|omega|(dsimp only;omega))
  ·rw[hs'];exact hs.zc k (by first|decide|omega|(dsimp only;omega)) (by first|decide|omega|(dsimp only;omega))
 ·rw[if_neg e];refine((qQ x hx).zc k (by first|decide|omega|(dsimp only;omega)) (by first|decide|omega|(dsimp only;omega))).other ?_ (hp' x) (hs' x);rw[Tm.qbh,if_neg (by simp[Tm.isClass];omega)]
theorem Rep.class{w2:World}{r cls:Int}{pv sv:Value}(h:Rep w col base bd bm line vp vw lns)(qQ:∀x,0<=x->Xz w col base lns x (f x))
  (hp:Data w col pv 1 (Tm.parts lns r).length (ints (Tm.parts lns r))) (hs:Ji w col base 238 false r sv (Tm.qI lns r)) (hr:0<=r)
  (hm:Yi w2 bm (lns.length+1) (upd f r (.agg #[.int .i64 cls,pv,sv]))) (k:ZS w w2 col col (· ≠-2)) (h0:Tm.qd lns r=0) (hl:Tm.Fit ⟨[99],[r,cls],[],line⟩):Rep w2 col base bd bm line vp vw (lns++[⟨[99],[r,cls],[],line⟩]):=by
 refine⟨h.dr.zc k (by first|decide|omega|(dsimp only;omega)),h.nd.class qQ hp hs hr hm k h0 h.fit,?_,?_,qhR h.fit hl,h.low⟩
 ·unfold Pt;rw[Tm.qd9,if_neg (by simp)];exact h.pt.zc k (by first|decide|omega|(dsimp only;omega))
 ·unfold Wt;rw[Tm.qea,if_neg (by simp)];exact h.wt.zc k (by first|decide|omega|(dsimp only;omega)) (by first|decide|omega|(dsimp only;omega))
theorem Nd.parts{w2:World}{r n:Int}{rs:List Int}{pv sv:Value}(hnd:Nd w col base bm lns)(qQ:∀x,0<=x->Xz w col base lns x (f x))
  (hp:Data w col pv 1 rs.length (ints rs)) (hs:Ji w col base 238 false r sv (Tm.qI lns r)) (hr:0<=r)
  (hm:Yi w2 bm (lns.length+1) (upd f r (.agg #[.int .i64 (Tm.qd lns r),pv,sv]))) (k:ZS w w2 col col (· ≠-2)) (h0:(Tm.parts lns r).length=0) (hf:∀o∈lns,Tm.Fit o):Nd w2 col base bm (lns++[⟨[100],r::rs,[],n⟩]):=by
 have hp':∀x,Tm.qd (lns++[⟨[100],r::rs,[],n⟩]) x=Tm.qd lns x:=fun x=>by rw[Tm.qbh,if_neg (by simp[Tm.isClass])]
 have hs':∀x,Tm.qI (lns++[⟨[100],r::rs,[],n⟩]) x=Tm.qI lns x:=fun x=>by rw[Tm.qcf,if_neg (by simp[Tm.xA])]
 refine⟨hnd.hue,hnd.from_,_,by simpa using hm,fun x hx=>?_⟩;unfold upd;by_cases e:x=r
 ·subst e;rw[if_pos rfl]
  have e1:Tm.parts (lns++[⟨[100],x::rs,[],n⟩]) x=rs:=by rw[Tm.qcQ,if_pos ⟨Tm.qeX hf h0,by simp[Tm.yW]⟩];rfl
  refine⟨pv,sv,?_,?_,?_⟩
  ·rw[hp']
  ·rw[e1];exact hp.zc k (by first|decide|omega|(dsimp only;omega))
  ·rw[hs'];exact hs.zc k (by first|decide|omega|(dsimp only;omega)) (by first|decide|omega|(dsimp only;omega))
 ·rw[if_neg e];refine((qQ x hx).zc k (by first|decide|omega|(dsimp only;omega)) (by first|decide|omega|(dsimp only;omega))).other (hp' x) ?_ (hs' x);rw[Tm.qcQ,if_neg (by simp[Tm.yW];omega)]
theorem Nd.yX{w2:World}{jf:Nat->Int}{r:Int}{l:Tm.Ln}{pv sv:Value}(hnd:Nd w col base bm lns)(qQ:∀x,0<=x->Xz w col base lns x (f x))
  (hk:l.kind=[119]) (hr1:l.qh.getD 0 0=r) (hp:Data w col pv 1 (Tm.parts lns r).length (ints (Tm.parts lns r))) (hs:Ji w2 jf base 238 false r sv (Tm.qI lns r++[l])) (hr:0<=r)
  (hm:Yi w2 bm (lns.length+1) (upd f r (.agg #[.int .i64 (Tm.qd lns r),pv,sv]))) (k:ZS w w2 col jf (fun c=>c≠-2/\c≠r)):Nd w2 jf base bm (lns++[l]):=by
 have hc':∀x,Tm.qd (lns++[l]) x=Tm.qd lns x:=fun x=>by rw[Tm.qbh,if_neg (by simp[Tm.isClass,hk])]
 have hp':∀x,Tm.parts (lns++[l]) x=Tm.parts lns x:=fun x=>by rw[Tm.qcQ,if_neg (by simp[Tm.yW,hk])]
 obtain⟨h1,h2,f0,hf0,_⟩:=hnd;refine⟨by rw[k.same bm hf0.lt];exact h1,h2,_,by simpa using hm,fun x hx=>?_⟩;unfold upd;by_cases e:x=r
 ·subst e;rw[if_pos rfl];refine⟨pv,sv,by rw[hc'],?_,?_⟩
  ·rw[hp'];exact hp.zc k (by first|decide|omega|(dsimp only;omega))
  ·rw[Tm.qcf,if_pos (by simp only[Tm.xA,hk,hr1];simp)];exact hs
 ·rw[if_neg e];refine((qQ x hx).zc k (by first|decide|omega|(dsimp only;omega)) (by first|decide|omega|(dsimp only;omega))).other (hc' x) (hp' x) ?_;rw[Tm.qcf,if_neg (by simp only[Tm.xA,hk,hr1];simp;omega)]
def lets(bs:List ByteArray):List (List UInt8):=bs.map fun b=>b.data.toList
theorem jC(bs:List ByteArray):(lets bs).length=bs.length:=by simp[lets]
theorem qtA(h:k<bs.length)(h':k<(lets bs).length):(lets bs)[k]=bs[k].data.toList:=by simp[lets]
theorem qlL(bs:List ByteArray):(bs.all fun b=>ze 1114111 b.data.toList)=(lets bs).all Tm.zN:=by
 unfold lets;rw[List.all_map];rfl
theorem qkm(bs:List ByteArray):(bs.map fun b=>Tm.num b.data.toList)=(lets bs).map Tm.num:=by
 unfold lets;rw[List.map_map];rfl
theorem qeY(c:Int)(w:World):Calls Tryz.prog 160 #[.agg #[.int .i64 c]] w fun e w'=>e=.returned (.bool (c != 0))/\Below w.heap.size w w':=by
 go_enter Tryz.func160,Tryz.ntmps160
 go_wp2;go_ret;exact⟨rfl,(Below.refl _ _).alloc (Nat.le_refl _) _⟩
theorem qbi(v:Value)(n:Nat)(xs:List Value)(w:World)(h:Reads w v 1 n xs):Calls Tryz.prog 164 #[.agg #[v]] w fun e w'=>e=.returned (.bool (decide (0<n)))/\Below w.heap.size w w':=by
 obtain⟨a,cap,rfl⟩:=h.shape;clear h;go_enter Tryz.func164,Tryz.ntmps164
 go_wp2;go_ret;refine⟨?_,(Below.refl _ _).alloc (Nat.le_refl _) _⟩;simp
theorem qlM(x:Tm.El)(w:World):Calls Tryz.prog 194 #[.agg #[.int .i64 x.p,.int .i64 x.s,.int .i64 x.t,.bool x.v]] w fun e w'=>e=.returned (.bool (Tm.zK x))/\Below w.heap.size w w':=by
 have HL:Hid (Tm.zK x=((x.p != 0&&x.s == 0) || (x.s != 0&&x.t == 0) || (x.v&&x.p == 0) || decide (64256<=x.p))):=rfl;obtain⟨p,s,t,v⟩:=x;simp only at HL⊢;cases h1:(p == 0)<;>cases h2:(s == 0)<;>cases h3:(t == 0)<;>cases v<;>cases h4:decide (64256<=p)
 all_goals
  have g1:(p != 0)=!(p == 0):=rfl;have g2:(s != 0)=!(s == 0):=rfl;rw[h1]at g1;rw[h2]at g2;simp only[Bool.not_true,Bool.not_false]at g1 g2;go_enter Tryz.func194,Tryz.ntmps194
  go_wp2;go_ret;refine⟨?_,(Below.refl _ _).alloc (Nat.le_refl _) _⟩;rw[HL.out];simp[h1,h2,h3,h4,g1,g2]
def qlN(b:Bool)(e:Ending):Prop:=∃i:Int,e=.returned (.int .i64 i)/\decide (0<=i)=b
theorem QiC(ve:Value)(els:List Tm.El)(w:World)(he:Reads w ve 4 els.length (qG els))(hl:els.length<=1000000) :
  Calls Tryz.prog 208 #[ve,.func (.func 194) #[] #[]] w fun e w'=>qlN (els.any Tm.zK) e/\Below w.heap.size w w':=by
 obtain⟨a,cap,rfl⟩:=he.shape;have HC:Hid (∀k (hk:k<els.length),_):=fun k hk=>qfZ he hk;clear he;go_enter Tryz.func208,Tryz.ntmps208
 go_wp2;go_loopw [8] (fun i wr=>∃k:Nat,k<=els.length/\i=.int .i64 k/\(els.take k).any Tm.zK=false/\Below w.heap.size w wr) (fun i _=>els.length-(intOf i).toNat)
 case atStart=>exact⟨0,Nat.zero_le _,rfl,by simp,Below.refl _ _⟩
 case round =>
  obtain⟨k,hk,rfl,hno,hb⟩:=hrel;have hz:=hb.size;have HB:=qb hb;by_cases hlt:k<els.length
  ·obtain⟨g,off,rfl,hg,c0,c1,c2,c3⟩:=HC.out k hlt;have hc:∀o,wr.cell? ⟨g,o,none⟩=w.cell? ⟨g,o,none⟩:=fun o=>hb.cell (p:=⟨g,o,none⟩) hg;rw[<-hc]at c0 c1 c2 c3;have HS:Hid (∀hx:Tm.zK els[k]=false,(els.take (k+1)).any Tm.zK=false):=fun hx=>qtB hno hlt hx;have HY:Hid (∀hx:Tm.zK els[k]=true,els.any Tm.zK=true):=fun hx=>qwl hlt hx;generalize els[k]=x at *;clear hc hb hno HC;go_wp2_with fail
   refine(qlM x _).mono ?_;rintro e w1 ⟨rfl,hb1⟩;have HB1:Hid (Below w.heap.size w w1):=HB.out.trans (hb1.mono hz);clear hb1;cases hx:Tm.zK x
   ·go_wp2;go_roundw
    case rel=>exact⟨k+1,by omega,by go_num,HS.out hx,HB1.out⟩
    case measure=>simp[intOf];omega
   ·go_wp2;go_ret;exact⟨⟨k,rfl,by rw[HY.out hx];simp⟩,HB1.out⟩
  ·have HN:Hid (els.any Tm.zK=false):=by
    rw[List.take_of_length_le (by omega)]at hno;exact hno
   clear hno hb HC;go_wp2;go_ret;exact⟨⟨-1,rfl,by rw[HN.out];rfl⟩,HB.out⟩
theorem Qf0(ve:Value)(els:List Tm.El)(w:World)(he:Reads w ve 4 els.length (qG els))(hl:els.length<=1000000) :
  Calls Tryz.prog 193 #[ve,.func (.func 194) #[] #[]] w fun e w'=>e=.returned (.bool (els.any Tm.zK))/\Below w.heap.size w w':=by
 go_enter Tryz.func193,Tryz.ntmps193
 go_wp2_with fail
 refine(QiC ve els _ he hl).mono ?_;rintro e w1 ⟨⟨i,rfl,hi⟩,hb⟩;have HI:=qb hi;clear hi;go_wp2;go_ret;exact⟨ja HI.out,hb⟩
