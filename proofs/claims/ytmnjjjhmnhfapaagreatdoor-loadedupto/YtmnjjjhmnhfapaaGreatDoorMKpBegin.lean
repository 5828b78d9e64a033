import Derived.Handy
import Derived.Test.YtmnjjjhmnhfapaaGreatDoorMIxPutD
namespace Go.Proofs.YtmnjjjhmnhfapaaGreatDoor
set_option maxRecDepth 100000
set_option maxHeartbeats 8000000
open Go.RowKit
variable {w w':World}{n cap k X bb bx bc bm:Nat}{fs:List Tm.Fact}{F S:Nat->Prop}{vf:Value}{st:Int}{sh:Bool}{lns:List Tm.Ln}{s:Qt}{c:ByteArray->ByteArray->Int}
theorem qcJ(lns:List Tm.Ln)(bc bm:Nat)(st:Int)(sh:Bool)(k:ByteArray)(w:World)(hc:Jd w bc bm st sh lns)(hok:Zt st lns) :
  Calls Tryz.prog 76 #[.pointer (some ⟨bc,0,none⟩),.string k] w fun e w'=>e=.returned (.agg (if k.size<=64 then #[.string (placeOf lns st sh k),.int .i64 0]else #[.string ⟨#[]⟩,.int .i64 7]))/\Below w.heap.size w w':=by
 have HC:=qb (hc.below ((Below.refl _ _).alloc (Nat.le_refl _) (.cells #[.string ⟨#[]⟩,.int .i64 0] 149)));have HOK:=qb hok;clear hc hok
 obtain⟨p,er,hp⟩:∃p er,(if k.size<=64 then #[.string (placeOf lns st sh k),.int .i64 0]else #[.string ⟨#[]⟩,.int .i64 7]:Array Value)=#[.string p,.int .i64 er]:=by
  by_cases hk:k.size<=64
  ·exact⟨_,_,by rw[if_pos hk]⟩
  ·exact⟨_,_,by rw[if_neg hk]⟩
 obtain⟨W0,hW0⟩:∃W0,w.alloc (.cells #[.string ⟨#[]⟩,.int .i64 0] 149)=W0:=⟨_,rfl⟩
 have Qz4:Hid (Calls Tryz.prog 65 #[.pointer (some ⟨bc,0,none⟩),.string k] W0 fun e w'=>e=.returned (.tuple #[.string p,.int .i64 er])/\Below W0.heap.size W0 w'):=by
  unfold Hid;rw[<-hW0];refine(YS lns bc bm st sh k _ HC.out HOK.out).mono ?_;rintro e w' ⟨rfl,hb⟩;refine⟨?_,hb⟩;by_cases hk:k.size<=64
  ·rw[if_pos hk]at hp⊢;simp at hp;rw[<-hp.1,<-hp.2];rfl
  ·rw[if_neg hk]at hp⊢;simp at hp;rw[<-hp.1,<-hp.2]
 have HB0:Hid (Below w.heap.size w W0):=by unfold Hid;rw[<-hW0];exact(Below.refl _ _).alloc (Nat.le_refl _) _
 have hz0:W0.heap.size=w.heap.size+1:=by rw[<-hW0];simp
 have HF:Hid (∀W:World,Below W0.heap.size W0 W->W.cell? ⟨w.heap.size,0,none⟩=some (.string ⟨#[]⟩)/\W.cell? ⟨w.heap.size,1,none⟩=some (.int .i64 0)/\W.frozen? ⟨w.heap.size,0,none⟩=false/\W.frozen? ⟨w.heap.size,1,none⟩=false):=fun W hW=>by
  rw[hW.cell (p:=⟨w.heap.size,0,none⟩) (by show w.heap.size<_;omega),hW.cell (p:=⟨w.heap.size,1,none⟩) (by show w.heap.size<_;omega),hW.frozen (p:=⟨w.heap.size,0,none⟩) (by show w.heap.size<_;omega),hW.frozen (p:=⟨w.heap.size,1,none⟩) (by show w.heap.size<_;omega),<-hW0,ql rfl,ql rfl,zx rfl,zx rfl];exact⟨rfl,rfl,rfl,rfl⟩
 have HW0:=qb hW0;rw[hp];clear hW0 hp;go_enter Tryz.func76,Tryz.ntmps76
 go_upto_region 1 with fail
 rw[HW0.out];go_wp2_with fail
 refine Qz4.out.mono ?_;rintro e w1 ⟨rfl,hb1⟩;have HB1:Hid (Below w.heap.size w w1):=HB0.out.trans (hb1.mono (by omega));obtain⟨x0,x1,f0,f1⟩:=HF.out w1 hb1;have hz1:=hb1.size;clear hb1
 have e1:(w1.setCell ⟨w.heap.size,0,none⟩ (.string p)).cell? ⟨w.heap.size,1,none⟩=some (.int .i64 0):=by rw[World.cell?_setCell_other _ _ _ _ (by simp)];exact x1
 have y0:((w1.setCell ⟨w.heap.size,0,none⟩ (.string p)).setCell ⟨w.heap.size,1,none⟩ (.int .i64 er)).cell? ⟨w.heap.size,0,none⟩=some (.string p):=by rw[World.cell?_setCell_other _ _ _ _ (by simp)];exact World.cell?_setCell_same _ _ _ x0
 have y1:((w1.setCell ⟨w.heap.size,0,none⟩ (.string p)).setCell ⟨w.heap.size,1,none⟩ (.int .i64 er)).cell? ⟨w.heap.size,1,none⟩=some (.int .i64 er):=World.cell?_setCell_same _ _ _ e1;go_wp2
 (try simp only[Exit.inBlock,Exit.then])
 refine bodyPost_ret (by simp[results,Tryz.results76,go_sem,y0,y1];try rfl) rfl ?_;exact⟨rfl,(HB1.out.setCell (p:=⟨w.heap.size,0,none⟩) (Nat.le_refl _) _).setCell (p:=⟨w.heap.size,1,none⟩) (Nat.le_refl _) _⟩
theorem qsE(bx:Nat)(k v p:ByteArray)(w:World) :
  Calls Tryz.prog 74 #[.pointer (some ⟨bx,0,none⟩),.agg #[.string k,.string v],.agg #[.string p,.int .i64 7]] w fun e w'=>e=.returned (.int .i64 7)/\Below w.heap.size w w':=by
 have HB0:Hid (Below w.heap.size w ((w.alloc (.cells #[.string k,.string v] 67)).alloc (.cells #[.string p,.int .i64 7] 149))):=((Below.refl _ _).alloc (Nat.le_refl _) _).alloc (by simp) _;go_enter Tryz.func74,Tryz.ntmps74
 go_wp2;go_ret;exact⟨rfl,HB0.out⟩
theorem QgA(lns:List Tm.Ln)(bc bm:Nat)(st:Int)(sh:Bool)(X:Nat)(S:Nat->Prop)(bx:Nat)(s:Qt)(k v:ByteArray)(w:World)(hc:Jd w bc bm st sh lns)(hok:Zt st lns)(hx:Ix w X S bx bc st sh lns s)(hX:X<=w.heap.size) :
  Calls Tryz.prog 33 #[.pointer (some ⟨bx,0,none⟩),.string k,.string v] w fun e w'=>e=.returned (.int .i64 (qW (qe lns st sh) s k v))/\Yu w w' X S bx bc st sh lns (zg (qe lns st sh) s k v):=by
 have HC:=qb hc;have HOK:=qb hok;have HX:=qb hx;have HF:=qb hc.fit;have c0:=hx.c0;have hl:=(hx.from_ bx hx.own).2;clear hc hok hx;by_cases hk:k.size<=64
 ·go_enter Tryz.func33,Tryz.ntmps33
  go_wp2_with fail
  refine(qcJ lns bc bm st sh k _ HC.out HOK.out).mono ?_;rw[if_pos hk];rintro e w1 ⟨rfl,hb1⟩;have HB1:=qb hb1;have HX1:=qb (HX.out.below hb1);have hz1:=hb1.size;clear hb1 c0;go_wp2_with fail
  refine(qoZ lns bc st sh X S bx s k v _ HF.out HOK.out HX1.out (by omega) hk).mono ?_;rintro e w2 ⟨rfl,S',h1,h2,h3⟩
  have QN:Hid (Yu w w2 X S bx bc st sh lns (zg (qe lns st sh) s k v)):=⟨S',h1,(Qy.of HB1.out).trans h2 (fun i hi=>.inl hi),fun i hi=>by
   rcases h3 i hi with e|e
   ·exact .inl e
   ·exact .inr (by omega)⟩
  clear h1 h2 h3;go_wp2;go_ret;exact⟨rfl,QN.out⟩
 ·have HPE:Hid (qW (qe lns st sh) s k v=7):=by unfold Hid qW;rw[if_pos (by omega)]
  go_enter Tryz.func33,Tryz.ntmps33
  go_wp2_with fail
  refine(qcJ lns bc bm st sh k _ HC.out HOK.out).mono ?_;rw[if_neg hk];rintro e w1 ⟨rfl,hb1⟩;have HB1:=qb hb1;have hz1:=hb1.size;clear hb1;go_wp2_with fail
  refine(qsE bx k v _ w1).mono ?_;rintro e w2 ⟨rfl,hb2⟩
  have QN:Hid (Yu w w2 X S bx bc st sh lns (zg (qe lns st sh) s k v)):=by
   unfold Hid;rw[qan (by rw[HPE.out];omega)];exact Yu.qb2 HX.out (HB1.out.trans (hb2.mono hz1))
  clear hb2;go_wp2;go_ret;exact⟨by rw[HPE.out];rfl,QN.out⟩
theorem QgB(lns:List Tm.Ln)(bc bm:Nat)(st:Int)(sh:Bool)(X:Nat)(S:Nat->Prop)(bx:Nat)(s:Qt)(k:ByteArray)(w:World)(hc:Jd w bc bm st sh lns)(hok:Zt st lns)(hx:Ix w X S bx bc st sh lns s)(_hX:X<=w.heap.size) :
  Calls Tryz.prog 58 #[.pointer (some ⟨bx,0,none⟩),.string k] w fun e w'=>e=.returned (if k.size<=64 then .tuple #[.bool (Tm.yd (qe lns st sh) (qv s) k),.int .i64 0]else .tuple #[.bool false,.int .i64 7])/\Yu w w' X S bx bc st sh lns (z5 (qe lns st sh) s k):=by
 have hT:=qay lns st sh;have hK:=qch hc.fit (sh:=sh) hok.st;have HC:=qb hc;have HOK:=qb hok;have HX:=qb hx;have c0:=hx.c0;have hl:=(hx.from_ bx hx.own).2;have hrs:Tm.Zy (Tm.Yc (qe lns st sh)) (Tm.qj s.now):=hx.qbu
 have j9:s.now.length<=64:=by rw[<-yN];exact hx.few
 have Qqx:=qb (hx.ok.drop k);obtain⟨F,B,V,vn,vh,hi⟩:=hx.mem;obtain⟨a,cap,rfl⟩:=(Reads.qn hi.now).shape;have HI:=qb hi;have HC1:=qb hi.c1;clear hc hok hx hi;show Calls _ _ _ _ fun e w'=>e=.returned (if k.size<=64 then .tuple #[.bool (Tm.yd (qe lns st sh) (Tm.qj s.now) k),.int .i64 0]else .tuple #[.bool false,.int .i64 7])/\_;by_cases hk:k.size<=64
 ·rw[if_pos hk];go_enter Tryz.func58,Tryz.ntmps58
  go_wp2_with fail
  refine(YS lns bc bm st sh k _ HC.out HOK.out).mono ?_;rw[if_pos hk];rintro e w1 ⟨rfl,hb1⟩;have HB1:=qb hb1;have hz1:=hb1.size
  have c11:w1.cell? ⟨bx,1,none⟩=some (.slice a s.now.length cap):=by rw[hb1.cell (p:=⟨bx,1,none⟩) hl];exact HC1.out
  have hl1:bx<w1.heap.size:=by omega
  have HRD:=qb (HI.out.qdu.below hb1);clear hb1 c0;go_wp2_with fail
  refine(qfj (placeOf lns st sh) (qe lns st sh) hK hT s.now hrs B _ k _ HRD.out (by omega)).mono ?_;rintro e w2 ⟨rfl,hb2⟩;have qgp:=HB1.out.trans (hb2.mono hz1);have HB2:=qb qgp;have hz2:=hb2.size
  have c12:w2.cell? ⟨bx,1,none⟩=some (.slice a s.now.length cap):=by rw[hb2.cell (p:=⟨bx,1,none⟩) hl1];exact c11
  have f12:w2.frozen? ⟨bx,1,none⟩=false:=by rw[qgp.frozen (p:=⟨bx,1,none⟩) hl];exact HX.out.free 1
  have hl2:bx<w2.heap.size:=by omega
  clear hb2 qgp c11;cases hh:Tm.yd (qe lns st sh) (Tm.qj s.now) k
  ·have QN:Hid (Yu w w2 X S bx bc st sh lns (z5 (qe lns st sh) s k)):=by
    unfold Hid z5 qv;rw[if_neg (by omega),if_neg (by rw[hh];simp)];exact Yu.qb2 HX.out HB2.out
   have HH:=qb hh;go_wp2;go_ret2;exact⟨by rw[HH.out];rfl,QN.out⟩
  ·have HH:=qb hh;obtain⟨hi,_⟩:=(Tm.qaV hT hrs).1 hh;rw[Tm.qz]at hi
   have HS:Hid (z5 (qe lns st sh) s k={s with now:=s.now.eraseIdx (Tm.below (qe lns st sh) (Tm.qj s.now) k),next:=s.next+1}):=by
    unfold Hid z5 qv;rw[if_neg (by omega),if_pos hh,Tm.qlj hT hrs hh]
   have HO2:Hid (w2.ownsRow X 138 1 (.slice a s.now.length cap) s.now.length (jm B s.now)):=qO HI.out.now (fun g hg=>HB2.out.block g (HI.out.now.lt g hg).2);go_wp2_with fail
   refine(qoe X (jm B s.now) s.now.length _ (Tm.below (qe lns st sh) (Tm.qj s.now) k) _ HO2.out (qmu B s.now) hi (by omega)).mono ?_;rintro e w3 ⟨v3,rfl,zR,hgr3,hat3⟩;have hz3:=hgr3.size;have hbk:w3.heap[bx]?=w2.heap[bx]?:=hgr3.block bx hl2 (fun e=>(HI.out.vS bx e.symm).2.1 rfl)
   have c13:w3.cell? ⟨bx,1,none⟩=some (.slice a s.now.length cap):=by rw[World.cell?_of_block (a:=⟨bx,1,none⟩) hbk];exact c12
   have f13:w3.frozen? ⟨bx,1,none⟩=false:=by rw[World.frozen?_of_block (a:=⟨bx,1,none⟩) hbk];exact f12
   have QN:Hid (Yu w (w3.setCell ⟨bx,1,none⟩ v3) X S bx bc st sh lns (z5 (qe lns st sh) s k)):=by
    unfold Hid;rw[HS.out];refine HX.out.newRow HI.out HB2.out hgr3 (fun g hg=>.inl (by rw[<-hat3];exact hg)) _ _ B (fun _=>False) (fun _ _=>rfl) ?_ (fun _ e=>e.elim) (fun x hx=>.inl (List.mem_of_mem_eraseIdx hx)) (by have:=Qqx.out;rw[HS.out]at this;exact this)
    have e1:jm B (s.now.eraseIdx (Tm.below (qe lns st sh) (Tm.qj s.now) k))=(jm B s.now).eraseIdx (Tm.below (qe lns st sh) (Tm.qj s.now) k):=by
     unfold jm;rw[List.eraseIdx_eq_take_drop_succ,List.eraseIdx_eq_take_drop_succ,List.map_append,List.map_take,List.map_drop]
    rw[e1,List.length_eraseIdx,if_pos hi];exact zR
   obtain⟨a3,qij,rfl⟩:=(Reads.qn zR).shape
   have hl3:bx<w3.heap.size:=by omega
   clear zR hgr3 hat3;go_wp2;go_ret2;exact⟨by rw[HH.out];rfl,QN.out⟩
 ·rw[if_neg hk];go_enter Tryz.func58,Tryz.ntmps58
  go_wp2_with fail
  refine(YS lns bc bm st sh k _ HC.out HOK.out).mono ?_;rw[if_neg hk];rintro e w1 ⟨rfl,hb1⟩
  have QN:Hid (Yu w w1 X S bx bc st sh lns (z5 (qe lns st sh) s k)):=by
   unfold Hid z5;rw[if_pos (by omega)];exact Yu.qb2 HX.out hb1
  clear hb1;go_wp2;go_ret2;exact⟨rfl,QN.out⟩
def qP(fs:List Tm.Fact):List Value:=fs.flatMap fun f=>[.string f.1,.string f.2.1,.bool f.2.2]
theorem qdz(fs:List Tm.Fact):(qP fs).length=fs.length * 3:=by
 induction fs with
 | nil=>rfl
 | cons e r ih=>simp only[qP,List.flatMap_cons,List.length_append,List.length_cons]at *;rw[ih];simp;omega
theorem qaX(a b:List Tm.Fact):qP (a++b)=qP a++qP b:=by simp[qP]
theorem qim{a:Option Addr}(h:Reads w (.slice a n cap) 3 fs.length (qP fs))(hk:k<fs.length) :
  ∃g off,a=some ⟨g,off,none⟩/\g<w.heap.size/\w.cell? ⟨g,off+k * 3,none⟩=some (.string fs[k].1)/\w.cell? ⟨g,off+k * 3+1,none⟩=some (.string fs[k].2.1)/\w.cell? ⟨g,off+k * 3+2,none⟩=some (.bool fs[k].2.2):=by
 obtain⟨g,off,z8,he,hg,hc⟩:=h.form (by rw[qdz];omega);cases he;have hr:=qbP (fun f:Tm.Fact=>[Value.string f.1,Value.string f.2.1,Value.bool f.2.2]) 3 (fun _=>rfl) fs k hk;exact⟨g,off,rfl,hg,hc (k * 3) _ (hr 0 (by omega)),hc (k * 3+1) _ (hr 1 (by omega)),hc (k * 3+2) _ (hr 2 (by omega))⟩
theorem qfN(fs:List Tm.Fact)(k:Nat)(hk:k<fs.length)(f:Tm.Fact):(((qP fs).set (k * 3) (.string f.1)).set (k * 3+1) (.string f.2.1)).set (k * 3+2) (.bool f.2.2)=qP (fs.set k f):=by
 have e0:fs=fs.take k++fs[k]::fs.drop (k+1):=by rw[<-List.drop_eq_getElem_cons hk,List.take_append_drop]
 have e1:qP fs=qP (fs.take k)++.string fs[k].1::.string fs[k].2.1::.bool fs[k].2.2::qP (fs.drop (k+1)):=by
  conv=>lhs;rw[e0]
  rw[qaX];rfl
 have e2:qP (fs.set k f)=qP (fs.take k)++.string f.1::.string f.2.1::.bool f.2.2::qP (fs.drop (k+1)):=by
  rw[List.set_eq_take_append_cons_drop,if_pos hk,qaX];rfl
 have hl:(qP (fs.take k)).length=k * 3:=by rw[qdz];simp;omega
 rw[e1,e2];generalize qP (fs.take k)=A at hl;generalize qP (fs.drop (k+1))=R;rw[<-hl];simp
structure Bk(w:World)(X:Nat)(F S:Nat->Prop)(vf:Value)(bb bx bc bm:Nat)(st:Int)(sh:Bool)(lns:List Tm.Ln)(fs:List Tm.Fact)(s:Qt):Prop where
 base:∃W:World,W.heap.size=X/\Jd W bc bm st sh lns/\Below X W w
 ok:Zt st lns
 ix:Ix w X S bx bc st sh lns s
 sub:∀i,S i->F i
 from_:∀i,F i->X<=i/\i<w.heap.size
 own:F bb
 jM:¬S bb
 c0:w.cell? ⟨bb,0,none⟩=some (.pointer (some ⟨bc,0,none⟩))
 c1:w.cell? ⟨bb,1,none⟩=some (.pointer (some ⟨bx,0,none⟩))
 c2:w.cell? ⟨bb,2,none⟩=some vf
 c3:w.cell? ⟨bb,3,none⟩=some (.bool true)
 free:∀o,w.frozen? ⟨bb,o,none⟩=false
 row:w.ownsRow X 127 3 vf fs.length (qP fs)
 xt:∀g,vf.ownBlock=some g->F g/\g≠bb/\¬S g
 short:∀f∈fs,f.1.size<=64
theorem Bk.size(h:Bk w X F S vf bb bx bc bm st sh lns fs s):X<=w.heap.size:=by
 obtain⟨W,hW,_,hb⟩:=h.base;rw[<-hW];exact hb.size
theorem Bk.qhQ(h:Bk w X F S vf bb bx bc bm st sh lns fs s):Jd w bc bm st sh lns:=by
 obtain⟨W,hW,hC,hb⟩:=h.base;exact hC.below (by rw[hW];exact hb)
theorem Bk.vV{T:Nat->Prop}(h:Bk w X F S vf bb bx bc bm st sh lns fs s)(hf:Qy T w w')(hd:∀i,F i->¬T i)(hT:∀i,T i->X<=i):Bk w' X F S vf bb bx bc bm st sh lns fs s:=by
 have hl:=(h.from_ bb h.own).2;obtain⟨W,hW,hC,hb⟩:=h.base;have hn:=hd bb h.own
 exact⟨⟨W,hW,hC,hb.trans (hf.below hT h.size)⟩,h.ok,h.ix.vV hf (fun i hi=>hd i (h.sub i hi)),h.sub,fun i hi=>⟨(h.from_ i hi).1,Nat.lt_of_lt_of_le (h.from_ i hi).2 hf.size⟩,h.own,h.jM,
  by rw[hf.cell (p:=⟨bb,0,none⟩) hl hn];exact h.c0,by rw[hf.cell (p:=⟨bb,1,none⟩) hl hn];exact h.c1,by rw[hf.cell (p:=⟨bb,2,none⟩) hl hn];exact h.c2,by rw[hf.cell (p:=⟨bb,3,none⟩) hl hn];exact h.c3,
  fun o=>by rw[hf.frozen (p:=⟨bb,o,none⟩) hl hn];exact h.free o,hf.owns h.row (fun g e=>hd g (h.xt g e).1),h.xt,h.short⟩
theorem Bk.below(h:Bk w X F S vf bb bx bc bm st sh lns fs s)(hb:Below w.heap.size w w'):Bk w' X F S vf bb bx bc bm st sh lns fs s :=
 h.vV (Qy.of (S:=fun _=>False) hb) (fun _ _ e=>e) (fun _ e=>e.elim)
theorem Bk.qqH(h:Bk w X F S vf bb bx bc bm st sh lns fs s):Bk (w.setCell ⟨bb,3,none⟩ (.bool true)) X F S vf bb bx bc bm st sh lns fs s:=by
 have hf:Qy (fun i=>i=bb) w (w.setCell ⟨bb,3,none⟩ (.bool true)):=Qy.setCell (p:=⟨bb,3,none⟩) (Qy.refl (fun i=>i=bb) w) (.inl rfl) _;obtain⟨W,hW,hC,hb⟩:=h.base;have hX:=(h.from_ bb h.own).1
 exact⟨⟨W,hW,hC,hb.setCell (p:=⟨bb,3,none⟩) hX _⟩,h.ok,h.ix.vV hf (fun i hi e=>h.jM (e▸hi)),h.sub,fun i hi=>⟨(h.from_ i hi).1,Nat.lt_of_lt_of_le (h.from_ i hi).2 hf.size⟩,h.own,h.jM,
  by rw[World.cell?_setCell_other _ _ _ _ (by simp)];exact h.c0,by rw[World.cell?_setCell_other _ _ _ _ (by simp)];exact h.c1,by rw[World.cell?_setCell_other _ _ _ _ (by simp)];exact h.c2,World.cell?_setCell_same _ _ _ h.c3,
  fun o=>by rw[World.frozen?_setCell];exact h.free o,hf.owns h.row (fun g e he=>(h.xt g e).2.1 he),h.xt,h.short⟩
theorem Bk.step{s':Qt}(h:Bk w X F S vf bb bx bc bm st sh lns fs s)(hs:Yu w w' X S bx bc st sh lns s') :
  ∃F' S':Nat->Prop,Bk w' X F' S' vf bb bx bc bm st sh lns fs s'/\Qy F w w'/\∀i,F' i->F i\/w.heap.size<=i:=by
 obtain⟨S',hi,hf,hS⟩:=hs;have hl:=(h.from_ bb h.own).2;obtain⟨W,hW,hC,hb⟩:=h.base
 refine⟨fun i=>F i\/S' i,S',⟨⟨W,hW,hC,hb.trans (hf.below (fun i hi=>(h.from_ i (h.sub i hi)).1) h.size)⟩,h.ok,hi,fun i hi=>.inr hi,fun i hi'=>?_,.inl h.own,fun e=>?_,
  by rw[hf.cell (p:=⟨bb,0,none⟩) hl h.jM];exact h.c0,by rw[hf.cell (p:=⟨bb,1,none⟩) hl h.jM];exact h.c1,by rw[hf.cell (p:=⟨bb,2,none⟩) hl h.jM];exact h.c2,by rw[hf.cell (p:=⟨bb,3,none⟩) hl h.jM];exact h.c3,
  fun o=>by rw[hf.frozen (p:=⟨bb,o,none⟩) hl h.jM];exact h.free o,hf.owns h.row (fun g e=>(h.xt g e).2.2),fun g e=>?_,h.short⟩,hf.mono h.sub,fun i hi'=>?_⟩
 ·rcases hi' with e|e
  ·exact⟨(h.from_ i e).1,Nat.lt_of_lt_of_le (h.from_ i e).2 hf.size⟩
  ·exact hi.from_ i e
 ·rcases hS bb e with e|e
  ·exact h.jM e
  ·omega
 ·obtain⟨h1,h2,h3⟩:=h.xt g e;refine⟨.inl h1,h2,fun e'=>?_⟩;rcases hS g e' with e'|e'
  ·exact h3 e'
  ·have:=(h.from_ g h1).2;omega
 ·rcases hi' with e|e
  ·exact .inl e
  ·rcases hS i e with e|e
   ·exact .inl (h.sub i e)
   ·exact .inr e
theorem Bk.qo4{g:Nat}(h:Bk w X F S (.slice (some ⟨g,0,none⟩) n cap) bb bx bc bm st sh lns fs s)(hk:k<fs.length)(f:Tm.Fact)(hf1:f.1.size<=64) :
  Bk (((w.setCell ⟨g,k * 3,none⟩ (.string f.1)).setCell ⟨g,k * 3+1,none⟩ (.string f.2.1)).setCell ⟨g,k * 3+2,none⟩ (.bool f.2.2)) X F S (.slice (some ⟨g,0,none⟩) n cap) bb bx bc bm st sh lns (fs.set k f) s/\Qy F w (((w.setCell ⟨g,k * 3,none⟩ (.string f.1)).setCell ⟨g,k * 3+1,none⟩ (.string f.2.1)).setCell ⟨g,k * 3+2,none⟩ (.bool f.2.2)):=by
 obtain⟨hg1,hg2,hg3⟩:=h.xt g rfl;have hf:Qy (fun i=>i=g) w (((w.setCell ⟨g,k * 3,none⟩ (.string f.1)).setCell ⟨g,k * 3+1,none⟩ (.string f.2.1)).setCell ⟨g,k * 3+2,none⟩ (.bool f.2.2)):=Qy.setCell (p:=⟨g,k * 3+2,none⟩) (Qy.setCell (p:=⟨g,k * 3+1,none⟩) (Qy.setCell (p:=⟨g,k * 3,none⟩) (Qy.refl (fun i=>i=g) w) (.inl rfl) _) (.inl rfl) _) (.inl rfl) _;have hl:=(h.from_ bb h.own).2;obtain⟨W,hW,hC,hb⟩:=h.base;have hn:n=fs.length:=((Reads.qn h.row).fits).1
 have qp:(((w.setCell ⟨g,k * 3,none⟩ (.string f.1)).setCell ⟨g,k * 3+1,none⟩ (.string f.2.1)).setCell ⟨g,k * 3+2,none⟩ (.bool f.2.2)).ownsRow X 127 3 (.slice (some ⟨g,0,none⟩) n cap) (fs.set k f).length (qP (fs.set k f)):=by
  rw[<-qfN fs k hk f,List.length_set];have:=h.row;subst hn;exact qbw (qbw (qbw this _ _) _ _) _ _
 refine⟨⟨⟨W,hW,hC,hb.trans (hf.below (fun i hi=>by subst hi;exact(h.from_ i hg1).1) h.size)⟩,h.ok,h.ix.vV hf (fun i hi e=>hg3 (e▸hi)),h.sub,fun i hi=>⟨(h.from_ i hi).1,Nat.lt_of_lt_of_le (h.from_ i hi).2 hf.size⟩,h.own,h.jM,
  by rw[hf.cell (p:=⟨bb,0,none⟩) hl (fun e=>hg2 e.symm)];exact h.c0,by rw[hf.cell (p:=⟨bb,1,none⟩) hl (fun e=>hg2 e.symm)];exact h.c1,by rw[hf.cell (p:=⟨bb,2,none⟩) hl (fun e=>hg2 e.symm)];exact h.c2,by rw[hf.cell (p:=⟨bb,3,none⟩) hl (fun e=>hg2 e.symm)];exact h.c3,
  fun o=>by rw[hf.frozen (p:=⟨bb,o,none⟩) hl (fun e=>hg2 e.symm)];exact h.free o,qp,h.xt,fun f' hf'=>?_⟩,hf.mono (fun i hi=>hi▸hg1)⟩
 rcases List.mem_or_eq_of_mem_set hf' with e|e
 ·exact h.short f' e
 ·rw[e];exact hf1
theorem Bk.grow{w':World}{v':Value}{f:Tm.Fact}{o:Obj}(h:Bk w X F S vf bb bx bc bm st sh lns fs s)(hf1:f.1.size<=64)
  (qp:w'.ownsRow X 127 3 v' (fs.length+1) (qP fs++qP [f])) (hg:(w.alloc o).grownBy w' vf.ownBlock) (hat:v'.ownBlock=vf.ownBlock\/v'.ownBlock=some (w.alloc o).heap.size) :
  ∃F':Nat->Prop,Bk (w'.setCell ⟨bb,2,none⟩ v') X F' S v' bb bx bc bm st sh lns (fs++[f]) s/\Qy F w (w'.setCell ⟨bb,2,none⟩ v')/\∀i,F' i->F i\/w.heap.size<=i:=by
 have hl:=(h.from_ bb h.own).2;have hf0:Qy (fun i=>vf.ownBlock=some i) w w':=((Qy.refl _ w).alloc o).grown hg (fun k e=>.inl e);have hnb:vf.ownBlock≠some bb:=fun e=>(h.xt bb e).2.1 rfl;have hf:Qy (fun i=>vf.ownBlock=some i\/i=bb) w (w'.setCell ⟨bb,2,none⟩ v'):=(hf0.mono (fun i hi=>.inl hi)).setCell (.inl (.inr rfl)) _
 have hv':∀g,v'.ownBlock=some g->vf.ownBlock=some g\/w.heap.size+1=g:=fun g e=>by
  rcases hat with e'|e'
  ·exact .inl (by rw[<-e'];exact e)
  ·rw[e']at e;simp at e;exact .inr e
 have qxJ:v'.ownBlock≠some bb:=fun e=>by
  rcases hv' bb e with e|e
  ·exact hnb e
  ·omega
 have hcb:∀q,w'.cell? ⟨bb,q,none⟩=w.cell? ⟨bb,q,none⟩:=fun q=>hf0.cell (p:=⟨bb,q,none⟩) hl hnb
 have hzz:w.heap.size+1<=w'.heap.size:=by have:=hg.size;simpa using this
 obtain⟨W,hW,hC,hb⟩:=h.base
 refine⟨fun i=>F i\/v'.ownBlock=some i,⟨⟨W,hW,hC,hb.trans (hf.below (fun i hi=>?_) h.size)⟩,h.ok,h.ix.vV hf (fun i hi e=>?_),fun i hi=>.inl (h.sub i hi),fun i hi=>?_,.inl h.own,h.jM,
  by rw[World.cell?_setCell_other _ _ _ _ (by simp),hcb];exact h.c0,by rw[World.cell?_setCell_other _ _ _ _ (by simp),hcb];exact h.c1,World.cell?_setCell_same _ _ _ ((hcb 2).trans h.c2),by rw[World.cell?_setCell_other _ _ _ _ (by simp),hcb];exact h.c3,
  fun q=>by rw[World.frozen?_setCell,hf0.frozen (p:=⟨bb,q,none⟩) hl hnb];exact h.free q,?_,fun g e=>?_,fun f' hf'=>?_⟩,hf.mono (fun i hi=>?_),fun i hi=>?_⟩
 ·rcases hi with e|e
  ·exact(h.from_ i (h.xt i e).1).1
  ·subst e;exact(h.from_ i h.own).1
 ·rcases e with e|e
  ·exact(h.xt i e).2.2 hi
  ·subst e;exact h.jM hi
 ·rcases hi with e|e
  ·exact⟨(h.from_ i e).1,Nat.lt_of_lt_of_le (h.from_ i e).2 hf.size⟩
  ·have:=qp.lt i e;exact⟨this.1,by simpa[World.setCell]using this.2⟩
 ·rw[qaX,List.length_append];exact qO qp (fun g e=>Below.heap_setCell _ _ _ _ (by rintro rfl;exact qxJ e))
 ·refine⟨.inr e,fun e'=>qxJ (e'▸e),fun e'=>?_⟩;rcases hv' g e with e|e
  ·exact(h.xt g e).2.2 e'
  ·have:=(h.from_ g (h.sub g e')).2;omega
 ·rcases List.mem_append.1 hf' with e|e
  ·exact h.short f' e
  ·rw[List.mem_singleton.1 e];exact hf1
 ·rcases hi with e|e
  ·exact(h.xt i e).1
  ·subst e;exact h.own
 ·rcases hi with e|e
  ·exact .inl e
  ·rcases hv' i e with e|e
   ·exact .inl (h.xt i e).1
   ·exact .inr (by omega)
theorem qi7(p q:ByteArray)(w:World)(hB:Bk w X F S vf bb bx bc bm st sh lns fs s)(hp:p.size<=64)(hq:q.size<=64) :
  Calls Tryz.prog 148 #[.pointer (some ⟨bb,0,none⟩),.string p,.string q] w fun e w'=>e=.returned (.bool (decide (qe lns st sh p q=0)))/\Bk w' X F S vf bb bx bc bm st sh lns fs s/\Qy (fun i=>i=bb) w w':=by
 have HBK:=qb hB;have c0:=hB.c0;have hl:=(hB.from_ bb hB.own).2;have hr:=qoj lns st sh p q;obtain⟨c,hcd⟩:∃c,qe lns st sh p q=c:=⟨_,rfl⟩
 rw[hcd]at hr⊢;have HCD:=qb hcd;clear hB hcd;go_enter Tryz.func148,Tryz.ntmps148
 go_wp2_with fail
 refine(Qbj lns bc bm st sh p q _ HBK.out.qhQ HBK.out.ok).mono ?_;rw[if_pos ⟨hp,hq⟩,HCD.out];rintro e w1 ⟨rfl,hb1⟩;have Quw:=qb (HBK.out.below hb1);have c3:=Quw.out.c3;have f3:=Quw.out.free 3;have QN:Hid (Bk (w1.setCell ⟨bb,3,none⟩ (.bool true)) X F S vf bb bx bc bm st sh lns fs s/\Qy (fun i=>i=bb) w (w1.setCell ⟨bb,3,none⟩ (.bool true))):=⟨Quw.out.qqH,Qy.setCell (S:=fun i=>i=bb) (p:=⟨bb,3,none⟩) (Qy.of hb1) (.inl rfl) _⟩
 clear hb1 HCD c0;rcases hr with rfl|rfl|rfl
 all_goals
  go_wp2;go_ret;exact⟨rfl,QN.out⟩
def vG(c:ByteArray->ByteArray->Int)(fs:List Tm.Fact)(k:ByteArray):Int:=match Tm.findF c fs k with|some i=>(i:Int)|none=>-1
theorem qqI{k:ByteArray}{i:Nat}(hi:i<fs.length)(h:c (fs[i]).1 k=0)(hn:∀j (hj:j<i),c (fs[j]'(by omega)).1 k≠0):vG c fs k=i:=by
 have:Tm.findF c fs k=some i:=List.findIdx?_eq_some_iff_getElem.2 ⟨hi,by simpa using h,fun j hj=>by simpa using hn j hj⟩;unfold vG;rw[this]
theorem qqJ{k:ByteArray}(hn:∀j (hj:j<fs.length),c (fs[j]).1 k≠0):vG c fs k=-1:=by
 have:Tm.findF c fs k=none:=List.findIdx?_eq_none_iff.2 (fun f hf=>by
  obtain⟨j,hj,rfl⟩:=List.mem_iff_getElem.1 hf
  simpa using hn j hj)
 unfold vG;rw[this]
theorem qgC(k:ByteArray)(w:World)(hB:Bk w X F S vf bb bx bc bm st sh lns fs s)(hk:k.size<=64)(j9:fs.length<=1000000) :
  Calls Tryz.prog 107 #[.pointer (some ⟨bb,0,none⟩),.string k] w fun e w'=>e=.returned (.int .i64 (vG (qe lns st sh) fs k))/\Bk w' X F S vf bb bx bc bm st sh lns fs s/\Qy (fun i=>i=bb) w w':=by
 have HBK:=qb hB;have HSH:=qb hB.short;obtain⟨a,cap,rfl⟩:=(Reads.qn hB.row).shape;obtain⟨n,hn⟩:∃n,fs.length=n:=⟨_,rfl⟩
 rw[hn]at j9 HBK⊢;have HN:=qb hn;clear hB hn;go_enter Tryz.func107,Tryz.ntmps107
 go_wp2_with fail
 go_loopw [5] (fun i wr=>∃j:Nat,j<=n/\i=.int .i64 j/\Hid (∀t (ht:t<j) (ht':t<fs.length),qe lns st sh (fs[t]).1 k≠0)/\Hid (Bk wr X F S (.slice a n cap) bb bx bc bm st sh lns fs s)/\Hid (Qy (fun i=>i=bb) w wr)) (fun i _=>n-(intOf i).toNat)
 case atStart=>exact⟨0,Nat.zero_le _,rfl,(fun t ht=>by omega),HBK.out,Qy.refl _ _⟩
 case round =>
  obtain⟨j,hj,rfl,HNO,HB,HF⟩:=hrel;have c2:=HB.out.c2;have hl:=(HB.out.from_ bb HB.out.own).2;by_cases hlt:j<n
  ·have hjl:j<fs.length:=by rw[HN.out];exact hlt
   have hrd:=Reads.qn HB.out.row;obtain⟨g,off,rfl,hg,k0,k1,k2⟩:=qim hrd hjl;have hfs:=HSH.out fs[j] (List.getElem_mem hjl);have HJ:Hid (qe lns st sh (fs[j]).1 k=0->vG (qe lns st sh) fs k=j):=fun h=>qqI hjl h (fun t ht=>HNO.out t ht (by omega))
   have HJ2:Hid (qe lns st sh (fs[j]).1 k≠0->∀t (ht:t<j+1) (ht':t<fs.length),qe lns st sh (fs[t]).1 k≠0):=fun h t ht ht'=>by
    by_cases e:t=j
    ·subst e;exact h
    ·exact HNO.out t (by omega) ht'
   generalize fs[j]=f at *;obtain⟨fk,fv,ft⟩:=f;simp only at k0 k1 k2 hfs HJ HJ2
   have i1:(0:Int)<=(j:Int):=by omega
   have i2:(j:Int)<(n:Int):=by omega
   clear hrd;go_wp2_with fail
   refine(qi7 fk k _ HB.out hfs hk).mono ?_;rintro e w1 ⟨rfl,hb1,hf1⟩;have HB1:=qb hb1;have HF1:=qb (HF.out.trans hf1 (fun i hi=>.inl hi));clear hb1 hf1;by_cases h0:qe lns st sh fk k=0
   ·rw[decide_eq_true h0];have HJ':=qb (HJ.out h0);go_wp2;go_ret;exact⟨yf HJ'.out.symm,HB1.out,HF1.out⟩
   ·rw[decide_eq_false h0];have HJ':=qb (HJ2.out h0);go_wp2;go_roundw
    case rel=>exact⟨j+1,by omega,by go_num,HJ'.out,HB1.out,HF1.out⟩
    case measure=>simp[intOf];omega
  ·have HNN:Hid (vG (qe lns st sh) fs k=-1):=qqJ (fun t ht=>HNO.out t (by rw[HN.out]at ht;omega) ht);go_wp2;go_ret;exact⟨yf HNN.out.symm,HB.out,HF.out⟩
def qct(fs:List Tm.Fact)(j:Nat):Nat:=Tm.qfp (fs.take j)
theorem qoo{j:Nat}(hj:j<fs.length):qct fs (j+1)=qct fs j+(if(fs[j]).2.2 then 1 else 0):=by
 unfold qct Tm.qfp;rw[List.take_add_one,List.getElem?_eq_getElem hj,List.filter_append,List.length_append];cases h:(fs[j]).2.2<;>simp[h]
theorem qsF(fs:List Tm.Fact)(j:Nat):qct fs j<=j:=by
 unfold qct Tm.qfp;have:=List.length_filter_le (fun f:Tm.Fact=>f.2.2) (fs.take j);simp at this;omega
theorem qmH(w:World)(hB:Bk w X F S vf bb bx bc bm st sh lns fs s)(j9:fs.length<=1000000) :
  Calls Tryz.prog 30 #[.pointer (some ⟨bb,0,none⟩)] w fun e w'=>e=.returned (.int .i64 (Tm.qfp fs:Nat))/\w'=w:=by
 obtain⟨a,cap,rfl⟩:=(Reads.qn hB.row).shape;have hrd:=Reads.qn hB.row;have c2:=hB.c2;have hl:=(hB.from_ bb hB.own).2;obtain⟨n,hn⟩:∃n,fs.length=n:=⟨_,rfl⟩
 rw[hn]at j9 c2;have HRD:=qb hrd;rw[hn]at HRD;have HN:=qb hn
 have HH:Hid (qct fs n=Tm.qfp fs):=by unfold Hid qct;rw[<-hn,List.take_length]
 clear hB hrd hn;go_enter Tryz.func30,Tryz.ntmps30
 go_wp2_with fail
 go_loopw [3,4] (fun x i wr=>∃j:Nat,j<=n/\i=.int .i64 j/\x=.int .i64 (qct fs j:Nat)/\wr=w) (fun _ i _=>n-(intOf i).toNat)
 case atStart=>exact⟨0,Nat.zero_le _,rfl,rfl,rfl⟩
 case round =>
  obtain⟨j,hj,rfl,rfl,rfl⟩:=hrel;have hle:=qsF fs j;by_cases hlt:j<n
  ·have hjl:j<fs.length:=by rw[HN.out];exact hlt
   obtain⟨g,off,rfl,hg,k0,k1,k2⟩:=qim (fs:=fs) (by rw[HN.out];exact HRD.out) hjl;have HST:=qb (qoo hjl);generalize fs[j]=f at *;obtain⟨fk,fv,ft⟩:=f;simp only at k0 k1 k2 HST
   have i1:(0:Int)<=(j:Int):=by omega
   have i2:(j:Int)<(n:Int):=by omega
   cases ft
   ·go_wp2;go_roundw
    case rel=>exact⟨j+1,by omega,by go_num,by rw[HST.out];simp,by first|rfl|trivial⟩
    case measure=>simp[intOf];omega
   ·go_wp2;go_roundw
    case rel=>exact⟨j+1,by omega,by go_num,by rw[HST.out];simp,by first|rfl|trivial⟩
    case measure=>simp[intOf];omega
  ·have e:j=n:=by omega
   subst e;go_wp2;go_ret;exact⟨by rw[HH.out];rfl,rfl⟩
theorem qcu(h:w.ownsRow X 127 3 vf fs.length (qP fs))(hk:k<fs.length) :
  ∃g cap,vf=.slice (some ⟨g,0,none⟩) fs.length cap/\g<w.heap.size/\w.cell? ⟨g,k * 3,none⟩=some (.string fs[k].1)/\w.cell? ⟨g,k * 3+1,none⟩=some (.string fs[k].2.1)/\w.cell? ⟨g,k * 3+2,none⟩=some (.bool fs[k].2.2)/\∀o,w.frozen? ⟨g,o,none⟩=false:=by
 have hrd:=Reads.qn h;rcases h.2 with⟨h1,h2⟩|⟨g,cap,cur,h1,hb,hg,_⟩
 ·omega
 ·subst h1;obtain⟨g',off,he,hlt,k0,k1,k2⟩:=qim hrd hk;cases he;rw[Nat.zero_add]at k0 k1 k2;exact⟨g,cap,rfl,hlt,k0,k1,k2,fun o=>by simp[World.frozen?,hg]⟩
def Jt(w w':World)(X:Nat)(F:Nat->Prop)(bb bx bc bm:Nat)(st:Int)(sh:Bool)(lns:List Tm.Ln)(fs':List Tm.Fact)(s':Qt):Prop :=
 ∃(F' S':Nat->Prop) (vf':Value),Bk w' X F' S' vf' bb bx bc bm st sh lns fs' s'/\Qy F w w'/\∀i,F' i->F i\/w.heap.size<=i
theorem Bk.refl(h:Bk w X F S vf bb bx bc bm st sh lns fs s):Jt w w X F bb bx bc bm st sh lns fs s:=⟨F,S,vf,h,Qy.refl _ _,fun _ hi=>.inl hi⟩
theorem Jt.trans{u v:World}{F1:Nat->Prop}(h1:Qy F u v)(h2:∀i,F1 i->F i\/u.heap.size<=i)(h3:Jt v w X F1 bb bx bc bm st sh lns fs s):Jt u w X F bb bx bc bm st sh lns fs s:=by
 obtain⟨F',S',vf',hB,hf,hi⟩:=h3;refine⟨F',S',vf',hB,h1.trans hf h2,fun i hi'=>?_⟩;rcases hi i hi' with e|e
 ·exact h2 i e
 ·exact .inr (by have:=h1.size;omega)
theorem Tryz.qux:(Tryz.prog.info? 127).map (fun i=>(i.zero,i.size,i.bytes))=some (some (.agg #[.string ⟨#[]⟩,.string ⟨#[]⟩,.bool false]),3,40):=by kernel_rfl
theorem qmI{k v:ByteArray}(hk:k.size<=64)(hv:v.size<=64):qW c s k v=if Tm.yd c (qv s) k=false/\64<=(qv s).length then 8 else 0:=by
 unfold qW;rw[if_neg (by omega)]
theorem qop(k0 v0:ByteArray)(w:World)(hB:Bk w X F S vf bb bx bc bm st sh lns fs s)(hfo:Tm.Zh (qe lns st sh) fs (qv s))(j9:fs.length<=1000) :
  Calls Tryz.prog 60 #[.pointer (some ⟨bb,0,none⟩),.agg #[.string k0,.string v0]] w fun e w'=>e=.returned (.tuple #[])/\∃fs',Jt w w' X F bb bx bc bm st sh lns fs' (zg (qe lns st sh) s (yH k0) (yH v0))/\Tm.Zh (qe lns st sh) fs' (qv (zg (qe lns st sh) s (yH k0) (yH v0)))/\fs'.length<=fs.length+1:=by
 have hT:=qay lns st sh;have hRS:=hB.ix.qbu;have HBK:=qb hB;have HFO:=qb hfo;have HHE:=qb (hfo.here hT hRS);have qcK:=qgt k0;have qxK:=qgt v0;have XR:=qb (hfo.has hT (yH k0));have HPE:=qb (qmI (c:=qe lns st sh) (s:=s) qcK qxK);have HPS:=qb (@qdR (qe lns st sh) s (yH k0) (yH v0));have HPN:=qb (@qan (qe lns st sh) s (yH k0) (yH v0));have HAT:=qb (fun i (h:Tm.findF (qe lns st sh) fs (yH k0)=some i)=>hfo.putAt hT (v:=yH v0) h qcK);have Quy:=qb (fun(h:Tm.findF (qe lns st sh) fs (yH k0)=none)=>hfo.qxG (v:=yH v0) h qcK);have HB0:Hid (Bk (w.alloc (.cells #[.string k0,.string v0] 67)) X F S vf bb bx bc bm st sh lns fs s):=hB.below ((Below.refl _ _).alloc (Nat.le_refl _) _);have c1:=HB0.out.c1;have hl:=(hB.from_ bb hB.own).2;clear hB hfo hRS;go_enter Tryz.func60,Tryz.ntmps60
 go_wp2_with fail
 refine(qj2 k0 _).mono ?_;rintro e w0 ⟨rfl,rfl⟩;go_wp2_with fail
 refine(qj2 v0 _).mono ?_;rintro e w0 ⟨rfl,rfl⟩;obtain⟨k,hkd⟩:∃k,yH k0=k:=⟨_,rfl⟩
 obtain⟨v,hvd⟩:∃v,yH v0=v:=⟨_,rfl⟩
 have HKD:Hid (yH k0=k):=hkd;have HVD:Hid (yH v0=v):=hvd;rw[hkd]at XR HPE HPS HPN HAT Quy qcK⊢;rw[hvd]at HPE HPS HPN HAT Quy qxK⊢;clear hkd hvd;go_wp2_with fail
 refine(QgA lns bc bm st sh X S bx s k v _ HB0.out.qhQ HB0.out.ok HB0.out.ix HB0.out.size).mono ?_;rintro e w1 ⟨rfl,jq⟩;obtain⟨F1,S1,hB1,hf1,hs1⟩:=HB0.out.step jq;have HB1:=qb hB1;have HF1:Hid (Qy F w w1):=(((Qy.refl F w).alloc _).trans hf1 (fun i hi=>.inl hi))
 have HS1:Hid (∀i,F1 i->F i\/w.heap.size<=i):=fun i hi=>by
  rcases hs1 i hi with e|e
  ·exact .inl e
  ·exact .inr (by simp at e;omega)
 clear hB1 hf1 hs1 jq c1;go_wp2_with fail
 refine(qgC k _ HB1.out qcK (by omega)).mono ?_;rintro e w2 ⟨rfl,hB2,hf2⟩;have HB2:=qb hB2;have HF2:Hid (Qy F w w2):=HF1.out.trans hf2 (fun i hi=>HS1.out i (by rw[hi];exact HB1.out.own));clear hB2 hf2;go_wp2_with fail
 refine(qmH _ HB2.out (by omega)).mono ?_;rintro e w9 ⟨rfl,h9⟩;have h9:=h9.symm;subst h9;rw[HHE.out];have hl2:=(HB2.out.from_ bb HB2.out.own).2;have c2:=HB2.out.c2;have c3:=HB2.out.c3;have f3:=HB2.out.free 3;have f2:=HB2.out.free 2;have HB3:=qb HB2.out.qqH;have HF3:Hid (Qy F w (w2.setCell ⟨bb,3,none⟩ (.bool true))):=Qy.setCell (p:=⟨bb,3,none⟩) HF2.out (HS1.out bb HB2.out.own) _
 have hl9:64<=(qv s).length\/(qv s).length<64:=by omega
 obtain⟨N,hN⟩:∃N,(qv s).length=N:=⟨_,rfl⟩
 rw[hN]at HPE HHE hl9⊢;clear hN
 cases hff:Tm.findF (qe lns st sh) fs k with
 | none =>
  have hfi:vG (qe lns st sh) fs k=-1:=by unfold vG;rw[hff]
  rw[hff]at XR;simp only at XR;have QyM:=qb (Quy.out hff);rw[hfi];rcases hl9 with xU|qdQ
  ·have hpe:qW (qe lns st sh) s k v=8:=by rw[HPE.out,if_pos ⟨XR.out,xU⟩]
   have QN:Hid (∃fs',Jt w (w2.setCell ⟨bb,3,none⟩ (.bool true)) X F bb bx bc bm st sh lns fs' (zg (qe lns st sh) s k v)/\Tm.Zh (qe lns st sh) fs' (qv (zg (qe lns st sh) s k v))/\fs'.length<=fs.length+1):=by
    refine⟨fs,⟨F1,S1,_,HB3.out,HF3.out,HS1.out⟩,?_,by omega⟩;rw[HPN.out (by rw[hpe];omega)];exact HFO.out
   rw[hpe]
   have i1:(64:Int)<=(N:Int):=by omega
   go_wp2;refine bodyPost_ret (results_none rfl _ _ _) rfl ?_;exact⟨rfl,by rw[HKD.out,HVD.out];exact QN.out⟩
  ·have hpe:qW (qe lns st sh) s k v=0:=by rw[HPE.out,if_neg (by omega)]
   rw[hpe]
   have i1:¬(64:Int)<=(N:Int):=by omega
   have hps:=HPS.out hpe;have Qz5:=qb hps;obtain⟨i0,hi0,hz0,hzs,hzb⟩:=info_parts Tryz.qux;obtain⟨a,cap,rfl⟩:=(Reads.qn HB2.out.row).shape
   have HW:Hid (∀v' w4,w4.ownsRow X 127 3 v' (fs.length+1) (qP fs++[.string ⟨#[]⟩,.string ⟨#[]⟩,.bool false])->((w2.setCell ⟨bb,3,none⟩ (.bool true)).alloc (.cells #[.string ⟨#[]⟩,.string ⟨#[]⟩,.bool false] 127)).grownBy w4 (Value.slice a fs.length cap).ownBlock->(v'.ownBlock=(Value.slice a fs.length cap).ownBlock\/v'.ownBlock=some ((w2.setCell ⟨bb,3,none⟩ (.bool true)).alloc (.cells #[.string ⟨#[]⟩,.string ⟨#[]⟩,.bool false] 127)).heap.size) ->
     w4.cell? ⟨bb,2,none⟩=some (.slice a fs.length cap)/\w4.frozen? ⟨bb,2,none⟩=false/\bb<w4.heap.size/\∃g qmJ,v'=.slice (some ⟨g,0,none⟩) (fs.length+1) qmJ/\g<(w4.setCell ⟨bb,2,none⟩ v').heap.size/\(w4.setCell ⟨bb,2,none⟩ v').cell? ⟨bb,2,none⟩=some v'/\(w4.setCell ⟨bb,2,none⟩ v').cell? ⟨g,fs.length * 3,none⟩=some (.string ⟨#[]⟩)/\(w4.setCell ⟨bb,2,none⟩ v').cell? ⟨g,fs.length * 3+1,none⟩=some (.string ⟨#[]⟩)/\(w4.setCell ⟨bb,2,none⟩ v').cell? ⟨g,fs.length * 3+2,none⟩=some (.bool false)/\(∀o,(w4.setCell ⟨bb,2,none⟩ v').frozen? ⟨g,o,none⟩=false) /\
     ∃fs',Jt w ((((w4.setCell ⟨bb,2,none⟩ v').setCell ⟨g,fs.length * 3,none⟩ (.string k)).setCell ⟨g,fs.length * 3+1,none⟩ (.string v)).setCell ⟨g,fs.length * 3+2,none⟩ (.bool true)) X F bb bx bc bm st sh lns fs' (zg (qe lns st sh) s k v)/\Tm.Zh (qe lns st sh) fs' (qv (zg (qe lns st sh) s k v))/\fs'.length<=fs.length+1):=by
    intro v' w4 qp hgr hat
    have hlb:=(HB3.out.from_ bb HB3.out.own).2
    have hz4:(w2.setCell ⟨bb,3,none⟩ (.bool true)).heap.size+1<=w4.heap.size:=by have:=hgr.size;simpa using this
    have hnb:(Value.slice a fs.length cap).ownBlock≠some bb:=fun e=>(HB3.out.xt bb e).2.1 rfl
    have hbk:w4.heap[bb]?=(w2.setCell ⟨bb,3,none⟩ (.bool true)).heap[bb]?:=by rw[hgr.block bb (by simp;simpa using Nat.lt_succ_of_lt hlb) (fun e=>hnb e.symm),Below.heap_alloc _ _ _ hlb]
    obtain⟨F4,hB4,hf4,hi4⟩:=HB3.out.grow (f:=(⟨#[]⟩,⟨#[]⟩,false)) (by decide) qp hgr hat
    have hlen:(fs++[((⟨#[]⟩,⟨#[]⟩,false):Tm.Fact)]).length=fs.length+1:=by simp
    obtain⟨g,qmJ,hv4,hg,y0,y1,y2,fz⟩:=qcu hB4.row (k:=fs.length) (by rw[hlen];omega);rw[hlen]at hv4;subst hv4;simp only[List.getElem_concat_length]at y0 y1 y2;obtain⟨hB5,hf5⟩:=hB4.qo4 (k:=fs.length) (by rw[hlen];omega) (k,v,true) qcK;refine⟨by rw[World.cell?_of_block (a:=⟨bb,2,none⟩) hbk];exact HB3.out.c2,by rw[World.frozen?_of_block (a:=⟨bb,2,none⟩) hbk];exact HB3.out.free 2,by omega,g,qmJ,rfl,hg,hB4.c2,y0,y1,y2,fz,fs++[(k,v,true)],?_,?_,by simp⟩
    ·refine⟨F4,S1,.slice (some ⟨g,0,none⟩) (fs.length+1) qmJ,?_,(HF3.out.trans hf4 (fun i hi=>HS1.out i hi)).trans hf5 (fun i hi=>?_),fun i hi=>?_⟩
     ·have e1:(fs++[((⟨#[]⟩,⟨#[]⟩,false):Tm.Fact)]).set fs.length (k,v,true)=fs++[(k,v,true)]:=by simp
      rw[<-e1];exact hB5
     ·rcases hi4 i hi with e|e
      ·exact HS1.out i e
      ·exact .inr (by have:=HF3.out.size;omega)
     ·rcases hi4 i hi with e|e
      ·exact HS1.out i e
      ·exact .inr (by have:=HF3.out.size;omega)
    ·rw[Qz5.out];exact QyM.out
   have HR3:=qb HB3.out.row;have hX3:X<=(w2.setCell ⟨bb,3,none⟩ (.bool true)).heap.size:=HB3.out.size;have c23:=HB3.out.c2;have hX2:X<=w2.heap.size:=HB2.out.size;have hl3:=(HB3.out.from_ bb HB3.out.own).2;go_wp2_with (at_builtin;go_must (refine xW rfl _ _ 57 57 rfl X 127 127 i0 (.agg #[.string ⟨#[]⟩,.string ⟨#[]⟩,.bool false]) 3 40 Tryz.underlying57 Tryz.underlying57 hi0 hz0 hzs hzb rfl (by omega) _ _ _ rfl (HR3.out.alloc _) ⟨w2.heap.size,0,none⟩ 1 1 [.string ⟨#[]⟩,.string ⟨#[]⟩,.bool false] rfl rfl (qe3 (by simp)) (by intro u hu;simp at hu;rcases hu with rfl|rfl<;>rfl) (by unfold maxLen;omega) (by omega) (by simp;omega) ?_))
   intro v' w4 qp hgr hat
   obtain⟨c24,f24,hl4,g,qmJ,rfl,hg4,d2,y0,y1,y2,fz,qw⟩:=HW.out v' w4 qp hgr (by simpa using hat);have QN:=qb qw;have z0:=fz (fs.length * 3);have z1:=fz (fs.length * 3+1);have z2:=fz (fs.length * 3+2);clear qp hgr hat qw fz;go_wp2;go_end0;exact⟨rfl,by rw[HKD.out,HVD.out];exact QN.out⟩
 | some i =>
  have hfi:vG (qe lns st sh) fs k=(i:Int):=by unfold vG;rw[hff]
  obtain⟨hi,_⟩:=Tm.qbA hff;rw[hff]at XR;simp only[List.getElem?_eq_getElem hi,Option.map_some,Option.getD_some]at XR;rw[hfi];have QqK:=qb (HAT.out i hff);obtain⟨g,cap,rfl,hg,x0,x1,x2,fz⟩:=qcu HB2.out.row hi;obtain⟨g',z8,hv3,hg3,y0,y1,y2,fz3⟩:=qcu HB3.out.row hi;cases hv3;have c23:=HB3.out.c2;have hl3:=(HB3.out.from_ bb HB3.out.own).2;have z0:=fz3 (i * 3);have z1:=fz3 (i * 3+1);have z2:=fz3 (i * 3+2)
  have HOK:Hid (qW (qe lns st sh) s k v=0->∃fs',Jt w ((((w2.setCell ⟨bb,3,none⟩ (.bool true)).setCell ⟨g,i * 3,none⟩ (.string k)).setCell ⟨g,i * 3+1,none⟩ (.string v)).setCell ⟨g,i * 3+2,none⟩ (.bool true)) X F bb bx bc bm st sh lns fs' (zg (qe lns st sh) s k v)/\Tm.Zh (qe lns st sh) fs' (qv (zg (qe lns st sh) s k v))/\fs'.length<=fs.length+1):=fun hpe=>by
   obtain⟨hB5,hf5⟩:=HB3.out.qo4 hi (k,v,true) qcK;refine⟨fs.set i (k,v,true),⟨F1,S1,_,hB5,HF3.out.trans hf5 (fun i hi=>HS1.out i hi),HS1.out⟩,?_,by simp⟩;rw[HPS.out hpe];exact QqK.out
  have j1:(0:Int)<=(i:Int):=by omega
  have j2:(i:Int)<(fs.length:Int):=by omega
  have j3:¬(i:Int)<0:=by omega
  generalize fs[i]=f at *;obtain⟨fk,fv,ft⟩:=f;simp only at x0 x1 x2 y0 y1 y2 XR;clear fz fz3;cases ft
  ·rcases hl9 with xU|qdQ
   ·have hpe:qW (qe lns st sh) s k v=8:=by rw[HPE.out,if_pos ⟨XR.out,xU⟩]
    have QN:Hid (∃fs',Jt w (w2.setCell ⟨bb,3,none⟩ (.bool true)) X F bb bx bc bm st sh lns fs' (zg (qe lns st sh) s k v)/\Tm.Zh (qe lns st sh) fs' (qv (zg (qe lns st sh) s k v))/\fs'.length<=fs.length+1):=by
     refine⟨fs,⟨F1,S1,_,HB3.out,HF3.out,HS1.out⟩,?_,by omega⟩;rw[HPN.out (by rw[hpe];omega)];exact HFO.out
    rw[hpe]
    have i1:(64:Int)<=(N:Int):=by omega
    go_wp2;refine bodyPost_ret (results_none rfl _ _ _) rfl ?_;exact⟨rfl,by rw[HKD.out,HVD.out];exact QN.out⟩
   ·have hpe:qW (qe lns st sh) s k v=0:=by rw[HPE.out,if_neg (by omega)]
    have QN:=qb (HOK.out hpe);rw[hpe]
    have i1:¬(64:Int)<=(N:Int):=by omega
    go_wp2;go_end0;exact⟨rfl,by rw[HKD.out,HVD.out];exact QN.out⟩
  ·have hpe:qW (qe lns st sh) s k v=0:=by rw[HPE.out,if_neg (fun e=>by rw[XR.out]at e;cases e.1)]
   have QN:=qb (HOK.out hpe);rw[hpe];rcases hl9 with xU|qdQ
   ·have i1:(64:Int)<=(N:Int):=by omega
    go_wp2;go_end0;exact⟨rfl,by rw[HKD.out,HVD.out];exact QN.out⟩
   ·have i1:¬(64:Int)<=(N:Int):=by omega
    go_wp2;go_end0;exact⟨rfl,by rw[HKD.out,HVD.out];exact QN.out⟩
theorem qj5(fs:List Tm.Fact)(k:Nat)(hk:k<fs.length):(qP fs).set (k * 3+2) (.bool false)=qP (fs.set k (fs[k].1,fs[k].2.1,false)):=by
 rw[<-qfN fs k hk];have hr:=qbP (fun f:Tm.Fact=>[Value.string f.1,Value.string f.2.1,Value.bool f.2.2]) 3 (fun _=>rfl) fs k hk;have h0:(qP fs)[k * 3]?=some (.string fs[k].1):=hr 0 (by omega);have h1:(qP fs)[k * 3+1]?=some (.string fs[k].2.1):=hr 1 (by omega)
 have e0:(qP fs).set (k * 3) (.string fs[k].1)=qP fs:=by
  obtain⟨hl,he⟩:=List.getElem?_eq_some_iff.1 h0;rw[<-he];exact List.set_getElem_self hl
 have e1:(qP fs).set (k * 3+1) (.string fs[k].2.1)=qP fs:=by
  obtain⟨hl,he⟩:=List.getElem?_eq_some_iff.1 h1;rw[<-he];exact List.set_getElem_self hl
 simp only;rw[e0,e1]
theorem Bk.qwC{g:Nat}(h:Bk w X F S (.slice (some ⟨g,0,none⟩) n cap) bb bx bc bm st sh lns fs s)(hk:k<fs.length) :
  Bk (w.setCell ⟨g,k * 3+2,none⟩ (.bool false)) X F S (.slice (some ⟨g,0,none⟩) n cap) bb bx bc bm st sh lns (fs.set k (fs[k].1,fs[k].2.1,false)) s/\Qy F w (w.setCell ⟨g,k * 3+2,none⟩ (.bool false)):=by
 obtain⟨hg1,hg2,hg3⟩:=h.xt g rfl;have hf:Qy (fun i=>i=g) w (w.setCell ⟨g,k * 3+2,none⟩ (.bool false)):=Qy.setCell (p:=⟨g,k * 3+2,none⟩) (Qy.refl (fun i=>i=g) w) (.inl rfl) _;have hl:=(h.from_ bb h.own).2;obtain⟨W,hW,hC,hb⟩:=h.base;have hn:n=fs.length:=((Reads.qn h.row).fits).1
 have qp:(w.setCell ⟨g,k * 3+2,none⟩ (.bool false)).ownsRow X 127 3 (.slice (some ⟨g,0,none⟩) n cap) (fs.set k (fs[k].1,fs[k].2.1,false)).length (qP (fs.set k (fs[k].1,fs[k].2.1,false))):=by
  rw[<-qj5 fs k hk,List.length_set];have:=h.row;subst hn;exact qbw this _ _
 refine⟨⟨⟨W,hW,hC,hb.trans (hf.below (fun i hi=>by subst hi;exact(h.from_ i hg1).1) h.size)⟩,h.ok,h.ix.vV hf (fun i hi e=>hg3 (e▸hi)),h.sub,fun i hi=>⟨(h.from_ i hi).1,Nat.lt_of_lt_of_le (h.from_ i hi).2 hf.size⟩,h.own,h.jM,
  by rw[hf.cell (p:=⟨bb,0,none⟩) hl (fun e=>hg2 e.symm)];exact h.c0,by rw[hf.cell (p:=⟨bb,1,none⟩) hl (fun e=>hg2 e.symm)];exact h.c1,by rw[hf.cell (p:=⟨bb,2,none⟩) hl (fun e=>hg2 e.symm)];exact h.c2,by rw[hf.cell (p:=⟨bb,3,none⟩) hl (fun e=>hg2 e.symm)];exact h.c3,
  fun o=>by rw[hf.frozen (p:=⟨bb,o,none⟩) hl (fun e=>hg2 e.symm)];exact h.free o,qp,h.xt,fun f' hf'=>?_⟩,hf.mono (fun i hi=>hi▸hg1)⟩
 rcases List.mem_or_eq_of_mem_set hf' with e|e
 ·exact h.short f' e
 ·rw[e];exact h.short fs[k] (List.getElem_mem hk)
theorem qmK(k0:ByteArray)(w:World)(hB:Bk w X F S vf bb bx bc bm st sh lns fs s)(hfo:Tm.Zh (qe lns st sh) fs (qv s))(j9:fs.length<=1000) :
  Calls Tryz.prog 59 #[.pointer (some ⟨bb,0,none⟩),.string k0] w fun e w'=>e=.returned (.tuple #[])/\∃fs',Jt w w' X F bb bx bc bm st sh lns fs' (z5 (qe lns st sh) s (yH k0))/\Tm.Zh (qe lns st sh) fs' (qv (z5 (qe lns st sh) s (yH k0)))/\fs'.length<=fs.length+1:=by
 have hT:=qay lns st sh;have HBK:=qb hB;have HFO:=qb hfo;have qcK:=qgt k0;have XR:=qb (hfo.has hT (yH k0));have HDS:=qb (qc0 (c:=qe lns st sh) (s:=s) qcK);have HAT:=qb (fun i (h:Tm.findF (qe lns st sh) fs (yH k0)=some i) (hi:i<fs.length)=>hfo.qxH hT h hi);have c1:=hB.c1;have hl:=(hB.from_ bb hB.own).2;clear hB hfo;go_enter Tryz.func59,Tryz.ntmps59
 go_wp2_with fail
 refine(qj2 k0 _).mono ?_;rintro e w0 ⟨rfl,h9⟩;have h9:=h9.symm;subst h9;obtain⟨k,hkd⟩:∃k,yH k0=k:=⟨_,rfl⟩
 have HKD:Hid (yH k0=k):=hkd;rw[hkd]at XR HDS HAT qcK⊢;clear hkd;go_wp2_with fail
 refine(QgB lns bc bm st sh X S bx s k _ HBK.out.qhQ HBK.out.ok HBK.out.ix HBK.out.size).mono ?_;rw[if_pos qcK];rintro e w1 ⟨rfl,jq⟩;obtain⟨F1,S1,hB1,hf1,hs1⟩:=HBK.out.step jq;have HB1:=qb hB1;have HF1:=qb hf1;have HS1:=qb hs1;clear hB1 hf1 hs1 jq c1;go_wp2_with fail
 refine(qgC k _ HB1.out qcK (by omega)).mono ?_;rintro e w2 ⟨rfl,hB2,hf2⟩;have HB2:=qb hB2;have HF2:Hid (Qy F w w2):=HF1.out.trans hf2 (fun i hi=>HS1.out i (by rw[hi];exact HB1.out.own));clear hB2 hf2;have hl2:=(HB2.out.from_ bb HB2.out.own).2;have c2:=HB2.out.c2;have c3:=HB2.out.c3;have f3:=HB2.out.free 3;have HB3:=qb HB2.out.qqH;have HF3:Hid (Qy F w (w2.setCell ⟨bb,3,none⟩ (.bool true))):=Qy.setCell (p:=⟨bb,3,none⟩) HF2.out (HS1.out bb HB2.out.own) _
 cases hff:Tm.findF (qe lns st sh) fs k with
 | none =>
  have hfi:vG (qe lns st sh) fs k=-1:=by unfold vG;rw[hff]
  rw[hff]at XR;simp only at XR;have hh:=XR.out;rw[hfi,hh];obtain⟨a,cap,rfl⟩:=(Reads.qn HB2.out.row).shape
  have QN:Hid (∃fs',Jt w (w2.setCell ⟨bb,3,none⟩ (.bool true)) X F bb bx bc bm st sh lns fs' (z5 (qe lns st sh) s k)/\Tm.Zh (qe lns st sh) fs' (qv (z5 (qe lns st sh) s k))/\fs'.length<=fs.length+1):=by
   refine⟨fs,⟨F1,S1,_,HB3.out,HF3.out,HS1.out⟩,?_,by omega⟩;rw[HDS.out,Tm.qhw hh];exact HFO.out
  go_wp2;go_end0;exact⟨rfl,by rw[HKD.out];exact QN.out⟩
 | some i =>
  have hfi:vG (qe lns st sh) fs k=(i:Int):=by unfold vG;rw[hff]
  obtain⟨hi,_⟩:=Tm.qbA hff;rw[hff]at XR;simp only[List.getElem?_eq_getElem hi,Option.map_some,Option.getD_some]at XR;have QqK:=qb (HAT.out i hff hi);obtain⟨g,cap,rfl,hg,x0,x1,x2,fz⟩:=qcu HB2.out.row hi;obtain⟨g',z8,hv3,hg3,y0,y1,y2,fz3⟩:=qcu HB3.out.row hi;cases hv3;have c23:=HB3.out.c2;have hl3:=(HB3.out.from_ bb HB3.out.own).2;have z2:=fz3 (i * 3+2)
  have QN:Hid (∃fs',Jt w ((w2.setCell ⟨bb,3,none⟩ (.bool true)).setCell ⟨g,i * 3+2,none⟩ (.bool false)) X F bb bx bc bm st sh lns fs' (z5 (qe lns st sh) s k)/\Tm.Zh (qe lns st sh) fs' (qv (z5 (qe lns st sh) s k))/\fs'.length<=fs.length+1):=by
   obtain⟨hB5,hf5⟩:=HB3.out.qwC hi;refine⟨fs.set i (fs[i].1,fs[i].2.1,false),⟨F1,S1,_,hB5,HF3.out.trans hf5 (fun i hi=>HS1.out i hi),HS1.out⟩,?_,by simp⟩;rw[HDS.out];exact QqK.out
  rw[hfi,XR.out]
  have j1:(0:Int)<=(i:Int):=by omega
  have j2:(i:Int)<(fs.length:Int):=by omega
  clear QqK;generalize fs[i]=f at *;obtain⟨fk,fv,ft⟩:=f;simp only at x0 x1 x2 y0 y1 y2 XR⊢;clear fz fz3;cases ft
  all_goals
   go_wp2;go_end0;exact⟨rfl,by rw[HKD.out];exact QN.out⟩
def XX(w:World)(v:Value)(l:Tm.QU):Prop:=∃a cap,v=.slice a l.length cap/\(0<l.length->Reads w v 2 l.length (qY l))
def vT(c:ByteArray->ByteArray->Int)(s:Qt)(e:ByteArray×ByteArray):Qt:=if e.2.size=0 then z5 c s (yH e.1)else zg c s (yH e.1) (yH e.2)
def zY(c:ByteArray->ByteArray->Int)(s:Qt)(l:Tm.QU):Qt:=l.foldl (vT c) s
theorem qmL{l:Tm.QU}{j:Nat}(hj:j<l.length):zY c s (l.take (j+1))=vT c (zY c s (l.take j)) l[j]:=by
 unfold zY;rw[List.take_add_one,List.getElem?_eq_getElem hj,List.foldl_append];rfl
theorem qhz(l:Tm.QU)(vl:Value)(w:World)(hB:Jt w w X F bb bx bc bm st sh lns fs s)(hfo:Tm.Zh (qe lns st sh) fs (qv s))(j9:fs.length<=800)(hl:XX w vl l)(hvl:0<l.length->∀g,vl.ownBlock=some g->¬F g) :
  Calls Tryz.prog 19 #[.pointer (some ⟨bb,0,none⟩),vl] w fun e w'=>e=.returned (.tuple #[])/\∃fs',Jt w w' X F bb bx bc bm st sh lns fs' (zY (qe lns st sh) s (l.take 100))/\Tm.Zh (qe lns st sh) fs' (qv (zY (qe lns st sh) s (l.take 100)))/\fs'.length<=fs.length+100:=by
 obtain⟨a,cap,rfl,hl⟩:=hl;have HL:=qb hl;have HVL:=qb hvl;have HB0:=qb hB;have HFO:=qb hfo;obtain⟨n,hn⟩:∃n,l.length=n:=⟨_,rfl⟩
 rw[hn]at HL HVL⊢;have HN:=qb hn;clear hl hvl hB hfo hn;go_enter Tryz.func19,Tryz.ntmps19
 go_wp2_with fail
 go_loopw [4] (fun i wr=>∃j:Nat,j<=n/\j<=100/\i=.int .i64 j/\∃fs',Hid (Jt w wr X F bb bx bc bm st sh lns fs' (zY (qe lns st sh) s (l.take j)))/\Hid (Tm.Zh (qe lns st sh) fs' (qv (zY (qe lns st sh) s (l.take j))))/\fs'.length<=fs.length+j) (fun i _=>n-(intOf i).toNat)
 case atStart=>exact⟨0,Nat.zero_le _,Nat.zero_le _,rfl,fs,HB0.out,HFO.out,Nat.le_refl _⟩
 case round =>
  obtain⟨j,hj,hj2,rfl,fs',HST,HFS,hlen⟩:=hrel;obtain⟨F',S',vf',hBk,hf,hi'⟩:=HST.out;have HBK:=qb hBk;have HF:=qb hf;have HI:=qb hi';have c3:=hBk.c3;have hlb:=(hBk.from_ bb hBk.own).2;clear hBk hf hi';by_cases hlt:j<n
  ·have hrd:=HF.out.reads (HL.out (by omega)) (HVL.out (by omega));by_cases h100:j<100
   ·have hjl:j<l.length:=by rw[HN.out];exact hlt
    obtain⟨g,off,rfl,hg,x0,x1⟩:=qa7 (es:=l) (by rw[HN.out];exact hrd) hjl;have HPL:=qb (qmL (c:=qe lns st sh) (s:=s) hjl);generalize l[j]=y at *;obtain⟨yk,yv⟩:=y;simp only at x0 x1
    have i1:(0:Int)<=(j:Int):=by omega
    have i2:(j:Int)<(n:Int):=by omega
    have i3:(j:Int)<100:=by omega
    have HNX:Hid (∀w1 fs1,(∃F1 S1 vf1,Bk w1 X F1 S1 vf1 bb bx bc bm st sh lns fs1 (vT (qe lns st sh) (zY (qe lns st sh) s (l.take j)) (yk,yv))/\Qy F' wr w1/\∀i,F1 i->F' i\/wr.heap.size<=i)->Jt w w1 X F bb bx bc bm st sh lns fs1 (zY (qe lns st sh) s (l.take (j+1)))):=fun w1 fs1 h=>by
     rw[HPL.out];exact Jt.trans HF.out HI.out h
    clear hrd;by_cases h0:yv.size=0
    ·have he:yv=⟨#[]⟩:=by
      obtain⟨⟨q⟩⟩:=yv;simp[ByteArray.size]at h0;subst h0;rfl
     have HP1:Hid (vT (qe lns st sh) (zY (qe lns st sh) s (l.take j)) (yk,yv)=z5 (qe lns st sh) (zY (qe lns st sh) s (l.take j)) (yH yk)):=by unfold Hid vT;rw[if_pos h0]
     subst he;go_wp2_with fail
     refine(qmK yk _ HBK.out HFS.out (by omega)).mono ?_;rintro e w1 ⟨rfl,fs1,hst1,hfo1,hl1⟩;have HS1:Hid (Jt w w1 X F bb bx bc bm st sh lns fs1 (zY (qe lns st sh) s (l.take (j+1)))):=HNX.out w1 fs1 (by rw[HP1.out];exact hst1)
     have HF1:Hid (Tm.Zh (qe lns st sh) fs1 (qv (zY (qe lns st sh) s (l.take (j+1))))):=by
      unfold Hid;rw[HPL.out,HP1.out];exact hfo1
     clear hst1 hfo1;go_wp2;go_roundw
     case rel=>exact⟨j+1,by omega,by omega,by go_num,fs1,HS1.out,HF1.out,by omega⟩
     case measure=>simp[intOf];omega
    ·have hne:(yv.toList == [])=false:=by
      obtain⟨⟨q⟩⟩:=yv;rw[Go.ByteArray.toList_eq]
      cases q with
      | nil=>simp[ByteArray.size]at h0
      | cons x r=>rfl
     have HP1:Hid (vT (qe lns st sh) (zY (qe lns st sh) s (l.take j)) (yk,yv)=zg (qe lns st sh) (zY (qe lns st sh) s (l.take j)) (yH yk) (yH yv)):=by unfold Hid vT;rw[if_neg h0]
     go_wp2_with fail
     refine(qop yk yv _ HBK.out HFS.out (by omega)).mono ?_;rintro e w1 ⟨rfl,fs1,hst1,hfo1,hl1⟩;have HS1:Hid (Jt w w1 X F bb bx bc bm st sh lns fs1 (zY (qe lns st sh) s (l.take (j+1)))):=HNX.out w1 fs1 (by rw[HP1.out];exact hst1)
     have HF1:Hid (Tm.Zh (qe lns st sh) fs1 (qv (zY (qe lns st sh) s (l.take (j+1))))):=by
      unfold Hid;rw[HPL.out,HP1.out];exact hfo1
     clear hst1 hfo1;go_wp2;go_roundw
     case rel=>exact⟨j+1,by omega,by omega,by go_num,fs1,HS1.out,HF1.out,by omega⟩
     case measure=>simp[intOf];omega
   ·have e:j=100:=by omega
    subst e
    have i2:((100:Nat):Int)<(n:Int):=by omega
    go_wp2;go_end0;exact⟨rfl,fs',HST.out,HFS.out,by omega⟩
  ·have HT:Hid (l.take 100=l.take j):=by
    unfold Hid;rw[List.take_of_length_le (by rw[HN.out];omega),List.take_of_length_le (by rw[HN.out];omega)]
   have i2:¬(j:Int)<(n:Int):=by omega
   go_wp2;go_end0;exact⟨rfl,fs',by rw[HT.out];exact HST.out,by rw[HT.out];exact HFS.out,by omega⟩
def quz(n b0 b1 b2 b3:Nat):Nat×Nat :=
 if b0<128 then(b0,1)
 else if b0 / 32=6/\1<n/\b1 / 64=2 then
  if 128<=b0 % 32 * 64+b1 % 64 then(b0 % 32 * 64+b1 % 64,2)else(65533,1)
 else if b0 / 16=14/\(1<n/\b1 / 64=2)/\2<n/\b2 / 64=2 then
  if 2048<=b0 % 16 * 4096+b1 % 64 * 64+b2 % 64/\(b0 % 16 * 4096+b1 % 64 * 64+b2 % 64<55296\/57344<=b0 % 16 * 4096+b1 % 64 * 64+b2 % 64/\b0 % 16 * 4096+b1 % 64 * 64+b2 % 64<=1114111)then(b0 % 16 * 4096+b1 % 64 * 64+b2 % 64,3)else(65533,1)
 else if b0 / 8=30/\(1<n/\b1 / 64=2)/\(2<n/\b2 / 64=2)/\3<n/\b3 / 64=2 then
  if 65536<=b0 % 8 * 262144+b1 % 64 * 4096+b2 % 64 * 64+b3 % 64/\(b0 % 8 * 262144+b1 % 64 * 4096+b2 % 64 * 64+b3 % 64<55296\/57344<=b0 % 8 * 262144+b1 % 64 * 4096+b2 % 64 * 64+b3 % 64/\b0 % 8 * 262144+b1 % 64 * 4096+b2 % 64 * 64+b3 % 64<=1114111)then(b0 % 8 * 262144+b1 % 64 * 4096+b2 % 64 * 64+b3 % 64,4)else(65533,1)
 else(65533,1)
def qqL(l:List UInt8):Nat×Nat:=quz l.length (l.getD 0 0).toNat (l.getD 1 0).toNat (l.getD 2 0).toNat (l.getD 3 0).toNat
def qcv:Nat->List UInt8->List Int
 | 0,_=>[]
 | f+1,l=>if l=[]then[]else((qqL l).1:Int)::qcv f (l.drop (qqL l).2)
theorem quA(n b0 b1 b2 b3:Nat):1<=(quz n b0 b1 b2 b3).2:=by
 unfold quz
 repeat' split
 all_goals(simp only;omega)
theorem qhA:∀(f g:Nat) (l:List UInt8),l.length<=f->l.length<=g->qcv f l=qcv g l
 | 0,g,l,h,_=>by
  have:l=[]:=List.eq_nil_of_length_eq_zero (by omega);subst this;cases g<;>simp[qcv]
 | f+1,0,l,_,h=>by
  have:l=[]:=List.eq_nil_of_length_eq_zero (by omega);subst this;simp[qcv]
 | f+1,g+1,l,h,h'=>by
  unfold qcv;by_cases e:l=[]
  ·simp[e]
  ·rw[if_neg e,if_neg e];have h1:1<=(qqL l).2:=quA _ _ _ _ _;have h2:0<l.length:=List.length_pos_iff.2 e;rw[qhA f g _ (by rw[List.length_drop];omega) (by rw[List.length_drop];omega)]
def xL(l:List UInt8):List Int:=qcv l.length l
def Closed(p:List UInt8):Prop:=∀y,xL (p++y)=xL p++xL y
theorem piece{p:List UInt8}{r:Nat}(hp:p≠[])(h:∀y,qqL (p++y)=(r,p.length)):Closed p/\xL p=[(r:Int)]:=by
 have key:∀y,xL (p++y)=(r:Int)::xL y:=fun y=>by
  unfold xL;obtain⟨n,hn⟩:∃n,(p++y).length=n+1:=⟨(p++y).length-1,by have:=List.length_pos_iff.2 hp;simp;omega⟩
  have hn':=hn;rw[List.length_append]at hn';have hpp:=List.length_pos_iff.2 hp;rw[hn,qcv,if_neg (by simp[hp]),h y];simp only[List.drop_left];rw[qhA n y.length y (by omega) (Nat.le_refl _)]
 have h0:=key [];rw[List.append_nil]at h0;refine⟨fun y=>?_,h0⟩;rw[key y,h0];rfl
namespace Tm
variable {lns:List Ln}
def qdA(lns:List Ln):Bool:=decide (parts lns 225=[97,769])&&decide (parts lns 7841=[97,803])&&decide (parts lns 226=[225,803])&&[97,98,45,99,104,100,65,65533,769,803].all (fun r=>decide (parts lns r=[]))&&decide (qd lns 769=230)&&decide (qd lns 803=220)
theorem qoq:((List.range 128).all fun n=>qdA (jL n))=true:=by decide +kernel
theorem qor:((List.range 128).all fun n=>qdA (jL (n+128)))=true:=by decide +kernel
theorem qsG{n:Nat}(h:n<256):qdA (jL n)=true:=by
 by_cases h1:n<128
 ·exact List.all_eq_true.1 qoq n (List.mem_range.2 h1)
 ·have:=List.all_eq_true.1 qor (n-128) (List.mem_range.2 (by omega));simpa[show n-128+128=n by omega]using this
structure QdB(lns:List Ln):Prop where
 e1:parts lns 225=[97,769]
 e2:parts lns 7841=[97,803]
 e3:parts lns 226=[225,803]
 no:∀r∈([97,98,45,99,104,100,65,65533,769,803]:List Int),parts lns r=[]
 c1:qd lns 769=230
 c2:qd lns 803=220
theorem QdB.of(h:qdA lns=true):QdB lns:=by
 unfold qdA at h;simp only[Bool.and_eq_true,decide_eq_true_eq,List.all_eq_true]at h;obtain⟨⟨⟨⟨⟨h1,h2⟩,h3⟩,h4⟩,h5⟩,h6⟩:=h;exact⟨h1,h2,h3,h4,h5,h6⟩
theorem QdB.one(h:QdB lns){r:Int}(hr:r∈([97,98,45,99,104,100,65,65533,769,803]:List Int))(n:Nat):expand lns n r=[r]:=qek (by rw[h.no r hr];rfl)
theorem QdB.x1(h:QdB lns)(n:Nat):expand lns (n+1) 225=[97,769]:=by
 rw[qhn (by rw[h.e1];simp),h.e1];simp[h.one (r:=97) (by simp),h.one (r:=769) (by simp)]
end Tm
def madeOf(lns:List Tm.Ln)(p:List UInt8):List Int:=(xL p).flatMap (Tm.expand lns 4)
def Alike(lns:List Tm.Ln)(a b:List Int):Prop:=∀p q,Tm.ord (Tm.qd lns) (p++a++q)=Tm.ord (Tm.qd lns) (p++b++q)
structure Way(lns:List Tm.Ln)(c:List Int)(p:List UInt8):Prop where
 closed:Closed p
 alike:Alike lns (madeOf lns p) c
 short:p.length<=5
theorem qqM:jR ⟨#[]⟩=[]:=by decide +kernel
theorem qmM:jR ⟨#[195,161]⟩=[225]:=by decide +kernel
theorem qqN:jR ⟨#[97,204,129]⟩=[97,769]:=by decide +kernel
namespace Tm
theorem qi8:∀(A B:List (List Int)),A.length=B.length->(∀b∈B,b=[])->0<=zu A B
 | [],[],_,_=>by simp[zu]
 | [],_::_,h,_=>by simp at h
 | _::_,[],h,_=>by simp at h
 | a::r,b::t,h,hb=>by
  have h1:b=[]:=hb b (by simp);subst h1;have ih:=qi8 r t (by simpa using h) (fun x hx=>hb x (by simp[hx]));rw[zu];split
  ·exact ih
  ·cases a with
   | nil=>rename_i h2;exact absurd rfl h2
   | cons x y=>simp[cmpL]
end Tm
theorem qi9(lns:List Tm.Ln){st:Int}(hst:1<=st/\st<=4)(sh:Bool)(a:ByteArray):0<=qe lns st sh a ⟨#[]⟩:=by
 have hn:zq lns ⟨#[]⟩=[]:=by unfold zq;rw[qqM];rfl
 unfold qe;rw[hn];refine Tm.qi8 _ _ ?_ (fun b hb=>?_)
 ·unfold stands;rw[List.length_append,List.length_append,vK hst,vK hst];rfl
 ·rcases List.mem_append.1 hb with h|h
  ·obtain⟨k,_,rfl⟩:=List.mem_map.1 (List.mem_of_mem_take h);rw[Tm.qdo];rfl
  ·exact List.mem_singleton.1 h
theorem Tm.QdB.qyN{lns:List Tm.Ln}(h:Tm.QdB lns)(st:Int)(sh:Bool):qe lns st sh ⟨#[195,161]⟩ ⟨#[97,204,129]⟩=0:=by
 rw[qqD];unfold zq;rw[qmM,qqN];simp[h.x1,h.one (r:=97) (by simp),h.one (r:=769) (by simp)]
