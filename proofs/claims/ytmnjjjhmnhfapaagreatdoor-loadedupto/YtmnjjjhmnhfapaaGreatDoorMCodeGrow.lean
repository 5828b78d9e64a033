import Derived.ArgAppend
import Derived.Test.YtmnjjjhmnhfapaaGreatDoorMLibDel
import Derived.Test.YtmnjjjhmnhfapaaGreatDoorMCodeParts
namespace Go.Proofs.YtmnjjjhmnhfapaaGreatDoor
set_option maxRecDepth 100000
set_option maxHeartbeats 4000000
open Go.RowKit
namespace Tm
variable {lns:List Ln}{s p r:List Int}{c:Int}
theorem qr4(h:qd lns c=0):grow lns s p (c::r)=(s,p++c::r):=by
 rw[grow,if_pos h]
theorem qr5(hc:qd lns c≠0)(hs:isS lns (s++[c])=true)(hf:∀y∈p,qd lns y<qd lns c):grow lns s p (c::r)=grow lns (s++[c]) p r:=by
 rw[grow,if_neg hc,if_pos ⟨hs,hf⟩]
theorem qr6(hc:qd lns c≠0)(h:¬(isS lns (s++[c])=true/\∀y∈p,qd lns y<qd lns c)):grow lns s p (c::r)=grow lns s (p++[c]) r:=by
 rw[grow,if_neg hc,if_neg h]
end Tm
variable {w w' w0:World}{rest s seq sq ps rm:List Int}{g off b c gs gr:Nat}{lns:List Tm.Ln}
def IsW(w' w:World):Prop:=w'=w
theorem qgg{P:Program}{w:World}{ops:Array Oper}{rest:List Oper}{o:Oper}{a:Act}{Q:Exit->Act->World->Prop}(hgd:o.guard=none)(s x:Operand)(t:TypeId)
  (ho:o.op=.call {callee:=.builtin .append,args:=#[s,x],argTypes:=#[t,t]})
  (e:TypeId) (i:TypeInfo) (ht:P.underlying t=some (.slice e)) (hi:P.info? e=some i) (xV:i.size=1)
  (g off n cap:Nat) (hs:a.eval s=.slice (some ⟨g,off,none⟩) n cap)
  (ad:Addr) (m c:Nat) (news:List Value) (hx:a.eval x=.slice (some ad) m c) (hl:news.length=m) (qbm:∀j u,news[j]?=some u->w.cell? (ad.add j)=some u) (h1:∀u∈news,u.oneCell'=true)
  (qaQ:n+m<=cap) (hc:∀j,j<news.length->(w.cell? ⟨g,off+n+j,none⟩).isSome=true/\w.frozen? ⟨g,off+n+j,none⟩=false)
  (h:∀w',IsW w' (w.setCells g (off+n) news)->wpList P ops Q rest (a.put o.dst (.slice (some ⟨g,off,none⟩) (n+m) cap)) w') :
  wpList P ops Q (o::rest) a w:=by
 refine wpList_plain hgd fun K hK=>?_;have hr:=run_append_room_cells (P:=P) (w:=w) t o.type e i ht hi g off n cap ad m c news (by rw[xV];omega) qbm h1 qaQ (fun j hj=>by rw[xV,Nat.mul_one];exact(hc j hj).1) (fun j hj=>by rw[xV,Nat.mul_one];exact(hc j hj).2);rw[xV,Nat.mul_one]at hr;unfold Oper.wp execOp;simp only[ho,resolve,invoke,builtin,Sem.run_bind,Sem.run_pure,Result.andThen_ok,List.map_toArray,List.map_cons,List.map_nil,hs,hx,hr];exact hK _ _ (h _ rfl)
def Room(w:World)(g:Nat)(s:List Int):Prop:=∃pad,(s++pad).length=3/\Qo w g 0 (s++pad)
theorem Qo.jb{d:List Int}(h:Qo w g off d)(hb:w'.heap[g]?=w.heap[g]?):Qo w' g off d:=fun j x hx=>by
 rw[World.cell?_of_block (w:=w) hb,World.frozen?_of_block (w:=w) hb];exact h j x hx
theorem Room.jb(h:Room w g s)(hb:w'.heap[g]?=w.heap[g]?):Room w' g s:=by
 obtain⟨pad,h1,h2⟩:=h;exact⟨pad,h1,h2.jb hb⟩
theorem Qo.front{a b:List Int}(h:Qo w g off (a++b)):Qo w g off a:=fun j x hx=>h j x (by rw[List.getElem?_append_left (List.getElem?_eq_some_iff.1 hx).1];exact hx)
theorem Qo.reads{n cap:Nat}{l:List Int}(h:Qo w g off l)(hg:g<w.heap.size)(hn:l.length=n)(hc:n<=cap)(hm:cap<=maxLen):Reads w (.slice (some ⟨g,off,none⟩) n cap) 1 n (ints l):=by
 refine⟨by rw[zw,hn,Nat.mul_one],fun k hk=>by simp[Value.ownBlock]at hk;subst hk;exact hg,_,_,rfl,⟨hc,hm⟩,fun j u hu=>⟨g,off,rfl,?_⟩⟩;simp only[ints,List.getElem?_map,Option.map_eq_some_iff]at hu;obtain⟨x,hx,rfl⟩:=hu;exact(h j x hx).1
theorem Room.push(h:Room w g s)(hl:s.length<3)(c:Int):Room (w.setCells g (0+s.length) [.int .i64 c]) g (s++[c])/\Room (w.setCells g (0+s.length) [.int .i64 c]) g s:=by
 obtain⟨pad,h1,h2⟩:=h
 cases pad with
 | nil=>simp at h1;omega
 | cons p q =>
  have:=Qo.put (k:=s.length) (news:=[c]) h2 (by simp)
  have e:(s++p::q).take s.length++[c]++(s++p::q).drop (s.length+[c].length)=s++c::q:=by simp
  rw[e]at this;have h3:Qo (w.setCells g (0+s.length) [.int .i64 c]) g 0 (s++c::q):=this;exact⟨⟨q,by simp at h1⊢;omega,by simpa using h3⟩,⟨c::q,by simp at h1⊢;omega,h3⟩⟩
structure Two(b c:Nat)(w w':World):Prop where
 os:w'.os=w.os
 tape:w'.tape=w.tape
 output:w'.output=w.output
 size:w.heap.size<=w'.heap.size
 block:∀k,k<w.heap.size->k≠b->k≠c->w'.heap[k]?=w.heap[k]?
theorem Two.refl(b c:Nat)(w:World):Two b c w w:=⟨rfl,rfl,rfl,Nat.le_refl _,fun _ _ _ _=>rfl⟩
theorem Two.trans{u v:World}(h:Two b c u v)(k:Two b c v w):Two b c u w :=
 ⟨k.os.trans h.os,k.tape.trans h.tape,k.output.trans h.output,Nat.le_trans h.size k.size,fun g h1 h2 h3=>(k.block g (Nat.lt_of_lt_of_le h1 h.size) h2 h3).trans (h.block g h1 h2 h3)⟩
theorem Two.of(h:Below w.heap.size w w'):Two b c w w':=⟨h.os,h.tape,h.output,h.size,fun k hk _ _=>h.block k hk⟩
theorem Two.one(h:QB w.heap.size b w w'):Two b c w w':=⟨h.os,h.tape,h.output,h.size,fun k hk h1 _=>h.block k hk h1⟩
theorem Two.other(h:QB w.heap.size c w w'):Two b c w w':=⟨h.os,h.tape,h.output,h.size,fun k hk _ h1=>h.block k hk h1⟩
theorem Two.below{B:Nat}(h:Two b c w w')(hb:B<=b)(hc:B<=c)(hB:B<=w.heap.size):Below B w w':=⟨h.os,h.tape,h.output,h.size,fun k hk=>h.block k (by omega) (by omega) (by omega)⟩
structure XI(lns:List Tm.Ln)(gs gr off:Nat)(seq rest:List Int)(w0 w:World)(sq ps rm:List Int):Prop where
 same:Tm.grow lns seq [] rest=Tm.grow lns sq ps rm
 room:Room w gs sq
 ints:Qo w gr off (ps++rm)
 calm:Tm.Calm (Tm.qd lns) (ps++rm)
 marks:∀y∈ps,Tm.qd lns y≠0
 few:sq.length<=3
 pos:0<sq.length
 rs:∀x∈sq,0<=x/\x<=1114111
 rr:∀x∈ps++rm,0<=x/\x<=1114111
 len:(ps++rm).length<=rest.length
 two:Two gs gr w0 w
 lts:gs<w.heap.size
 ltr:gr<w.heap.size
theorem XI.move(h:XI lns gs gr off seq rest w0 w sq ps rm)(hr:Room w' gs sq)(hb:Two gs gr w w')(hk:w'.heap[gr]?=w.heap[gr]?):XI lns gs gr off seq rest w0 w' sq ps rm :=
 ⟨h.same,hr,h.ints.jb hk,h.calm,h.marks,h.few,h.pos,h.rs,h.rr,h.len,h.two.trans hb,Nat.lt_of_lt_of_le h.lts hb.size,Nat.lt_of_lt_of_le h.ltr hb.size⟩
theorem XI.pass{c:Int}(h:XI lns gs gr off seq rest w0 w sq ps (c::rm))(hc:Tm.qd lns c≠0)(hn:¬(Tm.isS lns (sq++[c])=true/\∀y∈ps,Tm.qd lns y<Tm.qd lns c)):XI lns gs gr off seq rest w0 w sq (ps++[c]) rm:=by
 have e:ps++[c]++rm=ps++c::rm:=by simp
 refine⟨by rw[h.same,Tm.qr6 hc hn],h.room,by rw[e];exact h.ints,by rw[e];exact h.calm,fun y hy=>?_,h.few,h.pos,h.rs,by rw[e];exact h.rr,by rw[e];exact h.len,h.two,h.lts,h.ltr⟩;rcases List.mem_append.1 hy with hy|hy
 ·exact h.marks y hy
 ·rw[List.mem_singleton.1 hy];exact hc
theorem XI.take{c:Int}(h:XI lns gs gr off seq rest w0 w sq ps (c::rm))(hc:Tm.qd lns c≠0)(hs:Tm.isS lns (sq++[c])=true)(hf:∀y∈ps,Tm.qd lns y<Tm.qd lns c)(hl:sq.length<3)(hr:Room w' gs (sq++[c]))(hi:Qo w' gr off ((ps++c::rm).eraseIdx ps.length))(hb:Two gs gr w w'):XI lns gs gr off seq rest w0 w' (sq++[c]) ps rm:=by
 have e:(ps++c::rm).eraseIdx ps.length=ps++rm:=by rw[List.eraseIdx_append_of_length_le (Nat.le_refl _)];simp
 refine⟨by rw[h.same,Tm.qr5 hc hs hf],hr,by rw[<-e];exact hi,Tm.qh7 hc h.calm,h.marks,by simp;omega,by simp,fun x hx=>?_,fun x hx=>?_,?_,h.two.trans hb,Nat.lt_of_lt_of_le h.lts hb.size,Nat.lt_of_lt_of_le h.ltr hb.size⟩
 ·rcases List.mem_append.1 hx with hx|hx
  ·exact h.rs x hx
  ·rw[List.mem_singleton.1 hx];exact h.rr c (by simp)
 ·refine h.rr x ?_;rcases List.mem_append.1 hx with hx|hx
  ·exact List.mem_append_left _ hx
  ·exact List.mem_append_right _ (List.mem_cons_of_mem _ hx)
 ·have:=h.len;simp at this⊢;omega
def QjN(lns:List Tm.Ln)(gs gr off cap:Nat)(seq rest:List Int)(w:World)(e:Ending)(w':World):Prop :=
 e=.returned (.tuple #[.slice (some ⟨gs,0,none⟩) (Tm.grow lns seq [] rest).1.length 3,.slice (some ⟨gr,off,none⟩) (Tm.grow lns seq [] rest).2.length cap])/\Room w' gs (Tm.grow lns seq [] rest).1/\Qo w' gr off (Tm.grow lns seq [] rest).2/\(Tm.grow lns seq [] rest).1.length<=3/\Two gs gr w w'/\gs<w'.heap.size/\gr<w'.heap.size
theorem XI.ans{cap:Nat}(h:XI lns gs gr off seq rest w0 w sq ps rm)(he:Tm.grow lns sq ps rm=(sq,ps++rm)):QjN lns gs gr off cap seq rest w0 (.returned (.tuple #[.slice (some ⟨gs,0,none⟩) sq.length 3,.slice (some ⟨gr,off,none⟩) (ps++rm).length cap])) w:=by
 have e:=h.same.trans he;unfold QjN;rw[e];exact⟨rfl,h.room,h.ints,h.few,h.two,h.lts,h.ltr⟩
def qjO:Value->Nat
 | .slice _ n _=>n
 | _=>0
theorem qtV(lns:List Tm.Ln)(bm B gs gr off cap:Nat)(seq rest:List Int)(w:World)(hN:NB lns bm B w)(hgs:B<=gs)(hgr:B<=gr)(hne:gs≠gr)(hst:XI lns gs gr off seq rest w w seq [] rest)(qV:rest.length<=cap/\cap<=maxLen)(hl:rest.length<=1000000)(hn:lns.length<=8192)(hf:∀o∈lns,Tm.Fit o)(hBw:B<=w.heap.size) :
  Calls Tryz.prog 127 #[.map (some bm),.slice (some ⟨gs,0,none⟩) seq.length 3,.slice (some ⟨gr,off,none⟩) rest.length cap] w fun e w'=>QjN lns gs gr off cap seq rest w e w':=by
 obtain⟨i0,hi,hz0,hz1,hz2⟩:=info_parts Tryz.qbR;have HN:=qb hN;have HST:=qb hst;have HF:=qb hf;have Qxi:=qb qV;have qvH:=qV.1;clear hN hst hf qV;go_enter Tryz.func127,Tryz.ntmps127
 go_wp2;go_loopw [1,2,8,9] (fun s r p i wr=>∃(sq ps rm:List Int),s=.slice (some ⟨gs,0,none⟩) sq.length 3/\r=.slice (some ⟨gr,off,none⟩) (ps++rm).length cap/\p=.int .i64 (Tm.top (Tm.qd lns) ps)/\i=.int .i64 ps.length/\XI lns gs gr off seq rest w wr sq ps rm) (fun _ r _ i _=>qjO r-(intOf i).toNat)
 case atStart=>exact⟨seq,[],rest,rfl,rfl,rfl,rfl,HST.out⟩
 case round =>
  obtain⟨sq,ps,rm,rfl,rfl,rfl,rfl,hs⟩:=hrel;have HS:=qb hs;have qe5:=hs.pos;have j9:=hs.few;have hlen:=hs.len;have qxj:=hs.lts;have qh8:=hs.ltr;have hzr:=hs.two.size;clear hs
  cases rm with
  | nil =>
   have HA:=qb (HS.out.ans (cap:=cap) (by simp[Tm.grow]));obtain⟨k,hk⟩:∃k,ps.length=k:=⟨_,rfl⟩
   have hk2:(ps++[]).length=k:=by simpa using hk
   rw[hk2]at HA⊢;rw[hk];go_wp2;go_ret2;exact HA.out
  | cons c r =>
   obtain⟨k,hk⟩:∃k,ps.length=k:=⟨_,rfl⟩
   obtain⟨m,hm⟩:∃m,(ps++c::r).length=m:=⟨_,rfl⟩
   obtain⟨q,hq⟩:∃q,sq.length=q:=⟨_,rfl⟩
   have hkm:k<m:=by rw[<-hk,<-hm];simp
   have HMR:Hid (m=k+1+r.length):=by unfold Hid;rw[<-hk,<-hm];simp;omega
   have HK:=qb hk;have HM:=qb hm;have HQ:=qb hq;rw[hq]at qe5 j9;rw[hm]at hlen;rw[hm,hq,hk];clear hm hq hk;by_cases h3:q<3
   ·have hc0:=HS.out.rr c (by simp);have hNr:=HN.out.below (HS.out.two.below hgs hgr hBw);obtain⟨f,vp,vs,yq,hfv,hp,hsq⟩:=hNr.rd.at hc0.1;obtain⟨pa,pc,rfl⟩:=hp.shape;obtain⟨sa,sc,rfl⟩:=hsq.shape;have YY:=qb yq;have HNR:=qb hNr;have hat:=(HS.out.ints.at (j:=k) (by rw[HM.out];omega)).1
    have hck:(ps++c::r)[k]'(by rw[HM.out];omega)=c:=by
     have:=HK.out;subst this;simp
    rw[hck]at hat
    generalize (Tm.parts lns c).length=pl at *;generalize (Tm.qI lns c).length=sl at *;obtain⟨kc,hkc⟩:∃kc,Tm.qd lns c=kc:=⟨_,rfl⟩
    have HKC:=qb hkc;rw[hkc]at hfv
    have i1:(0:Int)<=(k:Int):=by omega
    have i2:(k:Int)<(m:Int):=by omega
    clear hNr yq hp hsq hck hkc;obtain⟨W1,hW1⟩:∃W1,wr.alloc (.cells #[.int .i64 kc,.slice pa pl pc,.slice sa sl sc] 251)=W1:=⟨_,rfl⟩
    have hb1:Below wr.heap.size wr W1:=by rw[<-hW1];exact(Below.refl _ _).alloc (Nat.le_refl _) _
    have qBa:W1.heap.size=wr.heap.size+1:=by rw[<-hW1];simp
    have n0:W1.cell? ⟨wr.heap.size,0,none⟩=some (.int .i64 kc):=by rw[<-hW1,ql rfl];rfl
    have HB1:=qb hb1;go_wp2_with (at_lookup;go_must (refine zQ rfl _ _ rfl bm lns.length f rfl YY.out c rfl (yV hc0) _ hfv ?_))
    refine(qeY _ _).mono ?_;rintro e w2 ⟨rfl,hb2⟩;have HB2:Hid (Below wr.heap.size wr w2):=HB1.out.trans (hb2.mono (by omega));have qzx:=hb2.size
    have n2:w2.cell? ⟨wr.heap.size,0,none⟩=some (.int .i64 kc):=by rw[hb2.cell (p:=⟨wr.heap.size,0,none⟩) (by simp only;omega)];exact n0
    clear hb2 hb1 hW1;cases hc:(kc != 0)
    ·have HA:=qb (HS.out.move (w':=w2) (HS.out.room.jb (HB2.out.block gs qxj)) (Two.of HB2.out) (HB2.out.block gr qh8));have HA2:=qb (HA.out.ans (cap:=cap) (Tm.qr4 (by rw[HKC.out];simpa using hc)));rw[HM.out,HQ.out]at HA2;go_wp2;go_ret2;exact HA2.out
    ·have qtW:Tm.qd lns c≠0:=by rw[HKC.out];simpa using hc
     have Qp4:=qb (Tm.qtX (fun x=>Tm.qey HF.out x) qtW HS.out.calm HS.out.marks);have Qxk:=qb qtW
     have cr2:w2.cell? ⟨gr,off+k,none⟩=some (.int .i64 c):=by rw[HB2.out.cell (p:=⟨gr,off+k,none⟩) qh8];exact hat
     have QtY:Hid (Room (w2.alloc (.cells #[.int .i64 c] 3)) gs sq):=HS.out.room.jb ((heap_alloc_old w2 _ (by omega)).trans (HB2.out.block gs qxj))
     have HCS:Hid (∀j,j<[Value.int .i64 c].length->((w2.alloc (.cells #[.int .i64 c] 3)).cell? ⟨gs,0+q+j,none⟩).isSome=true/\(w2.alloc (.cells #[.int .i64 c] 3)).frozen? ⟨gs,0+q+j,none⟩=false):=by
      intro j hj;obtain⟨pad,h1,h2⟩:=QtY.out;have h4:=h2.at (j:=q+j) (by rw[h1];simp at hj;omega)
      rw[Nat.add_assoc];exact⟨by rw[h4.1];rfl,h4.2⟩
     clear hat n0 YY qtW;go_wp2_with (at_builtin;go_must (refine qgg rfl _ _ 83 rfl 3 i0 Tryz.underlying83 hi hz1 gs 0 q 3 rfl ⟨w2.heap.size,0,none⟩ 1 1 [.int .i64 c] rfl rfl qbS (by intro u hu;simp at hu;subst hu;rfl) (by omega) HCS.out ?_))
     intro w3 hw3
     have ql7:w3=(w2.alloc (.cells #[.int .i64 c] 3)).setCells gs (0+q) [.int .i64 c]:=by rw[Nat.zero_add];exact hw3
     have hz3:w3.heap.size=w2.heap.size+1:=by rw[ql7,(qS _ _ _ _).1];simp
     have hso:QB wr.heap.size gs wr w3:=by rw[ql7];exact QB.setCells ((QB.of HB2.out).alloc (by omega) _) _ _ (by simp;omega)
     have n3:w3.cell? ⟨wr.heap.size,0,none⟩=some (.int .i64 kc):=by
      rw[ql7,World.cell?_setCells_out _ _ _ _ _ (fun h _=>by simp only at h;omega),qJ (by omega)];exact n2
     have qtZ:Room w3 gs (sq++[c])/\Room w3 gs sq:=by
      have h:=QtY.out.push (by rw[HQ.out];exact h3) c;rw[HQ.out,<-ql7]at h;exact h
     have HR3:=qb qtZ.1;have HS3:=qb (HS.out.move (w':=w3) qtZ.2 (Two.one hso) (hso.block gr qh8 (fun h=>hne h.symm)));have HN3:=qb (HNR.out.below (hso.below (by omega) hgs))
     have qBb:w3.cell? ⟨gr,off+k,none⟩=some (.int .i64 c):=by rw[hso.cell (p:=⟨gr,off+k,none⟩) qh8 (fun h=>hne h.symm)];rw[<-cr2,HB2.out.cell (p:=⟨gr,off+k,none⟩) qh8]
     have hg3:gs<w3.heap.size:=by omega
     have qxl:gr<w3.heap.size:=by omega
     have Qei:Hid (Reads w3 (.slice (some ⟨gs,0,none⟩) (q+1) 3) 1 (q+1) (ints (sq++[c]))):=by
      obtain⟨pad,h1,h2⟩:=HR3.out;exact h2.front.reads hg3 (by simp[HQ.out]) (by omega) (by unfold maxLen;omega)
     clear hw3 ql7 hso qtZ cr2 n2 QtY HCS;obtain⟨tp,htp⟩:∃tp,Tm.top (Tm.qd lns) ps=tp:=⟨_,rfl⟩
     have HTP:=qb htp;rw[htp];rw[htp,HKC.out]at Qp4;have QvO:Hid (¬(Tm.isS lns (sq++[c])=true/\∀y∈ps,Tm.qd lns y<Tm.qd lns c)->∀w',Room w' gs sq->Two gs gr w3 w'->w'.heap[gr]?=w3.heap[gr]?->XI lns gs gr off seq rest w w' sq (ps++[c]) r):=fun h w' h1 h2 h3=>(HS3.out.pass Qxk.out h).move h1 h2 h3
     have HLP:Hid (Value.int .i64 kc=.int .i64 (Tm.top (Tm.qd lns) (ps++[c]))/\Value.int .i64 ((k:Int)+1)=.int .i64 (ps++[c]).length/\Value.slice (some ⟨gr,off,none⟩) m cap=.slice (some ⟨gr,off,none⟩) (ps++[c]++r).length cap/\Value.slice (some ⟨gs,0,none⟩) q 3=.slice (some ⟨gs,0,none⟩) sq.length 3):=by
      refine⟨by rw[Tm.ql8,HKC.out],by rw[List.length_append,HK.out];rfl,by rw[List.append_assoc];exact congrArg (fun x=>Value.slice _ x _) HM.out.symm,by rw[HQ.out]⟩
     clear htp;by_cases hgt:tp<kc
     ·have hd:decide (tp<kc)=true:=by simpa using hgt
      go_wp2_with fail
      refine(qbl lns bm _ (sq++[c]) _ HN3.out.rd (by rw[List.length_append,HQ.out];exact Qei.out) (by simp) ?_ (by rw[List.length_append,HQ.out];simp;omega) hn HF.out).mono ?_
      ·intro x hx;rcases List.mem_append.1 hx with hx|hx
       ·exact HS3.out.rs x hx
       ·rw[List.mem_singleton.1 hx];exact hc0
      rintro e w4 ⟨rfl,hb4⟩;have HB4:=qb hb4;have hz4:=hb4.size;have hx0:(!(Tm.yD lns (sq++[c])).isNone)=Tm.isS lns (sq++[c]):=rfl;rw[hx0]
      have n4:w4.cell? ⟨wr.heap.size,0,none⟩=some (.int .i64 kc):=by rw[hb4.cell (p:=⟨wr.heap.size,0,none⟩) (by simp only;omega)];exact n3
      clear hb4 hx0;cases hx:Tm.isS lns (sq++[c])
      ·have HP:=qb (QvO.out (by rw[hx];simp) w4 (HS3.out.room.jb (HB4.out.block gs hg3)) (Two.of HB4.out) (HB4.out.block gr qxl));go_wp2;go_roundw
       case rel=>exact⟨sq,ps++[c],r,HLP.out.2.2.2,HLP.out.2.2.1,HLP.out.1,HLP.out.2.1,HP.out⟩
       case measure=>simp[intOf,qjO];omega
      ·obtain⟨k1,hk1⟩:∃k1,k+1=k1:=⟨_,rfl⟩
       have ek:(k:Int)+1=(k1:Int):=by omega
       have HI4:Hid (Qo w4 gr off (ps++c::r)):=HS3.out.ints.jb (HB4.out.block gr qxl);have Qxm:=qb (QnZ gr off cap k k1 (ps++c::r) w4 HI4.out (by rw[HM.out];exact hkm) hk1 (by rw[HM.out];exact⟨by have:=Qxi.out.1;omega,Qxi.out.2⟩) (by rw[HM.out];omega));rw[HM.out]at Qxm;have hK1:=qb hk1;clear hk1;go_wp2_with fail
       refine Qxm.out.mono ?_;rintro e w5 ⟨rfl,hI5,hso5,hz5⟩;have HT:=qb (HS3.out.take (w':=w5) Qxk.out hx (by rw[HKC.out];exact Qp4.out.2 hgt) (by rw[HQ.out];exact h3) (HR3.out.jb ((hso5.block gs (by omega) hne).trans (HB4.out.block gs hg3))) (by rw[HK.out];exact hI5) ((Two.of HB4.out).trans (Two.other hso5)))
       have HL5:Hid (Value.slice (some ⟨gs,0,none⟩) (q+1) 3=.slice (some ⟨gs,0,none⟩) (sq++[c]).length 3/\Value.slice (some ⟨gr,off,none⟩) (m-1) cap=.slice (some ⟨gr,off,none⟩) (ps++r).length cap/\Value.int .i64 tp=.int .i64 (Tm.top (Tm.qd lns) ps)/\Value.int .i64 (k:Int)=.int .i64 ps.length):=by
        refine⟨by rw[List.length_append,HQ.out];rfl,?_,by rw[HTP.out],by rw[HK.out]⟩;have:=HMR.out
        have h6:(ps++r).length=m-1:=by rw[List.length_append,HK.out];omega
        rw[h6]
       clear hI5 hso5;go_wp2;go_roundw
       case rel=>exact⟨sq++[c],ps,r,HL5.out.1,HL5.out.2.1,HL5.out.2.2.1,HL5.out.2.2.2,HT.out⟩
       case measure=>simp[intOf,qjO];omega
     ·have hd:decide (tp<kc)=false:=by simpa using hgt
      have HP:=qb (QvO.out (fun h=>hgt (Qp4.out.1 (by rw[HKC.out]at h;exact h.2))) w3 HS3.out.room (Two.refl _ _ _) rfl);go_wp2;go_roundw
      case rel=>exact⟨sq,ps++[c],r,HLP.out.2.2.2,HLP.out.2.2.1,HLP.out.1,HLP.out.2.1,HP.out⟩
      case measure=>simp[intOf,qjO];omega
   ·have HA:=qb (HS.out.ans (cap:=cap) (by rw[Tm.qkr HF.out _ _ _ (by rw[HQ.out];omega)]));rw[HM.out,HQ.out]at HA;go_wp2;go_ret2;exact HA.out
