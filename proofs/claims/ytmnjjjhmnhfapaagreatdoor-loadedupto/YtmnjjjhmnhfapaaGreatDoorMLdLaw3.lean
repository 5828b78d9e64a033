import Derived.Conc.EventLaws2
import Derived.IntWalk
import Derived.Laws.MakeOwn
import Derived.Test.YtmnjjjhmnhfapaaGreatDoorMLdTake
namespace Go.Proofs.YtmnjjjhmnhfapaaGreatDoor
set_option maxRecDepth 100000
set_option maxHeartbeats 800000
namespace Sim
open Go.RowKit
variable {T S F:Nat->Prop}{u w:World}{v:Value}{bc bm X bx size n:Nat}{st:Int}{sh:Bool}{lns:List Tm.Ln}{s:Qt}{fs:List Tm.Fact}{xs:List Value}
def qft(u w:World):World:={w with heap:=u.heap}
structure Kept(T:Nat->Prop)(u w:World):Prop where
 size:u.heap.size<=w.heap.size
 block:∀k,k<u.heap.size->¬T k->w.heap[k]?=u.heap[k]?
theorem Kept.refl(T:Nat->Prop)(u:World):Kept T u u:=⟨Nat.le_refl _,fun _ _ _=>rfl⟩
theorem Kept.vV(h:Kept T u w):Qy T (qft u w) w:=⟨rfl,rfl,rfl,h.size,h.block⟩
theorem Kept.of(h:Qy T u w):Kept T u w:=⟨h.size,h.block⟩
theorem Kept.pre(h:Pre u w):Kept T u w:=⟨h.size,fun k hk _=>h.block k hk⟩
theorem Kept.trans{v:World}(h:Kept S u v)(k:Kept T v w)(hT:∀i,T i->S i\/u.heap.size<=i):Kept S u w :=
 ⟨Nat.le_trans h.size k.size,fun i hi hb=>(k.block i (Nat.lt_of_lt_of_le hi h.size) (fun ht=>by rcases hT i ht with h1|h1;exact hb h1;omega)).trans (h.block i hi hb)⟩
theorem Kept.cell(h:Kept T u w){p:Addr}(hp:p.block<u.heap.size)(hn:¬T p.block):w.cell? p=u.cell? p:=World.cell?_of_block (h.block _ hp hn)
theorem Kept.frozen{T:Nat->Prop}{u w:World}(h:Kept T u w){p:Addr}(hp:p.block<u.heap.size)(hn:¬T p.block):w.frozen? p=u.frozen? p:=World.frozen?_of_block (h.block _ hp hn)
theorem qmN(h:Jd u bc bm st sh lns):Jd (qft u w) bc bm st sh lns:=⟨h.lt,h.c0,h.c1,h.c2,h.rd,h.fit,h.few⟩
theorem qsH(h:Ix u X S bx bc st sh lns s):Ix (qft u w) X S bx bc st sh lns s:=by
 obtain⟨F,B,V,v,g,hi⟩:=h.mem;exact⟨h.from_,h.own,h.c0,h.c3,h.free,⟨F,B,V,v,g,⟨hi.c1,hi.c2,hi.now,hi.held,hi.vS,hi.hS,hi.fS,hi.qem,hi.inj,hi.rows⟩⟩,h.ok⟩
theorem qrH{vf:Value}{bb:Nat}(h:Bk u X F S vf bb bx bc bm st sh lns fs s):Bk (qft u w) X F S vf bb bx bc bm st sh lns fs s:=by
 obtain⟨W,hW,hC,hb⟩:=h.base;exact⟨⟨qft W w,hW,qmN hC,⟨rfl,rfl,rfl,hb.4,hb.5⟩⟩,h.ok,qsH h.ix,h.sub,h.from_,h.own,h.jM,h.c0,h.c1,h.c2,h.c3,h.free,h.row,h.xt,h.short⟩
theorem qsI(h:Reads u v size n xs):Reads (qft u w) v size n xs:=h
theorem quB{base:Nat}{e:TypeId}(h:u.ownsRow base e size v n xs):(qft u w).ownsRow base e size v n xs:=h
theorem Kept.ix(k:Kept T u w)(h:Ix u X S bx bc st sh lns s)(hd:∀i,S i->¬T i):Ix w X S bx bc st sh lns s:=(qsH h).vV k.vV hd
theorem Kept.bk(k:Kept T u w){vf:Value}{bb:Nat}(h:Bk u X F S vf bb bx bc bm st sh lns fs s)(hd:∀i,F i->¬T i)(hT:∀i,T i->X<=i):Bk w X F S vf bb bx bc bm st sh lns fs s:=(qrH h).vV k.vV hd hT
theorem Kept.reads(k:Kept T u w)(h:Reads u v size n xs)(hn:∀g,v.ownBlock=some g->¬T g):Reads w v size n xs:=k.vV.reads (qsI h) hn
theorem Kept.owns(k:Kept T u w){base:Nat}{e:TypeId}(h:u.ownsRow base e size v n xs)(hn:∀g,v.ownBlock=some g->¬T g):w.ownsRow base e size v n xs:=k.vV.owns (quB h) hn
end Sim
def jx(c:ByteArray->ByteArray->Int)(s:Qt)(l:Tm.QU):Qt:=l.foldl (fun s e=>zg c s e.1 e.2) s
def jy(c:ByteArray->ByteArray->Int):Qt->Tm.QU->List Value
 | _,[]=>[]
 | s,e::l=>.int .i64 (qW c s e.1 e.2)::jy c (zg c s e.1 e.2) l
theorem qhB(c:ByteArray->ByteArray->Int)(s:Qt)(l:Tm.QU)(e:ByteArray×ByteArray):jx c s (l++[e])=zg c (jx c s l) e.1 e.2:=by simp[jx]
theorem qgD(c:ByteArray->ByteArray->Int):∀(s:Qt) (l:Tm.QU) (e:ByteArray×ByteArray),jy c s (l++[e])=jy c s l++[.int .i64 (qW c (jx c s l) e.1 e.2)]
 | _,[],_=>rfl
 | s,x::l,e=>by
  show _::jy c _ (l++[e])=_;rw[qgD c _ l e];rfl
theorem qeM(c:ByteArray->ByteArray->Int):∀(s:Qt) (l:Tm.QU),(jy c s l).length=l.length
 | _,[]=>rfl
 | s,x::l=>by show(jy c _ l).length+1=_;rw[qeM c _ l];rfl
theorem qhC(c:ByteArray->ByteArray->Int):∀(s:Qt) (l:Tm.QU) (i:Nat) (h:i<l.length),(jy c s l)[i]?=some (.int .i64 (qW c (jx c s (l.take i)) l[i].1 l[i].2))
 | _,[],_,h=>by simp at h
 | s,x::l,0,_=>rfl
 | s,x::l,i+1,h=>by
  show(jy c (zg c s x.1 x.2) l)[i]?=_;rw[qhC c _ l i (by simpa using h)];rfl
theorem qgE{α:Type}(l:List α)(i:Nat)(h:i<l.length):l.take (i+1)=l.take i++[l[i]]:=by simp
namespace Sim
open Go.Conc Go.RowKit
def ya(plc:ByteArray->Value)(ks:List ByteArray)(i:Nat):List Value :=
 if h:i<ks.length then plc ks[i]::ya plc ks (i+4)else[]
termination_by ks.length-i
noncomputable def qo5:Code:=match Tryz.f118.body with
 | some (.seq _ (.seq _ (.block _ (.loop c))))=>c
 | _=>.skip
structure JE(Ro:Nat->Prop)(c:Nat)(vc:Value)(al0 al:Option Addr)(cap:Nat)(ks:List ByteArray)(w0:World)(K:Kr)(M:Nat->Prop)(a:Act)(w W:World):Prop where
 tie:∃a0,Tie Tryz.prog fs2 Ro K M a0 a w W
 size:a.tmps.size=25
 s0:a.eval (.tmp 0)=.chan (some c)
 s1:VR K vc (a.eval (.tmp 1))
 s2:a.eval (.tmp 2)=.slice al ks.length cap
 qj6:M c
 pre:Pre w0 w
 list:∀(g:Addr) (i:Nat) (hi:i<ks.length),al0=some g->∃g',al=some g'/\AR K g g'/\g.spot=none/\w0.cell? ⟨g.block,g.off+i * 2,none⟩=some (.string ks[i])/\g.block<w0.heap.size
 some_:0<ks.length->al0≠none
section
variable {Ro:Nat->Prop}{c:Nat}{vc:Value}{al0 al:Option Addr}{cap:Nat}{ks:List ByteArray}{w0:World}{K:Kr}{M:Nat->Prop}{a:Act}{w W:World}
theorem JE.lt(h:JE Ro c vc al0 al cap ks w0 K M a w W):∀b,M b->b<W.heap.size:=let ⟨_,t⟩:=h.tie;t.lt
theorem JE.put(h:JE Ro c vc al0 al cap ks w0 K M a w W){d:Nat}(hd:2<d)(hd2:d<25){v v':Value}(hv:VR K v v'):JE Ro c vc al0 al cap ks w0 K M (a.put (some d) v') w W:=by
 obtain⟨a0,t⟩:=h.tie
 have hs:d<a.tmps.size:=by rw[h.size];exact hd2
 refine⟨⟨a0.put (some d) v,t.put (Kr.le.refl _) hv (some d),t.wr,t.km,t.lt,t.fs⟩,(qmO a d v').trans h.size,?_,?_,?_,h.qj6,h.pre,h.list,h.some_⟩
 ·rw[qaY a d 0 v' hs,if_neg (by omega)];exact h.s0
 ·rw[qaY a d 1 v' hs,if_neg (by omega)];exact h.s1
 ·rw[qaY a d 2 v' hs,if_neg (by omega)];exact h.s2
theorem JE.ev(h:JE Ro c vc al0 al cap ks w0 K M a w W){d t:Nat}(hd2:d<25)(v:Value):(a.put (some d) v).eval (.tmp t)=if t=d then v else a.eval (.tmp t):=qaY a d t v (by rw[h.size];exact hd2)
theorem JE.slot(h:JE Ro c vc al0 al cap ks w0 K M a w W)(t:Nat):∃v,VR K v (a.eval (.tmp t)):=by
 obtain⟨a0,x⟩:=h.tie;exact⟨_,x.eval (.tmp t) rfl⟩
end
theorem qwD{P:Program}{t e ty:TypeId}(h:P.underlying t=some (.slice e))(al:Option Addr)(n cap:Nat)(W:World)(es:Array Event):(Builtin.len_ #[t] ty #[.slice al n cap]).runT P W es=(.ok (goInt n) W,es):=by
 show((underlying t).bind _).runT P W es=_;rw[Sem.runT_bind']
 have e1:(underlying t).runT P W es=(.ok (.slice e) W,es):=by
  show((Go.program).bind _).runT P W es=_;rw[Sem.runT_bind'];show(match P.underlying t with|some d=>Pure.pure d|none=>_:Sem TypeDesc).runT P W es=_;rw[h];rfl
 rw[e1];rfl
theorem qsJ(b o:Nat)(W:World)(es:Array Event):(Instr.fieldAt 67 (.pointer (some ⟨b,o,none⟩)) 0).runT Tryz.prog W es=(.ok (.pointer (some ⟨b,o,none⟩)) W,es):=by kernel_rfl
theorem qmP{p:Addr}{W:World}{s:ByteArray}(h:W.cell? p=some (.string s))(es:Array Event):(Instr.loadAt 9 (.pointer (some p))).runT Tryz.prog W es=(.ok (.string s) W,es.push ⟨.cell p,false,false⟩):=by
 have e:(Instr.loadAt 9 (.pointer (some p))).runT Tryz.prog W es=(load p).runT Tryz.prog W es:=by kernel_rfl
 rw[e];show(Sem.load .plain p Sem.pure).runT _ _ _=_;simp only[Sem.runT,h];rfl
theorem qsK(b o cap:Nat){n i:Nat}(hi:i<n){W:World}{es:Array Event}:(Instr.indexAt 50 (.slice (some ⟨b,o,none⟩) n cap) (.int .i64 i)).runT Tryz.prog W es=(.ok (.pointer (some ⟨b,o+i * 2,none⟩)) W,es):=by
 have hin:(0:Int)<=(i:Int)/\(i:Int)<(n:Int):=by omega
 rw[Sem.runT_eq]
 have hr:(Instr.indexAt 50 (.slice (some ⟨b,o,none⟩) n cap) (.int .i64 i)).run Tryz.prog W=.ok (.pointer (some ⟨b,o+i * 2,none⟩)) W:=by
  rw[run_indexAt_slice (h:=Tryz.underlying50),if_pos hin]
  have hs:(sizeOf (Tryz.prog.elem 50)).run Tryz.prog W=.ok 2 W:=by kernel_rfl
  rw[hs];show Result.ok (Value.pointer (some (Addr.add ⟨b,o,none⟩ ((i:Int).toNat * 2)))) W=_;rw[Int.toNat_natCast];unfold Addr.add;split
  ·rename_i e;simp[e]
  ·rfl
 have he:(Instr.indexAt 50 (.slice (some ⟨b,o,none⟩) n cap) (.int .i64 i)).events Tryz.prog W es=es:=events_indexAt_slice (h:=Tryz.underlying50) (hi:=hin) ..;rw[hr,he]
section
variable {Ro:Nat->Prop}{c:Nat}{vc:Value}{al0 al:Option Addr}{cap:Nat}{ks:List ByteArray}{w0:World}{K:Kr}{M:Nat->Prop}{a:Act}{w W:World}{vs:List Value}
theorem JE.pure(h:JE Ro c vc al0 al cap ks w0 K M a w W){ops:Array Oper}{i:Nat}{rest:List Nat}{k:List Item}{cs:List Frame}{o:Oper}{d:Nat}(ho:ops[i]?=some o)(quC:o.dst=some d)(hg:o.guard=none)(hd:2<d)(hd2:d<25){v v0:Value}(hv:VR K v0 v)(hT:∀W1,(execOp a.eval o).runT Tryz.prog W1 #[]=(.ok (.value v) W1,#[]))
  (n:∀a1,JE Ro c vc al0 al cap ks w0 K M a1 w W->a1.eval (.tmp d)=v->(∀t,t≠d->a1.eval (.tmp t)=a.eval (.tmp t))->a1.defers=a.defers->Sd Tryz.prog Ro c vs M (G ((baseD 118).at a1 (.inRegion ops rest::k)) cs) W) :
  Sd Tryz.prog Ro c vs M (G ((baseD 118).at a (.inRegion ops (i::rest)::k)) cs) W:=by
 refine(z6 _ Ro c _).pure h.lt ho (by unfold Region.wanted;rw[hg]) (by show CallKind.deferred≠CallKind.early;nofun) (v:=v) (fun W1=>by rw[<-Sem.runT_fst _ _ W1 #[],hT W1]) (fun W1=>by show((execOp a.eval o).runT _ W1 #[]).2=_;rw[hT W1]) ?_;rw[quC];refine n _ (h.put hd hd2 hv) ?_ (fun t ht=>?_) (put_defers _ _ _)
 ·rw[h.ev hd2,if_pos rfl]
 ·rw[h.ev hd2,if_neg ht]
end
section
variable {Ro:Nat->Prop}{c:Nat}{vc:Value}{al0 al:Option Addr}{cap:Nat}{ks:List ByteArray}{w0:World}{K:Kr}{M:Nat->Prop}{a:Act}{w W:World}
theorem JE.rely(h:JE Ro c vc al0 al cap ks w0 K M a w W){W1:World}(r:QK M W W1):JE Ro c vc al0 al cap ks w0 K M a w W1:=by
 obtain⟨a0,t⟩:=h.tie;exact⟨⟨a0,t.tm,t.wr.rely t.km r,t.km,fun b hb=>Nat.lt_of_lt_of_le (t.lt b hb) r.size,t.fs⟩,h.size,h.s0,h.s1,h.s2,h.qj6,h.pre,h.list,h.some_⟩
theorem JE.called(h:JE Ro c vc al0 al cap ks w0 K M a w W){d:Nat}(hd:2<d)(hd2:d<25){K1:Kr}{M1:Nat->Prop}{w1 W1:World}{v v':Value}{a0:Act}(g:Grown K M K1 M1)(hp:Pre w w1)(T:Tie Tryz.prog fs2 Ro K1 M1 a0 (a.put (some d) v') w1 W1)(_hv:VR K1 v v'):JE Ro c vc al0 al cap ks w0 K1 M1 (a.put (some d) v') w1 W1:=by
 have hs:d<a.tmps.size:=by rw[h.size];exact hd2
 refine⟨⟨a0,T⟩,(qmO a d v').trans h.size,?_,?_,?_,g.m _ h.qj6,h.pre.trans hp,fun x i hi e=>?_,h.some_⟩
 ·rw[qaY a d 0 v' hs,if_neg (by omega)];exact h.s0
 ·rw[qaY a d 1 v' hs,if_neg (by omega)];exact h.s1.mono g.le
 ·rw[qaY a d 2 v' hs,if_neg (by omega)];exact h.s2
 ·obtain⟨g',e1,e2,e3,e4,e5⟩:=h.list x i hi e;exact⟨g',e1,e2.mono g.le,e3,e4,e5⟩
end
variable {al0 al:Option Addr}{ks:List ByteArray}{plc:ByteArray->Value}
theorem quD{Ro:Nat->Prop}{c:Nat}{vc:Value}{al0 al:Option Addr}{cap:Nat}{w0:World}{plc:ByteArray->Value}{ats:Array TypeId}{ty:TypeId}(hlen:ks.length<=1000000000)
  (hC:∀w1,Pre w0 w1->∀key,Calls Tryz.prog 76 #[vc,.string key] w1 (fun e w2=>∃v,e=.returned v/\v=plc key/\Pre w1 w2)) (qbC:∀key,vg 9 (plc key)=true) :
  ∀(m i:Nat) (K:Kr) (M:Nat->Prop) (a:Act) (w W:World),ks.length-i=m->i<=ks.length+4->JE Ro c vc al0 al cap ks w0 K M a w W->a.eval (.tmp 8)=.int .i64 i->a.defers=[closing c ats ty #[false]] ->
  Sd Tryz.prog Ro c (ya plc ks i) M (G ((baseD 118).at a [.code qo5,.inLoop qo5,.inBlock 0]) [under Tryz.prog]) W:=by
 intro m
 induction m using Nat.strongRecOn with
 | _ m ih =>
  intro i K M a w W hm hi h h8 hd;refine(z6 _ Ro c _).seq h.lt ?_;refine(z6 _ Ro c _).seq h.lt ?_;refine(z6 _ Ro c _).region h.lt ?_;refine h.pure rfl rfl rfl (by decide) (by decide) (v:=.int .i64 i) (.int _ _) (fun _=>by show(Pure.pure (Next.value (a.eval (.tmp 8))):Sem Next).runT _ _ _=_;rw[h8];rfl) (fun a1 h1 e11 f1 d1=>?_);refine h1.pure rfl rfl rfl (by decide) (by decide) (v:=a1.eval (.tmp 2)) (h1.slot 2).choose_spec (fun _=>rfl) (fun a2 h2 e12 f2 d2=>?_);refine h2.pure rfl rfl rfl (by decide) (by decide) (v:=.int .i64 ks.length) (.int _ _) (fun W1=>?_) (fun a3 h3 e13 f3 d3=>?_)
  ·have e:=e12.trans h1.s2;simp only[List.getElem_toArray,List.getElem_cons_succ,List.getElem_cons_zero,execOp,resolve,List.map_toArray,List.map_cons,List.map_nil,e];show((Builtin.len_ #[50] 3 #[.slice al ks.length cap]).bind _).runT _ _ _=_;rw[Sem.runT_bind',qwD Tryz.underlying50];rfl
  refine h3.pure rfl rfl rfl (by decide) (by decide) (v:=.bool (decide ((i:Int)<ks.length))) (.bool _) (fun W1=>?_) (fun a4 h4 e14 f4 d4=>?_)
  ·have e1:a3.eval (.tmp 11)=.int .i64 i:=by rw[f3 11 (by decide),f2 11 (by decide)];exact e11
   simp only[List.getElem_toArray,List.getElem_cons_succ,List.getElem_cons_zero,execOp,e1,e13];rfl
  refine(z6 _ Ro c _).qx h4.lt ?_;refine(z6 _ Ro c _).cond h4.lt e14 ?_;by_cases hlt:i<ks.length
  ·rw[if_pos (by simpa using hlt)];refine(z6 _ Ro c _).skip h4.lt ?_;refine(z6 _ Ro c _).seq h4.lt ?_;refine(z6 _ Ro c _).block h4.lt ?_;refine(z6 _ Ro c _).region h4.lt ?_
   have g8:a4.eval (.tmp 8)=.int .i64 i:=by rw[f4 8 (by decide),f3 8 (by decide),f2 8 (by decide),f1 8 (by decide)];exact h8
   refine h4.pure rfl rfl rfl (by decide) (by decide) (v:=a4.eval (.tmp 0)) (h4.slot 0).choose_spec (fun _=>rfl) (fun a5 h5 e17 f5 d5=>?_);refine h5.pure rfl rfl rfl (by decide) (by decide) (v:=a5.eval (.tmp 1)) h5.s1 (fun _=>rfl) (fun a6 h6 e18 f6 d6=>?_);refine h6.pure rfl rfl rfl (by decide) (by decide) (v:=a6.eval (.tmp 2)) (h6.slot 2).choose_spec (fun _=>rfl) (fun a7 h7 e19 f7 d7=>?_);refine h7.pure rfl rfl rfl (by decide) (by decide) (v:=a7.eval (.tmp 8)) (h7.slot 8).choose_spec (fun _=>rfl) (fun a8 h8' e20 f8 d8=>?_);obtain⟨g,hg⟩:∃g,al0=some g:=Option.ne_none_iff_exists'.1 (h.some_ (by omega));obtain⟨g',hg',hAR,hsp,zC,hgl⟩:=h8'.list g i hlt hg
   have qz7:g'=⟨g'.block,g.off,none⟩:=by
    obtain⟨x,y,z⟩:=g';have:=hAR.off;have:=hAR.spot;dsimp only at *
    subst_vars
    rw[hsp]
   refine h8'.pure rfl rfl rfl (by decide) (by decide) (v:=.pointer (some ⟨g'.block,g.off+i * 2,none⟩)) (v0:=.pointer (some ⟨g.block,g.off+i * 2,none⟩)) (.ptr _ _ ⟨hAR.block,rfl,rfl⟩) (fun W1=>?_) (fun a9 h9 e21 f9 d9=>?_)
   ·have e1:a8.eval (.tmp 19)=.slice (some ⟨g'.block,g.off,none⟩) ks.length cap:=by rw[f8 19 (by decide),e19,h6.s2,hg',qz7]
    have e2:a8.eval (.tmp 20)=.int .i64 i:=by rw[e20,f7 8 (by decide),f6 8 (by decide),f5 8 (by decide)];exact g8
    simp only[List.getElem_toArray,List.getElem_cons_succ,List.getElem_cons_zero,execOp,e1,e2];show((Instr.indexAt 50 (.slice (some ⟨g'.block,g.off,none⟩) ks.length cap) (.int .i64 i)).bind _).runT _ _ _=_;rw[Sem.runT_bind',qsK _ _ _ hlt];rfl
   refine h9.pure rfl rfl rfl (by decide) (by decide) (v:=.pointer (some ⟨g'.block,g.off+i * 2,none⟩)) (v0:=.pointer (some ⟨g.block,g.off+i * 2,none⟩)) (.ptr _ _ ⟨hAR.block,rfl,rfl⟩) (fun W1=>?_) (fun a10 h10 e22 f10 d10=>?_)
   ·simp only[List.getElem_toArray,List.getElem_cons_succ,List.getElem_cons_zero,execOp,e21];show((Instr.fieldAt 67 (.pointer (some ⟨g'.block,g.off+i * 2,none⟩)) 0).bind _).runT _ _ _=_;rw[Sem.runT_bind',qsJ];rfl
   obtain⟨a00,t10⟩:=h10.tie
   have hk0:w.cell? ⟨g.block,g.off+i * 2,none⟩=some (.string ks[i]):=by
    rw[<-zC];unfold World.cell?;rw[h10.pre.block g.block hgl]
   obtain⟨hkW,hnc⟩:=t10.wr.string (p:=⟨g.block,g.off+i * 2,none⟩) (q:=⟨g'.block,g.off+i * 2,none⟩) ⟨hAR.block,rfl,rfl⟩ hk0;have hMg:M g'.block:=t10.km _ _ hAR.block;refine(z6 _ Ro c _).read h10.lt rfl rfl (by show CallKind.deferred≠CallKind.early;nofun) (v:=.string ks[i]) (fun W1 hx=>?_) (fun W1 hx=>?_) ?_
   ·simp only[List.getElem_toArray,List.getElem_cons_succ,List.getElem_cons_zero,execOp,e22];show((Instr.loadAt 9 (.pointer (some ⟨g'.block,g.off+i * 2,none⟩))).bind _).run _ _=_;rw[<-Sem.runT_fst _ _ _ #[],Sem.runT_bind',qmP ((hx.cell (p:=⟨g'.block,g.off+i * 2,none⟩) hMg hnc).trans hkW)];rfl
   ·simp only[List.getElem_toArray,List.getElem_cons_succ,List.getElem_cons_zero,execOp,e22];intro e he;have he':e∈(((Instr.loadAt 9 (.pointer (some ⟨g'.block,g.off+i * 2,none⟩))).bind (fun v=>Sem.pure (Next.value v))).runT Tryz.prog W1 #[]).2:=he;rw[Sem.runT_bind',qmP ((hx.cell (p:=⟨g'.block,g.off+i * 2,none⟩) hMg hnc).trans hkW)]at he'
    have he2:e=⟨.cell ⟨g'.block,g.off+i * 2,none⟩,false,false⟩:=by simpa[Sem.runT]using he'
    subst he2;exact⟨rfl,hMg,(fun x=>by cases x),fun o ho=>hnc o (by rw[<-hx.same g'.block hMg hnc];exact ho)⟩
   have h11:=h10.put (d:=23) (by decide) (by decide) (v:=.string ks[i]) (v':=.string ks[i]) (.string _);have e23:=h10.ev (d:=23) (t:=23) (by decide) (.string ks[i]);rw[if_pos rfl]at e23
   have f11:∀t,t≠23->(a10.put (some 23) (.string ks[i])).eval (.tmp t)=a10.eval (.tmp t):=fun t ht=>by rw[h10.ev (by decide),if_neg ht]
   have d11:(a10.put (some 23) (.string ks[i])).defers=a10.defers:=put_defers _ _ _;show Sd _ _ _ _ _ (G ((baseD _).at (a10.put (some 23) (.string ks[i])) _) _) _;generalize a10.put (some 23) (.string ks[i])=a11 at h11 e23 f11 d11;obtain⟨a01,t11⟩:=h11.tie
   have qz8:VR K vc (a11.eval (.tmp 18)):=by
    rw[f11 18 (by decide),f10 18 (by decide),f9 18 (by decide),f8 18 (by decide),f7 18 (by decide),e18];exact h5.s1
   have qqP:ya plc ks i=plc ks[i]::ya plc ks (i+4):=by rw[ya,dif_pos hlt]
   rw[qqP];refine(z6 _ Ro c _).call zn (R:=fun v w2=>v=plc ks[i]/\Pre w w2) (xs:=#[vc,.string ks[i]]) (ys:=#[a11.eval (.tmp 18),.string ks[i]]) (f:=76) t11 (by show CallKind.deferred≠CallKind.early;nofun) rfl rfl (fun W1=>?_) (fun W1=>?_) (by kernel_rfl) ⟨_,Tryz.func76,by kernel_rfl⟩ (AV.two qz8 (.string _)) (fun τ=>?_) (fun K1 M1 v v' w1 W1 hgr hR hv T1=>?_)
   ·rw[<-e23];kernel_rfl
   ·kernel_rfl
   ·refine(hC (qg w τ) ⟨h11.pre.size,h11.pre.block⟩ ks[i]).mono (fun e w2 ⟨v,h1,h2,h3⟩=>⟨v,h1,h2,h3.size,h3.block⟩)
   ·obtain⟨rfl,yO⟩:=hR;have hv':v'=plc ks[i]:=qdT 9 _ _ (qbC _) hv;subst hv';have h12:=h11.called (d:=24) (by decide) (by decide) hgr yO T1 hv;have e24:=h11.ev (d:=24) (t:=24) (by decide) (plc ks[i]);rw[if_pos rfl]at e24
    have f12:∀t,t≠24->(a11.put (some 24) (plc ks[i])).eval (.tmp t)=a11.eval (.tmp t):=fun t ht=>by rw[h11.ev (by decide),if_neg ht]
    have d12:(a11.put (some 24) (plc ks[i])).defers=a11.defers:=put_defers _ _ _;show Sd _ _ _ _ _ (G ((baseD _).at (a11.put (some 24) (plc ks[i])) _) _) _;generalize a11.put (some 24) (plc ks[i])=a12 at h12 e24 f12 d12
    have qz9:a12.eval (.tmp 17)=.chan (some c):=by
     rw[f12 17 (by decide),f11 17 (by decide),f10 17 (by decide),f9 17 (by decide),f8 17 (by decide),f7 17 (by decide),f6 17 (by decide),e17];exact h4.s0
    have g8':a12.eval (.tmp 8)=.int .i64 i:=by
     rw[f12 8 (by decide),f11 8 (by decide),f10 8 (by decide),f9 8 (by decide),f8 8 (by decide),f7 8 (by decide),f6 8 (by decide),f5 8 (by decide)];exact g8
    have hdf:a12.defers=[closing c ats ty #[false]]:=by rw[d12,d11,d10,d9,d8,d7,d6,d5,d4,d3,d2,d1];exact hd
    refine Sd.send (z:=.tuple #[]) rfl h12.qj6 (fun W2 hx=>⟨?_,?_⟩)
    ·rw[stepG_comm (o:=_) rfl rfl (by show CallKind.deferred≠CallKind.early;nofun) (cases:=#[scase c (plc ks[i]) (.tuple #[])]) (blocking:=true) (shape:=.send) (w':=W2) ?_]
     ·rfl
     ·simp only[List.getElem_toArray,List.getElem_cons_succ,List.getElem_cons_zero,execOp,qz9,e24];rfl
    ·have h13:=h12.rely hx;rw[served_G];refine(z6 _ Ro c _).qx h13.lt ?_;refine(z6 _ Ro c _).inBlock h13.lt ?_;refine(z6 _ Ro c _).region h13.lt ?_;show Sd _ _ _ _ _ (G ((baseD _).at a12 _) _) _;refine h13.pure rfl rfl rfl (by decide) (by decide) (v:=.int .i64 i) (.int _ _) (fun _=>by show(Pure.pure (Next.value (a12.eval (.tmp 8))):Sem Next).runT _ _ _=_;rw[g8'];rfl) (fun a14 h14 e15 f14 d14=>?_);refine h14.pure rfl rfl rfl (by decide) (by decide) (v:=.int .i64 (i+4:Nat)) (.int _ _) (fun W3=>?_) (fun a15 h15 e16 f15 d15=>?_)
     ·simp only[List.getElem_toArray,List.getElem_cons_succ,List.getElem_cons_zero,execOp,e15];show(Pure.pure (Next.value (.int .i64 (IntKind.i64.wrap ((i:Int)+4)))):Sem Next).runT _ _ _=_;rw[IntWalk.i64_in _ (by omega)];rfl
     refine h15.pure rfl rfl rfl (by decide) (by decide) (v:=.int .i64 (i+4:Nat)) (.int _ _) (fun _=>by show(Pure.pure (Next.value (a15.eval (.tmp 16))):Sem Next).runT _ _ _=_;rw[e16];rfl) (fun a16 h16 e8 f16 d16=>?_);refine(z6 _ Ro c _).qx h16.lt ?_;refine(z6 _ Ro c _).inLoop h16.lt ?_;exact ih (ks.length-(i+4)) (by omega) (i+4) K1 M1 a16 w1 W2 rfl (by omega) h16 e8 (by rw[d16,d15,d14];exact hdf)
  ·rw[if_neg (by simpa using hlt)]
   have qqP:ya plc ks i=[]:=by rw[ya,dif_neg hlt]
   rw[qqP];refine(z6 _ Ro c _).exit h4.lt (k':=[]) rfl ?_;exact quE h4.lt h4.qj6 rfl (by rw[d4,d3,d2,d1];exact hd) Tryz.func118 rfl (by kernel_rfl)
theorem qdU(xs:Array Value)(n t:Nat)(ds:List Deferred){v:Value}(h:xs[t]?=some v):(⟨xs++Array.replicate n undef,ds⟩:Act).eval (.tmp t)=v:=by
 show(xs++Array.replicate n undef).getD t undef=v;rw[Array.getD_eq_getD_getElem?,Array.getElem?_append_left (Array.getElem?_eq_some_iff.1 h).1,h];rfl
theorem sends{Ro:Nat->Prop}{c c0:Nat}{vc vc':Value}{al0 al:Option Addr}{cap:Nat}{w W:World}{plc:ByteArray->Value}{K:Kr}{M:Nat->Prop}(first:Nat)(qAM:first<4)(hlen:ks.length<=1000000000)
  (hC:∀w1,Pre w w1->∀key,Calls Tryz.prog 76 #[vc,.string key] w1 (fun e w2=>∃v,e=.returned v/\v=plc key/\Pre w1 w2)) (qbC:∀key,vg 9 (plc key)=true)
  (hw:WR Tryz.prog Ro K w W) (hkm:∀x y,K.B x y->M y) (hlt:∀b,M b->b<W.heap.size) (hfs:K.Fs=fun f=>fs2 f=true) (hB:K.B c0 c) (hvc:VR K vc vc') (hal:VR K (.slice al0 ks.length cap) (.slice al ks.length cap))
  (list:∀(g:Addr) (i:Nat) (hi:i<ks.length),al0=some g->g.spot=none/\w.cell? ⟨g.block,g.off+i * 2,none⟩=some (.string ks[i])/\g.block<w.heap.size) (some_:0<ks.length->al0≠none) :
  Sd Tryz.prog Ro c (ya plc ks first) M (born Tryz.prog (dcall 118 #[.chan (some c),vc',.slice al ks.length cap,.int .i64 first])) W:=by
 refine(z6 _ Ro c _).begin hlt Tryz.func118 (by kernel_rfl) rfl ?_;simp only[Tryz.ntmps118];refine(z6 _ Ro c _).seq hlt ?_;refine(z6 _ Ro c _).region hlt ?_;have quF:VR K undef undef:=.tuple _ _ rfl (fun i x y h=>by simp at h);generalize hn:25-(#[.chan (some c),vc',.slice al ks.length cap,.int .i64 first]:Array Value).size=n
 have hn':n=21:=by rw[<-hn];rfl
 have h3:=qdU #[.chan (some c),vc',.slice al ks.length cap,.int .i64 first] n 3 [] rfl
 have h0:JE Ro c vc al0 al cap ks w K M ⟨#[.chan (some c),vc',.slice al ks.length cap,.int .i64 first]++Array.replicate n undef,[]⟩ w W:=by
  refine⟨⟨⟨#[.chan (some c0),vc,.slice al0 ks.length cap,.int .i64 first]++Array.replicate n undef,[]⟩,?_,hw,hkm,hlt,hfs⟩,by simp[hn'],qdU _ n 0 [] rfl,?_,qdU _ n 2 [] rfl,hkm _ _ hB,Pre.refl _,fun g i hi e=>?_,some_⟩
  ·refine AV.append ⟨rfl,fun i x y h1 h2=>?_⟩ (AV.replicate _ quF);rcases i with _|_|_|_|i<;>simp at h1 h2
   ·subst h1;subst h2;exact .chan _ _ hB
   ·subst h1;subst h2;exact hvc
   ·subst h1;subst h2;exact hal
   ·subst h1;subst h2;exact .int _ _
  ·rw[qdU _ n 1 [] (v:=vc') rfl];exact hvc
  ·obtain⟨l1,l2,l3⟩:=list g i hi e;subst e
   cases hal with
   | slice _ g' _ _ hAR=>exact⟨g',rfl,hAR,l1,l2,l3⟩
 have hd0:(⟨#[.chan (some c),vc',.slice al ks.length cap,.int .i64 first]++Array.replicate n undef,[]⟩:Act).defers=[]:=rfl;show Sd _ _ _ _ _ (G ((baseD _).at ⟨#[.chan (some c),vc',.slice al ks.length cap,.int .i64 first]++Array.replicate n undef,[]⟩ _) _) _;generalize (⟨#[.chan (some c),vc',.slice al ks.length cap,.int .i64 first]++Array.replicate n undef,[]⟩:Act)=a0 at h0 h3 hd0;refine h0.pure rfl rfl rfl (by decide) (by decide) (v:=a0.eval (.tmp 0)) (h0.slot 0).choose_spec (fun _=>rfl) (fun a1 h1 e9 f1 d1=>?_);refine(z6 _ Ro c _).qqQ h1.lt rfl rfl (by show CallKind.deferred≠CallKind.early;nofun) rfl (e9.trans h0.s0) rfl ?_
 have h2:∀q,JE Ro c vc al0 al cap ks w K M ⟨a1.tmps,q⟩ w W:=fun q=>by
  obtain⟨a0,t⟩:=h1.tie;exact⟨⟨a0,t.tm,t.wr,t.km,t.lt,t.fs⟩,h1.size,h1.s0,h1.s1,h1.s2,h1.qj6,h1.pre,h1.list,h1.some_⟩
 have hd2:∀q,(⟨a1.tmps,q⟩:Act).defers=q:=fun _=>rfl;have h33:∀q,(⟨a1.tmps,q⟩:Act).eval (.tmp 3)=.int .i64 first:=fun q=>(f1 3 (by decide)).trans h3
 refine(z6 _ Ro c _).qx (h2 []).lt ?_;refine(z6 _ Ro c _).seq (h2 []).lt ?_;refine(z6 _ Ro c _).region (h2 []).lt ?_;rw[d1,hd0];refine(h2 _).pure rfl rfl rfl (by decide) (by decide) (v:=.int .i64 first) (.int _ _) (fun _=>by show(Pure.pure (Next.value (Act.eval ⟨a1.tmps,_⟩ (.tmp 3))):Sem Next).runT _ _ _=_;rw[h33];rfl) (fun a2 g2 e10 f2 d2=>?_);refine g2.pure rfl rfl rfl (by decide) (by decide) (v:=.int .i64 first) (.int _ _) (fun _=>by show(Pure.pure (Next.value (a2.eval (.tmp 10))):Sem Next).runT _ _ _=_;rw[e10];rfl) (fun a3 g3 e8 f3 d3=>?_);refine(z6 _ Ro c _).qx g3.lt ?_;refine(z6 _ Ro c _).block g3.lt ?_;refine(z6 _ Ro c _).loop g3.lt ?_;exact quD hlen hC qbC _ first K M a3 w W rfl (by omega) g3 e8 (by rw[d3,d2])
end Sim
namespace Sim
open Go.Conc
section
variable {P:Program}{Ro:Nat->Prop}{Fs:FuncId->Bool}{Qk:Value->World->Prop}{rem:Nat->List (Option Value)}
 {K:Kr} {M:Nat->Prop} {b:Frame} {a a':Act} {w W:World} {ops:Array Oper} {i:Nat} {rest:List Nat} {k:List Item} {cs:List Frame} {o:Oper}
theorem quG(T:Tie P Fs Ro K M a a' w W)(hk:b.kind≠.early)(ho:ops[i]?=some o)(hwt:Region.wanted o (yielded ops a'.tmps)=true){f:FuncId}{ys:Array Value}(hr:∀W1,(execOp a'.eval o).run P W1=.ok (.spawn (dcall f ys)) W1)(he:∀W1,(execOp a'.eval o).events P W1 #[]=#[])(quC:o.dst=none)
  {Kb:Kr} (hb:WR P Ro Kb w W) (le:Kb.le K) (hRo:∀b,Ro b↔∃a,Kb.B a b) {c0 c:Nat} (hB:K.B c0 c) (hc:∀o,w.heap[c0]?=some o->o.isChan=true) (hnc:¬Ro c) (hm:¬Kb.Fs P.funcs.size) {vs:List Value}
  (child:∀W1,WR P Ro (Kb.with c0 c) w W1->(∀x y,(Kb.with c0 c).B x y->Ro y\/y=c)->(∀b,(Ro b\/b=c)->b<W1.heap.size)->Sd P Ro c vs (fun b=>Ro b\/b=c) (born P (dcall f ys)) W1)
  (next:Sc P Ro Qk none (upd rem c (vs.map some++[none])) M (G (b.at a' (.inRegion ops rest::k)) cs) W) :
  Sc P Ro Qk (some c) rem M (G (b.at a' (.inRegion ops (i::rest)::k)) cs) W:=by
 have hwc:=hb.with T.wr le hB hc hm hnc
 have kmc:∀x y,(Kb.with c0 c).B x y->Ro y\/y=c:=fun x y hxy=>by
  rcases hxy with z|⟨_,z⟩
  ·exact .inl ((hRo y).2 ⟨x,z⟩)
  ·exact .inr z
 have hMc:∀b,Ro b\/b=c->M b:=fun b hb=>by
  rcases hb with hb|rfl
  ·obtain⟨x,hx⟩:=(hRo b).1 hb;exact T.km x b (le.b _ _ hx)
  ·exact T.km _ _ hB
 refine Sc.start rfl fun W1 hx=>⟨_,born P (dcall f ys),fun b=>Ro b\/b=c,?_,fun b hb=>⟨hMc b hb,hb⟩,child W1 ?_ kmc (fun b hb=>Nat.lt_of_lt_of_le (T.lt b (hMc b hb)) hx.size),next.rely hx⟩
 ·rw[stepG_spawn ho hwt hk (hr W1) (f:=.func f) (c:=#[]) rfl];unfold listed;rw[he W1,quC];rfl
 ·exact hwc.rely kmc ⟨fun b hb hn=>hx.same b (hMc b hb) hn,hx.chan,hx.size⟩
theorem qj7(T:Tie P Fs Ro K M a a' w W)(hk:b.kind≠.early)(ho:ops[i]?=some o)(hwt:Region.wanted o (yielded ops a'.tmps)=true){made:Option Nat}{c:Nat}{ok:Bool}{z:Value}{x:Option Value}{r:List (Option Value)}(yp:rem c=x::r)(hM:M c)(hr:∀W1,(execOp a'.eval o).run P W1=.ok (.comm #[rcase c z] true (.recv ok)) W1)(he:∀W1,(execOp a'.eval o).events P W1 #[]=#[])
  (hv:VR K (recvd ok (x.getD z) x.isSome) (recvd ok (x.getD z) x.isSome))
  (next:Tie P Fs Ro K M (a.put o.dst (recvd ok (x.getD z) x.isSome)) (a'.put o.dst (recvd ok (x.getD z) x.isSome)) w W->Sc P Ro Qk made (upd rem c r) M (G (b.at (a'.put o.dst (recvd ok (x.getD z) x.isSome)) (.inRegion ops rest::k)) cs) W) :
  Sc P Ro Qk made rem M (G (b.at a' (.inRegion ops (i::rest)::k)) cs) W:=by
 refine Sc.recv (c:=c) (ok:=ok) (z:=z) (o:=x) (r:=r) rfl yp hM fun W1 hx=>⟨?_,?_⟩
 ·rw[stepG_comm ho hwt hk (hr W1)];unfold listed;rw[he W1];rfl
 ·rw[served_G,ho];exact(next (T.back (Kr.le.refl _) hv T.wr T.km T.lt o.dst)).rely hx
end
end Sim
namespace Sim
open Go.Conc Go.RowKit
variable {P:Program}{main:Bool}{Ro M:Nat->Prop}{S:(Nat->Prop)->Goroutine->World->Prop}{Fs:FuncId->Bool}{K:Kr}{b:Frame}{a a':Act}{w W w0:World}{ops:Array Oper}{i p5:Nat}{rest:List Nat}{k:List Item}{cs:List Frame}{o:Oper}{v:Value}{Qk:Value->World->Prop}{rem:Nat->List (Option Value)}{al0:Option Addr}{ks:List ByteArray}{plc:ByteArray->Value}{cc:Array Value}
theorem Way.opM(h:Way P main Ro S){ops:Array Oper}{i:Nat}{rest:List Nat}{k:List Item}{cs:List Frame}{o:Oper}(T:Tie P Fs Ro K M a a' w W)(hk:b.kind≠.early)
  (ho:ops[i]?=some o) (hwt:Region.wanted o (yielded ops a'.tmps)=true) (HG:Good P Fs) (hok:xu P Fs o.op=true) (hcl:qaZ o.op=none) {v:Value} {wn:World} (hg:∀τ,(execOp a.eval o).run P (qg w τ)=.ok (.value v) (qg wn τ)\/((execOp a.eval o).run P (qg w τ)=.ok .skip (qg wn τ)/\v=undef))
  (next:∀(K1:Kr) (M1:Nat->Prop) (v':Value) (W1:World),Grown K M K1 M1->VR K1 v v'->Tie P Fs Ro K1 M1 (a.put o.dst v) (a'.put o.dst v') wn W1->S M1 (G (b.at (a'.put o.dst v') (.inRegion ops rest::k)) cs) W1) :
  S M (G (b.at a' (.inRegion ops (i::rest)::k)) cs) W:=by
 refine h.op HG T hk ho hwt hok hcl (R:=fun v1 w1=>v1=v/\∃τ,w1=qg wn τ) (fun τ=>⟨v,_,hg τ,rfl,τ,rfl⟩) (fun K1 M1 v1 v' w1 W1 g hR hv T1=>?_);obtain⟨rfl,τ,rfl⟩:=hR;exact next K1 M1 v' W1 g hv (T1.qg wn.tape)
theorem Way.qmQ(h:Way P main Ro S){ops:Array Oper}{i:Nat}{rest:List Nat}{k:List Item}{cs:List Frame}{o:Oper}(T:Tie P Fs Ro K M a a' w W)(hk:b.kind≠.early)
  (ho:ops[i]?=some o) (hwt:Region.wanted o (yielded ops a'.tmps)=true) (HG:Good P Fs) {t:TypeId} {x y:Nat} (hop:o.op=.store t (.tmp x) (.tmp y)) (hd:o.dst=none) {p v:Value} {wn:World} (ex:a.eval (.tmp x)=p) (ey:a.eval (.tmp y)=v) (zk:∀τ,(Instr.storeAt t p v).run P (qg w τ)=.ok () (qg wn τ))
  (next:∀(K1:Kr) (M1:Nat->Prop) (W1:World),Grown K M K1 M1->Tie P Fs Ro K1 M1 a a' wn W1->S M1 (G (b.at a' (.inRegion ops rest::k)) cs) W1) :
  S M (G (b.at a' (.inRegion ops (i::rest)::k)) cs) W:=by
 refine h.opM T hk ho hwt HG (by rw[hop];rfl) (by rw[hop];rfl) (v:=undef) (wn:=wn) (fun τ=>.inr ⟨?_,rfl⟩) (fun K1 M1 v' W1 g e T1=>?_)
 ·unfold execOp;rw[hop];show((Instr.storeAt t (a.eval (.tmp x)) (a.eval (.tmp y))).bind _).run _ _=_;rw[ex,ey,Sem.run_bind',zk τ];rfl
 ·rw[hd]at T1⊢;exact next K1 M1 W1 g T1
theorem Way.qc1(h:Way P main Ro S){ops:Array Oper}{i:Nat}{rest:List Nat}{k:List Item}{cs:List Frame}{o:Oper}(T:Tie P Fs Ro K M a a' w W)(hk:b.kind≠.early)
  (ho:ops[i]?=some o) (hwt:Region.wanted o (yielded ops a'.tmps)=true) (HG:Good P Fs) {t:TypeId} {x:Nat} (hop:o.op=.load t (.tmp x)) {p v:Value} (ex:a.eval (.tmp x)=p) (zk:∀τ,(Instr.loadAt t p).run P (qg w τ)=.ok v (qg w τ))
  (next:∀(K1:Kr) (M1:Nat->Prop) (v':Value) (W1:World),Grown K M K1 M1->VR K1 v v'->Tie P Fs Ro K1 M1 (a.put o.dst v) (a'.put o.dst v') w W1->S M1 (G (b.at (a'.put o.dst v') (.inRegion ops rest::k)) cs) W1) :
  S M (G (b.at a' (.inRegion ops (i::rest)::k)) cs) W:=by
 refine h.opM T hk ho hwt HG (by rw[hop];rfl) (by rw[hop];rfl) (v:=v) (wn:=w) (fun τ=>.inl ?_) next;unfold execOp;rw[hop];show((Instr.loadAt t (a.eval (.tmp x))).bind _).run _ _=_;rw[ex,Sem.run_bind',zk τ];rfl
theorem go_run{P:Program}{f:FuncId}{x1 x2 x3 x4:Nat}{ats:Array TypeId}{y1 y2 y3 y4:Value}(hop:o.op=.go {callee:=.value (.func f),args:=#[.tmp x1,.tmp x2,.tmp x3,.tmp x4],argTypes:=ats})(h1:a.eval (.tmp x1)=y1)(h2:a.eval (.tmp x2)=y2)(h3:a.eval (.tmp x3)=y3)(h4:a.eval (.tmp x4)=y4)(W1:World) :
  (execOp a.eval o).run P W1=.ok (.spawn (dcall f #[y1,y2,y3,y4])) W1/\(execOp a.eval o).events P W1 #[]=#[]:=by
 unfold execOp;rw[hop];constructor
 ·simp[resolve,dcall,h1,h2,h3,h4];rfl
 ·simp[resolve];rfl
theorem qqR{p:Addr}{x:Value}{v:Option Nat}(hx:W.cell? p=some x)(hf:W.frozen? p=false):(Instr.storeAt 152 (.pointer (some p)) (.chan v)).run Tryz.prog W=.ok () (W.setCell p (.chan v)):=by
 have e:(Instr.storeAt 152 (.pointer (some p)) (.chan v)).run Tryz.prog W=(store p (.chan v)).run Tryz.prog W:=by kernel_rfl
 rw[e];simp[go_sem,hx,hf]
theorem qsL{p:Addr}{v:Option Nat}(hx:W.cell? p=some (.chan v)):(Instr.loadAt 152 (.pointer (some p))).run Tryz.prog W=.ok (.chan v) W:=by
 have e:(Instr.loadAt 152 (.pointer (some p))).run Tryz.prog W=(load p).run Tryz.prog W:=by kernel_rfl
 rw[e];simp[go_sem,hx]
def qdV(vc sl:Value)(p4 p5:Nat)(j:Int)(v6 v8 v9 v10 v11 v12 v13 v14 v15 v16 v17 v18 v19 v20:Value):Act:=⟨#[vc,sl,undef,undef,.pointer (some ⟨p4,0,none⟩),.pointer (some ⟨p5,0,none⟩),v6,.int .i64 j,v8,v9,v10,v11,v12,v13,v14,v15,v16,v17,v18,v19,v20],[]⟩
noncomputable def qcw:Code:=match Tryz.f75.body with
 | some (.seq _ (.seq _ (.seq (.seq _ (.block _ (.loop c))) _)))=>c
 | _=>.skip
theorem Tie.plain(T:Tie P Fs Ro K M a a' w W)(t:Nat)(hv:a.eval (.tmp t)=v)(hp:vg 9 v=true):a'.eval (.tmp t)=v:=by
 have h:=T.eval (.tmp t) rfl;rw[hv]at h;exact qdT 9 _ _ hp h
theorem Tie.slot(T:Tie P Fs Ro K M a a' w W)(t:Nat)(hv:a.eval (.tmp t)=v):VR K v (a'.eval (.tmp t)):=by
 have h:=T.eval (.tmp t) rfl
 rwa [hv]at h
theorem Tie.low{Kb:Kr}(T:Tie P Fs Ro K M a a' w W)(le:Kb.le K)(t:Nat)(hv:a.eval (.tmp t)=v)(h:∃y,VR Kb v y):∃y,a'.eval (.tmp t)=y/\VR Kb v y :=
 ⟨_,rfl,h.choose_spec.later le.wide T.wr.fn1 (T.slot t hv)⟩
theorem Tie.zm{b:Act}(T:Tie P Fs Ro K M a a' w W)(h:a=b):Tie P Fs Ro K M b a' w W:=h▸T
theorem vo:(base 75).kind≠.early:=by show CallKind.normal≠CallKind.early;nofun
theorem qfu{Ro:Nat->Prop}{Qk:Value->World->Prop}{rem:Nat->List (Option Value)}{K Kb:Kr}{M:Nat->Prop}{a':Act}{w w0 W:World}{k:List Item}{cs:List Frame}{vc:Value}{al0:Option Addr}{cap p4 p5 j:Nat}{ks:List ByteArray}{plc:ByteArray->Value}{v6 v8 v9 v10 v11 v12 v13 v14 v15 v16 v17 v18 v19 v20:Value}{cc:Array Value}
  (T:Tie Tryz.prog fs2 Ro K M (qdV vc (.slice al0 ks.length cap) p4 p5 j v6 v8 v9 v10 v11 v12 v13 v14 v15 v16 v17 v18 v19 v20) a' w W) (hj:j=0\/j=1\/j=2\/j=3) (hp5:w.heap[p5]?=some (.cells cc 154 (0,0))) (hcc:cc.size=4) (hlen:ks.length<=1000000000)
  (hC:∀w1,Pre w0 w1->∀key,Calls Tryz.prog 76 #[vc,.string key] w1 (fun e w2=>∃v,e=.returned v/\v=plc key/\Pre w1 w2)) (qbC:∀key,vg 9 (plc key)=true) (yO:Pre w0 w) (hn5:w0.heap.size<=p5)
  (hb:WR Tryz.prog Ro Kb w W) (le:Kb.le K) (hbf:Kb.Fs=fun f=>fs2 f=true) (hRo:∀b,Ro b↔∃a,Kb.B a b) (zU:∀a b,Kb.B a b->a<w0.heap.size) (hvb:∃y,VR Kb vc y) (hsb:∃y,VR Kb (.slice al0 ks.length cap) y)
  (list:∀(g:Addr) (i:Nat) (hi:i<ks.length),al0=some g->g.spot=none/\w0.cell? ⟨g.block,g.off+i * 2,none⟩=some (.string ks[i])/\g.block<w0.heap.size) (some_:0<ks.length->al0≠none)
  (next:∀(K1:Kr) (M1:Nat->Prop) (a1':Act) (W1:World) (c:Nat) (v6 v8 v9 v10 v11 v12 v13 v14 v15 v16 v17 v18 v19 v20:Value),Grown K M K1 M1->K1.B w.heap.size c->(∀x,¬K.B x c)->a1'.defers=a'.defers ->
   Tie Tryz.prog fs2 Ro K1 M1 (qdV vc (.slice al0 ks.length cap) p4 p5 (j+1:Nat) v6 v8 v9 v10 v11 v12 v13 v14 v15 v16 v17 v18 v19 v20) a1' ({w with heap:=w.heap.push (.chan 0 #[] false 0 0 false)}.setCell ⟨p5,j,none⟩ (.chan (some w.heap.size))) W1 ->
   Sc Tryz.prog Ro Qk none (upd rem c ((ya plc ks j).map some++[none])) M1 (G ((base 75).at a1' (.code qcw::.inLoop qcw::k)) cs) W1) :
  Sc Tryz.prog Ro Qk none rem M (G ((base 75).at a' (.code qcw::.inLoop qcw::k)) cs) W:=by
 have hj4:j<4:=by omega
 have h:=yl Tryz.prog Ro Qk none rem;refine h.seq T.lt ?_;refine h.region T.lt ?_;refine h.opM T vo rfl rfl zn rfl rfl (v:=.bool true) (wn:=w) (fun τ=>.inl (by rcases hj with rfl|rfl|rfl|rfl<;>kernel_rfl)) (fun K1 M1 v1 W1 g1 e1 T1=>?_)
 refine h.qx T1.lt ?_;refine h.seq T1.lt ?_;refine h.cond T1.lt (T1.plain 8 (v:=.bool true) (by kernel_rfl) rfl) ?_;rw[if_pos rfl];refine h.skip T1.lt ?_;refine h.seq T1.lt ?_;refine h.block T1.lt ?_;refine h.seq T1.lt ?_;refine h.region T1.lt ?_;refine Way.move h T1 vo rfl rfl (.inl rfl) rfl (fun T2=>?_);refine Way.move h T2 vo rfl rfl (.inr rfl) rfl (fun T3=>?_);refine h.qx T3.lt ?_;refine h.seq T3.lt ?_;refine h.region T3.lt ?_;refine Way.move h T3 vo rfl rfl (.inl rfl) rfl (fun T4=>?_);refine qwE T4 (by kernel_rfl) vo rfl rfl (fun W1=>by kernel_rfl) (fun W1=>by kernel_rfl) ?_;rintro K5 M5 c0 c w5 W5 g5 rfl rfl hB5 hc5 T5;have h:=yl Tryz.prog Ro Qk (some c) rem;refine h.opM T5 vo rfl rfl zn rfl rfl (v:=.pointer (some ⟨p5,j,none⟩)) (wn:={w with heap:=w.heap.push (.chan 0 #[] false 0 0 false)}) (fun τ=>.inl (by rcases hj with rfl|rfl|rfl|rfl<;>kernel_rfl)) (fun K6 M6 v6' W6 g6 e6 T6=>?_)
 have hl5:p5<w.heap.size:=(Array.getElem?_eq_some_iff.1 hp5).1
 have qb0:(w.heap.push (.chan 0 #[] false 0 0 false))[p5]?=some (.cells cc 154 (0,0)):=by
  rw[Array.getElem?_push,if_neg (by omega)];exact hp5
 obtain⟨x,hx⟩:∃x,cc[j]?=some x:=⟨_,Array.getElem?_eq_getElem (by omega)⟩
 have zC:∀τ,(qg {w with heap:=w.heap.push (.chan 0 #[] false 0 0 false)} τ).cell? ⟨p5,j,none⟩=some x:=fun τ=>by
  unfold World.cell?;show(match (w.heap.push (.chan 0 #[] false 0 0 false))[p5]? with|some (.cells c _ _)=>_|_=>_)=_;rw[qb0];exact hx
 have qAa:∀τ,(qg {w with heap:=w.heap.push (.chan 0 #[] false 0 0 false)} τ).frozen? ⟨p5,j,none⟩=false:=fun τ=>by
  unfold World.frozen?;show(match (w.heap.push (.chan 0 #[] false 0 0 false))[p5]? with|some (.cells _ _ (lo,hi))=>_|_=>_)=_;rw[qb0];simp
 obtain⟨wn,hwn⟩:∃wn,({w with heap:=w.heap.push (.chan 0 #[] false 0 0 false)}:World).setCell ⟨p5,j,none⟩ (.chan (some w.heap.size))=wn:=⟨_,rfl⟩
 refine h.qmQ T6 vo rfl rfl zn (t:=152) (x:=12) (y:=11) rfl rfl (p:=.pointer (some ⟨p5,j,none⟩)) (v:=.chan (some w.heap.size)) (wn:=wn) (by kernel_rfl) (by kernel_rfl) (fun τ=>?_) (fun K7 M7 W7 g7 T7=>?_)
 ·rw[qqR (zC τ) (qAa τ),<-hwn];rfl
 refine h.qx T7.lt ?_;refine h.region T7.lt ?_;refine Way.move h T7 vo rfl rfl (.inl rfl) rfl (fun T8=>?_);refine h.opM T8 vo rfl rfl zn rfl rfl (v:=.pointer (some ⟨p5,j,none⟩)) (wn:=wn) (fun τ=>.inl (by rcases hj with rfl|rfl|rfl|rfl<;>kernel_rfl)) (fun K9 M9 v9' W9 g9 e9 T9=>?_)
 have hcn:wn.cell? ⟨p5,j,none⟩=some (.chan (some w.heap.size)):=by rw[<-hwn];exact World.cell?_setCell_same _ _ _ (zC w.tape)
 refine h.qc1 T9 vo rfl rfl zn (t:=152) (x:=14) rfl (p:=.pointer (some ⟨p5,j,none⟩)) (v:=.chan (some w.heap.size)) (by kernel_rfl) (fun τ=>qsL (W:=qg wn τ) hcn) (fun K10 M10 qBn W10 g10 e10 T10=>?_);refine Way.move h T10 vo rfl rfl (.inl rfl) rfl (fun T11=>?_);refine Way.move h T11 vo rfl rfl (.inl rfl) rfl (fun T12=>?_);refine Way.move h T12 vo rfl rfl (.inl rfl) rfl (fun T13=>?_);have gA:Grown K M K10 M10:=((((g1.trans g5).trans g6).trans g7).trans g9).trans g10;have hBc:K10.B w.heap.size c:=g10.le.b _ _ (g9.le.b _ _ (g7.le.b _ _ (g6.le.b _ _ hB5)))
 have jc:∀a,a<w0.heap.size->wn.heap[a]?=w.heap[a]?:=fun a ha=>by
  rw[<-hwn,Below.heap_setCell _ _ _ _ (by show a≠p5;omega)];show(w.heap.push _)[a]?=_;rw[Array.getElem?_push,if_neg (by have:=yO.size;omega)]
 have hbn:WR Tryz.prog Ro Kb wn W10:=hb.later T13.wr (le.trans gA.le) (fun x y hxy=>jc x (zU x y hxy))
 have hch:∀o,wn.heap[w.heap.size]?=some o->o.isChan=true:=fun o ho=>by
  rw[<-hwn,Below.heap_setCell _ _ _ _ (by show w.heap.size≠p5;omega)]at ho;have ho':(w.heap.push (.chan 0 #[] false 0 0 false))[w.heap.size]?=some o:=ho;rw[Array.getElem?_push_size]at ho';injection ho' with ho';rw[<-ho'];rfl
 have hnR:¬Ro c:=fun hc=>by
  obtain⟨x,hx⟩:=(hRo c).1 hc;have:=T13.wr.fn2 _ _ _ ((le.trans gA.le).b _ _ hx) hBc;have:=zU x c hx;have:=yO.size;omega
 have f15:=T13.slot 15 (v:=.chan (some w.heap.size)) (by kernel_rfl);have f18:=T13.plain 18 (v:=.int .i64 j) (by kernel_rfl) rfl;obtain⟨yv,k16,hyv⟩:=T13.low (le.trans gA.le) 16 (v:=vc) (by kernel_rfl) hvb;obtain⟨ys,k17,hys⟩:=T13.low (le.trans gA.le) 17 (v:=.slice al0 ks.length cap) (by kernel_rfl) hsb
 obtain⟨al,hal⟩:∃al,ys=.slice al ks.length cap:=by
  cases hys with
  | slice0=>exact⟨_,rfl⟩
  | slice=>exact⟨_,rfl⟩
 have k15:∀z,VR K10 (.chan (some w.heap.size)) z->z=.chan (some c):=fun z hz=>by
  cases hz with
  | chan _ y hy=>rw[T13.wr.fn1 _ _ _ hy hBc]
 have qxL:=k15 _ f15;subst hal;have quH:Pre w0 wn:=⟨by rw[<-hwn];have:=yO.size;simp[World.setCell];omega,fun x hx=>(jc x hx).trans (yO.block x hx)⟩
 refine quG T13 vo rfl rfl (fun W1=>(go_run rfl qxL k16 k17 f18 W1).1) (fun W1=>(go_run rfl qxL k16 k17 f18 W1).2) rfl hbn (le.trans gA.le) hRo hBc hch hnR (by rw[hbf];intro(e:fs2 _=true);exact absurd e (by rw[show fs2 Tryz.prog.funcs.size=false by kernel_rfl];nofun)) (vs:=ya plc ks j) (fun W1 hw1 km1 lt1=>?_) ?_
 ·exact sends (c0:=w.heap.size) j hj4 hlen (fun w1 hw=>hC w1 (quH.trans hw)) qbC hw1 km1 lt1 hbf (.inr ⟨rfl,rfl⟩) (hyv.mono (Kb.qj8 _ _)) (hys.mono (Kb.qj8 _ _)) (fun g i hi e=>by
   obtain⟨l1,l2,l3⟩:=list g i hi e;refine⟨l1,?_,Nat.lt_of_lt_of_le l3 quH.size⟩
   rw[<-l2];unfold World.cell?;rw[quH.block g.block l3]) some_
 have h:=yl Tryz.prog Ro Qk none (upd rem c ((ya plc ks j).map some++[none]));refine h.qx T13.lt ?_;refine h.inBlock T13.lt ?_;refine h.region T13.lt ?_;refine h.opM T13 vo rfl rfl zn rfl rfl (v:=.int .i64 (j+1:Nat)) (wn:=wn) (fun τ=>.inl (by rcases hj with rfl|rfl|rfl|rfl<;>kernel_rfl)) (fun K14 M14 qBo W14 g14 e14 T14=>?_)
 refine Way.move h T14 vo rfl rfl (.inl rfl) rfl (fun T15=>?_);refine h.qx T15.lt ?_;refine h.inLoop T15.lt ?_;exact next K14 M14 _ W14 c (.int .i64 j) (.bool true) (.int .i64 j) (.int .i64 j) (.chan (some w.heap.size)) (.pointer (some ⟨p5,j,none⟩)) (.int .i64 j) (.pointer (some ⟨p5,j,none⟩)) (.chan (some w.heap.size)) vc (.slice al0 ks.length cap) (.int .i64 j) (.int .i64 (j+1:Nat)) v20 (gA.trans g14) (g14.le.b _ _ hBc) (fun x hx=>absurd (T4.lt c (T4.km x c (g1.le.b _ _ hx))) (by omega)) (by simp only[put_defers]) (by rw[hwn];exact T15.zm (by kernel_rfl))
theorem qg6{t:TypeId}(hp5:w.heap[p5]?=some (.cells cc t (0,0)))(yO:Pre w0 w)(hn5:w0.heap.size<=p5)(j c0:Nat) :
  (({w with heap:=w.heap.push (.chan 0 #[] false 0 0 false)}:World).setCell ⟨p5,j,none⟩ (.chan (some c0))).heap[p5]?=some (.cells (cc.setIfInBounds j (.chan (some c0))) t (0,0))/\Pre w0 (({w with heap:=w.heap.push (.chan 0 #[] false 0 0 false)}:World).setCell ⟨p5,j,none⟩ (.chan (some c0))):=by
 have hl5:p5<w.heap.size:=(Array.getElem?_eq_some_iff.1 hp5).1
 have qb0:(w.heap.push (.chan 0 #[] false 0 0 false))[p5]?=some (.cells cc t (0,0)):=by
  rw[Array.getElem?_push,if_neg (by omega)];exact hp5
 refine⟨?_,⟨?_,fun x hx=>?_⟩⟩
 ·have m:=qaJ (w.heap.push (.chan 0 #[] false 0 0 false)) p5 (fun|.cells c elem frozen=>.cells (if(none:Option Nat).isSome then c else c.setIfInBounds j (.chan (some c0))) elem frozen|o=>o) qb0;have m':(({w with heap:=w.heap.push (.chan 0 #[] false 0 0 false)}:World).setCell ⟨p5,j,none⟩ (.chan (some c0))).heap=_:=m;rw[m',Array.getElem?_setIfInBounds,if_pos rfl,if_pos (by simp;omega)];rfl
 ·have:=yO.size;simp[World.setCell];omega
 ·rw[Below.heap_setCell _ _ _ _ (by show x≠p5;omega)];show(w.heap.push _)[x]?=_;rw[Array.getElem?_push,if_neg (by have:=yO.size;omega)];exact yO.block x hx
theorem qxM{Ro:Nat->Prop}{Qk:Value->World->Prop}{rem:Nat->List (Option Value)}{K Kb:Kr}{M:Nat->Prop}{a':Act}{w w0 W:World}{k:List Item}{cs:List Frame}{vc:Value}{al0:Option Addr}{cap p4 p5:Nat}{ks:List ByteArray}{plc:ByteArray->Value}{v6 v8 v9 v10 v11 v12 v13 v14 v15 v16 v17 v18 v19 v20:Value}{cc:Array Value}
  (T:Tie Tryz.prog fs2 Ro K M (qdV vc (.slice al0 ks.length cap) p4 p5 (0:Nat) v6 v8 v9 v10 v11 v12 v13 v14 v15 v16 v17 v18 v19 v20) a' w W) (hp5:w.heap[p5]?=some (.cells cc 154 (0,0))) (hcc:cc.size=4) (hlen:ks.length<=1000000000)
  (hC:∀w1,Pre w0 w1->∀key,Calls Tryz.prog 76 #[vc,.string key] w1 (fun e w2=>∃v,e=.returned v/\v=plc key/\Pre w1 w2)) (qbC:∀key,vg 9 (plc key)=true) (yO:Pre w0 w) (hn5:w0.heap.size<=p5)
  (hb:WR Tryz.prog Ro Kb w W) (le:Kb.le K) (hbf:Kb.Fs=fun f=>fs2 f=true) (hRo:∀b,Ro b↔∃a,Kb.B a b) (zU:∀a b,Kb.B a b->a<w0.heap.size) (hvb:∃y,VR Kb vc y) (hsb:∃y,VR Kb (.slice al0 ks.length cap) y)
  (list:∀(g:Addr) (i:Nat) (hi:i<ks.length),al0=some g->g.spot=none/\w0.cell? ⟨g.block,g.off+i * 2,none⟩=some (.string ks[i])/\g.block<w0.heap.size) (some_:0<ks.length->al0≠none)
  (next:∀(K1:Kr) (M1:Nat->Prop) (a1':Act) (w1 W1:World) (d0 d1 d2 d3 c0 c1 c2 c3:Nat) (v6 v8 v9 v10 v11 v12 v13 v14 v15 v16 v17 v18 v19 v20:Value),Grown K M K1 M1->(K1.B d0 c0/\K1.B d1 c1/\K1.B d2 c2/\K1.B d3 c3)->(c1≠c0/\c2≠c0/\c2≠c1/\c3≠c0/\c3≠c1/\c3≠c2)->a1'.defers=a'.defers->Pre w0 w1 ->
   w1.heap[p5]?=some (.cells ((((cc.setIfInBounds 0 (.chan (some d0))).setIfInBounds 1 (.chan (some d1))).setIfInBounds 2 (.chan (some d2))).setIfInBounds 3 (.chan (some d3))) 154 (0,0))->WR Tryz.prog Ro Kb w1 W1 ->
   Tie Tryz.prog fs2 Ro K1 M1 (qdV vc (.slice al0 ks.length cap) p4 p5 (4:Nat) v6 v8 v9 v10 v11 v12 v13 v14 v15 v16 v17 v18 v19 v20) a1' w1 W1 ->
   Sc Tryz.prog Ro Qk none (upd (upd (upd (upd rem c0 ((ya plc ks 0).map some++[none])) c1 ((ya plc ks 1).map some++[none])) c2 ((ya plc ks 2).map some++[none])) c3 ((ya plc ks 3).map some++[none])) M1 (G ((base 75).at a1' (.code qcw::.inLoop qcw::k)) cs) W1) :
  Sc Tryz.prog Ro Qk none rem M (G ((base 75).at a' (.code qcw::.inLoop qcw::k)) cs) W:=by
 have jc:∀{u v:World},Pre w0 u->Pre w0 v->∀a b,Kb.B a b->v.heap[a]?=u.heap[a]?:=fun hu hv a b hab=>(hv.block a (zU a b hab)).trans (hu.block a (zU a b hab)).symm;refine qfu T (.inl rfl) hp5 hcc hlen hC qbC yO hn5 hb le hbf hRo zU hvb hsb list some_ (fun K1 M1 a1 W1 c0 _ _ _ _ _ _ _ _ _ _ _ _ _ _ g1 B1 n1 d1 T1=>?_);obtain⟨p1,r1⟩:=qg6 hp5 yO hn5 0 w.heap.size;generalize hw1:({w with heap:=w.heap.push (.chan 0 #[] false 0 0 false)}:World).setCell ⟨p5,0,none⟩ (.chan (some w.heap.size))=w1 at T1 p1 r1;have b1:=hb.later T1.wr (le.trans g1.le) (jc yO r1);refine qfu T1 (.inr (.inl rfl)) p1 (by simpa using hcc) hlen hC qbC r1 hn5 b1 (le.trans g1.le) hbf hRo zU hvb hsb list some_ (fun K2 M2 a2 W2 c1 _ _ _ _ _ _ _ _ _ _ _ _ _ _ g2 B2 n2 d2 T2=>?_);obtain⟨p2,r2⟩:=qg6 p1 r1 hn5 1 w1.heap.size;generalize hw2:({w1 with heap:=w1.heap.push (.chan 0 #[] false 0 0 false)}:World).setCell ⟨p5,1,none⟩ (.chan (some w1.heap.size))=w2 at T2 p2 r2;have b2:=b1.later T2.wr ((le.trans g1.le).trans g2.le) (jc r1 r2);refine qfu T2 (.inr (.inr (.inl rfl))) p2 (by simpa using hcc) hlen hC qbC r2 hn5 b2 ((le.trans g1.le).trans g2.le) hbf hRo zU hvb hsb list some_ (fun K3 M3 a3 W3 c2 _ _ _ _ _ _ _ _ _ _ _ _ _ _ g3 B3 n3 d3 T3=>?_);obtain⟨p3,r3⟩:=qg6 p2 r2 hn5 2 w2.heap.size;generalize hw3:({w2 with heap:=w2.heap.push (.chan 0 #[] false 0 0 false)}:World).setCell ⟨p5,2,none⟩ (.chan (some w2.heap.size))=w3 at T3 p3 r3;have b3:=b2.later T3.wr (((le.trans g1.le).trans g2.le).trans g3.le) (jc r2 r3);refine qfu T3 (.inr (.inr (.inr rfl))) p3 (by simpa using hcc) hlen hC qbC r3 hn5 b3 (((le.trans g1.le).trans g2.le).trans g3.le) hbf hRo zU hvb hsb list some_ (fun K4 M4 a4 W4 c3 _ _ _ _ _ _ _ _ _ _ _ _ _ _ g4 B4 n4 d4 T4=>?_);obtain⟨p4',r4⟩:=qg6 p3 r3 hn5 3 w3.heap.size;generalize hw4:({w3 with heap:=w3.heap.push (.chan 0 #[] false 0 0 false)}:World).setCell ⟨p5,3,none⟩ (.chan (some w3.heap.size))=w4 at T4 p4' r4;have b4:=b3.later T4.wr ((((le.trans g1.le).trans g2.le).trans g3.le).trans g4.le) (jc r3 r4);refine next K4 M4 a4 w4 W4 w.heap.size w1.heap.size w2.heap.size w3.heap.size c0 c1 c2 c3 _ _ _ _ _ _ _ _ _ _ _ _ _ _ (((g1.trans g2).trans g3).trans g4) ⟨g4.le.b _ _ (g3.le.b _ _ (g2.le.b _ _ B1)),g4.le.b _ _ (g3.le.b _ _ B2),g4.le.b _ _ B3,B4⟩ ⟨?_,?_,?_,?_,?_,?_⟩ (d4.trans (d3.trans (d2.trans d1))) r4 p4' b4 T4
 ·rintro rfl;exact n2 _ B1
 ·rintro rfl;exact n3 _ (g2.le.b _ _ B1)
 ·rintro rfl;exact n3 _ B2
 ·rintro rfl;exact n4 _ (g3.le.b _ _ (g2.le.b _ _ B1))
 ·rintro rfl;exact n4 _ (g3.le.b _ _ B2)
 ·rintro rfl;exact n4 _ B3
end Sim
namespace Sim
open Go.Conc Go.RowKit
variable {i:Nat}{ks:List ByteArray}{plc:ByteArray->Value}
theorem qwF(w:World)(vc sl:Value)(p4 p5 d0 d1 d2 d3:Nat)(v6 v8 v9 v10 v11 v12 v13 v14 v15 v16 v17 v18 v19 v20:Value)(hp5:w.heap[p5]?=some (.cells #[.chan (some d0),.chan (some d1),.chan (some d2),.chan (some d3)] 154 (0,0)))(hp4:w.heap[p4]?=some (.cells #[.chan none,.chan none,.chan none,.chan none] 154 (0,0))) :
  (qac Tryz.f75).wp Tryz.prog (bodyPost Tryz.prog Tryz.f75 (fun e w'=>∃v,e=.returned v/\v=.agg #[.chan (some d0),.chan (some d1),.chan (some d2),.chan (some d3)]/\∀w0:World,w0.heap.size<=p4->Pre w0 w->Pre w0 w')) (qdV vc sl p4 p5 (4:Nat) v6 v8 v9 v10 v11 v12 v13 v14 v15 v16 v17 v18 v19 v20) w:=by
 refine qmR rfl ?_;unfold qdV
 have a0:w.cell? ⟨p5,0,none⟩=some (.chan (some d0)):=by unfold World.cell?;rw[hp5];rfl
 have a1:w.cell? ⟨p5,1,none⟩=some (.chan (some d1)):=by unfold World.cell?;rw[hp5];rfl
 have a2:w.cell? ⟨p5,2,none⟩=some (.chan (some d2)):=by unfold World.cell?;rw[hp5];rfl
 have a3:w.cell? ⟨p5,3,none⟩=some (.chan (some d3)):=by unfold World.cell?;rw[hp5];rfl
 have b0:w.cell? ⟨p4,0,none⟩=some (.chan none):=by unfold World.cell?;rw[hp4];rfl
 have b1:w.cell? ⟨p4,1,none⟩=some (.chan none):=by unfold World.cell?;rw[hp4];rfl
 have b2:w.cell? ⟨p4,2,none⟩=some (.chan none):=by unfold World.cell?;rw[hp4];rfl
 have b3:w.cell? ⟨p4,3,none⟩=some (.chan none):=by unfold World.cell?;rw[hp4];rfl
 have f0:∀o,w.frozen? ⟨p4,o,none⟩=false:=fun o=>by simp[World.frozen?,hp4]
 have l5:p5<w.heap.size:=(Array.getElem?_eq_some_iff.1 hp5).1;have l4:p4<w.heap.size:=(Array.getElem?_eq_some_iff.1 hp4).1;clear hp5 hp4;go_wp2
 have y0:((((w.setCell ⟨p4,0,none⟩ (.chan (some d0))).setCell ⟨p4,1,none⟩ (.chan (some d1))).setCell ⟨p4,2,none⟩ (.chan (some d2))).setCell ⟨p4,3,none⟩ (.chan (some d3))).cell? ⟨p4,0,none⟩=some (.chan (some d0)):=by
  rw[World.cell?_setCell_other _ _ _ _ (by simp),World.cell?_setCell_other _ _ _ _ (by simp),World.cell?_setCell_other _ _ _ _ (by simp)];exact World.cell?_setCell_same _ _ _ b0
 have y1:((((w.setCell ⟨p4,0,none⟩ (.chan (some d0))).setCell ⟨p4,1,none⟩ (.chan (some d1))).setCell ⟨p4,2,none⟩ (.chan (some d2))).setCell ⟨p4,3,none⟩ (.chan (some d3))).cell? ⟨p4,1,none⟩=some (.chan (some d1)):=by
  rw[World.cell?_setCell_other _ _ _ _ (by simp),World.cell?_setCell_other _ _ _ _ (by simp)];exact World.cell?_setCell_same _ _ _ (by rw[World.cell?_setCell_other _ _ _ _ (by simp)];exact b1)
 have y2:((((w.setCell ⟨p4,0,none⟩ (.chan (some d0))).setCell ⟨p4,1,none⟩ (.chan (some d1))).setCell ⟨p4,2,none⟩ (.chan (some d2))).setCell ⟨p4,3,none⟩ (.chan (some d3))).cell? ⟨p4,2,none⟩=some (.chan (some d2)):=by
  rw[World.cell?_setCell_other _ _ _ _ (by simp)];exact World.cell?_setCell_same _ _ _ (by rw[World.cell?_setCell_other _ _ _ _ (by simp),World.cell?_setCell_other _ _ _ _ (by simp)];exact b2)
 have y3:((((w.setCell ⟨p4,0,none⟩ (.chan (some d0))).setCell ⟨p4,1,none⟩ (.chan (some d1))).setCell ⟨p4,2,none⟩ (.chan (some d2))).setCell ⟨p4,3,none⟩ (.chan (some d3))).cell? ⟨p4,3,none⟩=some (.chan (some d3)) :=
  World.cell?_setCell_same _ _ _ (by rw[World.cell?_setCell_other _ _ _ _ (by simp),World.cell?_setCell_other _ _ _ _ (by simp),World.cell?_setCell_other _ _ _ _ (by simp)];exact b3)
 refine bodyPost_ret (v:=.agg #[.chan (some d0),.chan (some d1),.chan (some d2),.chan (some d3)]) (by simp[results,Tryz.results75,go_sem,y0,y1,y2,y3];try rfl) rfl ?_;refine⟨_,rfl,rfl,fun w0 h0 hp=>⟨by have:=hp.size;simpa[World.setCell]using this,fun x hx=>?_⟩⟩;rw[Below.heap_setCell _ _ _ _ (by show x≠p4;omega),Below.heap_setCell _ _ _ _ (by show x≠p4;omega),Below.heap_setCell _ _ _ _ (by show x≠p4;omega),Below.heap_setCell _ _ _ _ (by show x≠p4;omega)];exact hp.block x hx
theorem qot{Ro:Nat->Prop}{Qk:Value->World->Prop}{rem:Nat->List (Option Value)}{K Kb:Kr}{M:Nat->Prop}{b:Frame}{a a':Act}{w W:World}{ops:Array Oper}{i:Nat}{rest:List Nat}{k:List Item}{cs:List Frame}{o:Oper}{vc:Value}{al0:Option Addr}{cap:Nat}{ks:List ByteArray}{plc:ByteArray->Value}{ys:Array Value}
  (T:Tie Tryz.prog fs2 Ro K M a a' w W) (hk:b.kind≠.early) (ho:ops[i]?=some o) (hwt:Region.wanted o (yielded ops a'.tmps)=true) (hr:∀W1,(execOp a'.eval o).run Tryz.prog W1=.ok (.enter 75 ys) W1) (he:∀W1,(execOp a'.eval o).events Tryz.prog W1 #[]=#[]) (ha:AV K #[vc,.slice al0 ks.length cap] ys) (hlen:ks.length<=1000000000)
  (hC:∀w1,Pre w w1->∀key,Calls Tryz.prog 76 #[vc,.string key] w1 (fun e w2=>∃v,e=.returned v/\v=plc key/\Pre w1 w2)) (qbC:∀key,vg 9 (plc key)=true)
  (hb:WR Tryz.prog Ro Kb w W) (le:Kb.le K) (hbf:Kb.Fs=fun f=>fs2 f=true) (hRo:∀b,Ro b↔∃a,Kb.B a b) (zU:∀a b,Kb.B a b->a<w.heap.size) (hvb:∃y,VR Kb vc y) (hsb:∃y,VR Kb (.slice al0 ks.length cap) y)
  (list:∀(g:Addr) (i:Nat) (hi:i<ks.length),al0=some g->g.spot=none/\w.cell? ⟨g.block,g.off+i * 2,none⟩=some (.string ks[i])/\g.block<w.heap.size) (some_:0<ks.length->al0≠none)
  (next:∀(K1:Kr) (M1:Nat->Prop) (w1 W1:World) (d0 d1 d2 d3 c0 c1 c2 c3:Nat) (v':Value),Grown K M K1 M1->(K1.B d0 c0/\K1.B d1 c1/\K1.B d2 c2/\K1.B d3 c3)->(c1≠c0/\c2≠c0/\c2≠c1/\c3≠c0/\c3≠c1/\c3≠c2)->Pre w w1->WR Tryz.prog Ro Kb w1 W1->VR K1 (.agg #[.chan (some d0),.chan (some d1),.chan (some d2),.chan (some d3)]) v'->Tie Tryz.prog fs2 Ro K1 M1 (a.put o.dst (.agg #[.chan (some d0),.chan (some d1),.chan (some d2),.chan (some d3)])) (a'.put o.dst v') w1 W1 ->
   Sc Tryz.prog Ro Qk none (upd (upd (upd (upd rem c0 ((ya plc ks 0).map some++[none])) c1 ((ya plc ks 1).map some++[none])) c2 ((ya plc ks 2).map some++[none])) c3 ((ya plc ks 3).map some++[none])) M1 (G (b.at (a'.put o.dst v') (.inRegion ops rest::k)) cs) W1) :
  Sc Tryz.prog Ro Qk none rem M (G (b.at a' (.inRegion ops (i::rest)::k)) cs) W:=by
 have h:=yl Tryz.prog Ro Qk none rem;refine Way.enter h T hk ho hwt hr he Tryz.func75 rfl ha (fun T1=>?_);simp only[Tryz.ntmps75]at T1⊢;refine h.seq T1.lt ?_;refine h.region T1.lt ?_;refine h.opM T1 vo rfl rfl zn rfl rfl (v:=.pointer (some ⟨w.heap.size,0,none⟩)) (wn:=w.alloc (.cells #[.chan none,.chan none,.chan none,.chan none] 154)) (fun τ=>.inl (by kernel_rfl)) (fun K2 M2 v2 W2 g2 e2 T2=>?_);refine h.qx T2.lt ?_;refine h.seq T2.lt ?_;refine h.region T2.lt ?_;refine h.opM T2 vo rfl rfl zn rfl rfl (v:=.pointer (some ⟨(w.alloc (.cells #[.chan none,.chan none,.chan none,.chan none] 154)).heap.size,0,none⟩)) (wn:=(w.alloc (.cells #[.chan none,.chan none,.chan none,.chan none] 154)).alloc (.cells #[.chan none,.chan none,.chan none,.chan none] 154)) (fun τ=>.inl (by kernel_rfl)) (fun K3 M3 v3 W3 g3 e3 T3=>?_);refine h.qx T3.lt ?_;refine h.seq T3.lt ?_;refine h.seq T3.lt ?_;refine h.region T3.lt ?_;refine Way.move h T3 vo rfl rfl (.inl rfl) rfl (fun T4=>?_);refine h.qx T4.lt ?_;refine h.block T4.lt ?_;refine h.loop T4.lt ?_;have T5:=T4.zm (b:=qdV vc (.slice al0 ks.length cap) w.heap.size (w.alloc (.cells #[.chan none,.chan none,.chan none,.chan none] 154)).heap.size (0:Nat) undef undef undef undef undef undef undef undef undef undef undef undef undef undef) (by kernel_rfl);have hpA:Pre w (w.alloc (.cells #[.chan none,.chan none,.chan none,.chan none] 154)):=⟨by simp,fun x hx=>by show(w.heap.push _)[x]?=_;rw[Array.getElem?_push,if_neg (by omega)]⟩
 have hpB:Pre (w.alloc (.cells #[.chan none,.chan none,.chan none,.chan none] 154)) ((w.alloc (.cells #[.chan none,.chan none,.chan none,.chan none] 154)).alloc (.cells #[.chan none,.chan none,.chan none,.chan none] 154)):=⟨by simp,fun x hx=>by show((w.alloc (.cells #[.chan none,.chan none,.chan none,.chan none] 154)).heap.push _)[x]?=_;rw[Array.getElem?_push,if_neg (by omega)]⟩
 have hb5:WR Tryz.prog Ro Kb _ W3:=hb.later T5.wr ((le.trans g2.le).trans g3.le) (fun x y hxy=>(hpA.trans hpB).block x (zU x y hxy))
 refine qxM T5 (w0:=w.alloc (.cells #[.chan none,.chan none,.chan none,.chan none] 154)) (by show((w.alloc (.cells #[.chan none,.chan none,.chan none,.chan none] 154)).heap.push _)[(w.alloc (.cells #[.chan none,.chan none,.chan none,.chan none] 154)).heap.size]?=_;rw[Array.getElem?_push_size]) rfl hlen (fun w1 hw=>hC w1 (hpA.trans hw)) qbC hpB (Nat.le_refl _) hb5 ((le.trans g2.le).trans g3.le) hbf hRo (fun x y hxy=>Nat.lt_of_lt_of_le (zU x y hxy) hpA.size) hvb hsb (fun g i hi e=>by
   obtain⟨l1,l2,l3⟩:=list g i hi e;refine⟨l1,?_,Nat.lt_of_lt_of_le l3 hpA.size⟩
   rw[<-l2];unfold World.cell?;rw[hpA.block g.block l3]) some_ (fun K6 M6 a6 w6 W6 d0 d1 d2 d3 c0 c1 c2 c3 v6 v8 v9 v10 v11 v12 v13 v14 v15 v16 v17 v18 v19 v20 g6 hB hne hdf qvZ hp6 hb6 T6=>?_)
 have h:=yl Tryz.prog Ro Qk none (upd (upd (upd (upd rem c0 ((ya plc ks 0).map some++[none])) c1 ((ya plc ks 1).map some++[none])) c2 ((ya plc ks 2).map some++[none])) c3 ((ya plc ks 3).map some++[none]))
 have hp4:w6.heap[w.heap.size]?=some (.cells #[.chan none,.chan none,.chan none,.chan none] 154 (0,0)):=by
  rw[qvZ.block _ (by simp)];show(w.heap.push _)[w.heap.size]?=_;rw[Array.getElem?_push_size]
 refine h.seq T6.lt ?_;refine h.region T6.lt ?_;refine h.opM T6 vo rfl rfl zn rfl rfl (v:=.bool false) (wn:=w6) (fun τ=>.inl (by kernel_rfl)) (fun K7 M7 v7 W7 g7 e7 T7=>?_);refine h.qx T7.lt ?_;refine h.seq T7.lt ?_;refine h.cond T7.lt (T7.plain 8 (v:=.bool false) (by kernel_rfl) rfl) ?_;rw[if_neg (by nofun)];refine h.exit T7.lt (k':=[.code (qac Tryz.f75)]) rfl ?_;refine Way.rest h zn T7 ⟨by simp only[put_defers];rfl,by simp only[put_defers]at hdf⊢;exact hdf⟩ Tryz.func75 rfl (by kernel_rfl) (R:=fun v w'=>v=.agg #[.chan (some d0),.chan (some d1),.chan (some d2),.chan (some d3)]/\∀w0:World,w0.heap.size<=w.heap.size->Pre w0 w6->Pre w0 w') (fun τ=>qa8 (c':=qac Tryz.f75) (a':=qdV vc (.slice al0 ks.length cap) w.heap.size (w.alloc (.cells #[.chan none,.chan none,.chan none,.chan none] 154)).heap.size (4:Nat) v6 (.bool false) v9 v10 v11 v12 v13 v14 v15 v16 v17 v18 v19 v20) rfl (by kernel_rfl) (fun e a1 w1 q=>?_) (qwF (qg w6 τ) _ _ _ _ d0 d1 d2 d3 _ _ _ _ _ _ _ _ _ _ _ _ _ _ hp6 hp4)) ?_
 ·have go:∀w1:World,(∀w0:World,w0.heap.size<=w.heap.size->Pre w0 (qg w6 τ)->Pre w0 w1)->∀w0:World,w0.heap.size<=w.heap.size->Pre w0 w6->Pre w0 w1:=fun w1 hh w0 h1 h2=>hh w0 h1 ⟨h2.size,h2.block⟩
  cases e with
  | normal=>obtain⟨q1,v,q2,x,q3,q4,q5⟩:=q;cases q3;exact⟨q1,v,q2,v,rfl,q4,go _ q5⟩
  | ret=>obtain⟨q1,v,q2,x,q3,q4,q5⟩:=q;cases q3;exact⟨q1,v,q2,v,rfl,q4,go _ q5⟩
  | panic chain=>obtain⟨q1,x,q3,q4⟩:=q;cases q3
  | outgrown=>obtain⟨x,q3,q4⟩:=q;cases q3
  | exit id=>exact q.elim
  | goto l=>exact q.elim
 rintro K8 M8 v v' w8 W8 g8 ⟨rfl,hp8⟩ hv8 hw8 km8 lt8 fs8
 have qbB:(b.at a' (.inRegion ops (i::rest)::k)).finish v'=b.at (a'.put o.dst v') (.inRegion ops rest::k):=by rw[Frame.finish_at,ho];rfl
 rw[qbB];have g:=(((g2.trans g3).trans g6).trans g7).trans g8;have qv0:Pre w w8:=hp8 w (Nat.le_refl _) (hpA.trans qvZ);have up:=g7.le.trans g8.le;exact next K8 M8 w8 W8 d0 d1 d2 d3 c0 c1 c2 c3 v' g ⟨up.b _ _ hB.1,up.b _ _ hB.2.1,up.b _ _ hB.2.2.1,up.b _ _ hB.2.2.2⟩ hne qv0 (hb.later hw8 (le.trans g.le) (fun x y hxy=>qv0.block x (zU x y hxy))) hv8 (T.back g.le hv8 hw8 km8 lt8 o.dst)
theorem qkD(h:i<ks.length):ya plc ks i=plc ks[i]::ya plc ks (i+4):=by rw[ya,dif_pos h]
theorem qmS(h:ks.length<=i):ya plc ks i=[]:=by rw[ya,dif_neg (by omega)]
end Sim
namespace Sim
open Go.Conc Go.RowKit
variable {P:Program}{fn:Func}{c1 c:Code}{Q:Exit->Act->World->Prop}{a:Act}{w:World}
def xy(fn:Func)(i:Nat):Code:=match fn.body,i with
 | some (.seq a _),0=>a
 | some (.seq _ (.seq a _)),1=>a
 | some (.seq _ (.seq _ (.seq a _))),2=>a
 | _,_=>.skip
theorem qsM(hb:fn.body=some (.seq c1 c))(h:c1.wp P Q a w):(xy fn 0).wp P Q a w:=by
 unfold xy;rw[hb];exact h
theorem qsN{c2:Code}(hb:fn.body=some (.seq c1 (.seq c2 c)))(h:c2.wp P Q a w):(xy fn 1).wp P Q a w:=by
 unfold xy;rw[hb];exact h
theorem qsO{c2 c3:Code}(hb:fn.body=some (.seq c1 (.seq c2 (.seq c3 c))))(h:c3.wp P Q a w):(xy fn 2).wp P Q a w:=by
 unfold xy;rw[hb];exact h
def qmT(bx:Nat)(al:Option Addr)(n cap b2 b3:Nat):Act:=⟨#[.pointer (some ⟨bx,0,none⟩),.slice al n cap,.pointer (some ⟨b2,0,none⟩),.pointer (some ⟨b3,0,none⟩),.slice none 0 0,undef,undef,undef,undef,undef,undef,undef,undef,undef,undef,undef,undef,undef,undef,undef,undef,undef,undef,undef,undef,undef,undef,undef,undef,undef,undef,undef,undef,undef,undef,undef,undef,undef,undef,undef,undef,undef,undef,undef,undef,undef,undef,undef,undef,undef,undef],[]⟩
def qmU(bx:Nat)(al:Option Addr)(n cap b2 b3 b5 e:Nat):Act:=⟨#[.pointer (some ⟨bx,0,none⟩),.slice al n cap,.pointer (some ⟨b2,0,none⟩),.pointer (some ⟨b3,0,none⟩),.slice none 0 0,.pointer (some ⟨b5,0,none⟩),undef,undef,undef,undef,undef,undef,undef,.slice al n cap,.int .i64 n,.slice (some ⟨e,0,none⟩) 0 n,undef,undef,undef,undef,undef,undef,undef,undef,undef,undef,undef,undef,undef,undef,undef,undef,undef,undef,undef,undef,undef,undef,undef,undef,undef,undef,undef,undef,undef,undef,undef,undef,undef,undef,undef],[]⟩
def quI(bx:Nat)(al:Option Addr)(n cap b2 b3 b5 e:Nat):Act:=⟨#[.pointer (some ⟨bx,0,none⟩),.slice al n cap,.pointer (some ⟨b2,0,none⟩),.pointer (some ⟨b3,0,none⟩),.slice none 0 0,.pointer (some ⟨b5,0,none⟩),.func (.func 73) #[] #[.pointer (some ⟨b5,0,none⟩),.pointer (some ⟨b2,0,none⟩),.pointer (some ⟨b3,0,none⟩)],undef,undef,undef,undef,undef,undef,.slice al n cap,.int .i64 n,.slice (some ⟨e,0,none⟩) 0 n,.func (.func 73) #[] #[.pointer (some ⟨b5,0,none⟩),.pointer (some ⟨b2,0,none⟩),.pointer (some ⟨b3,0,none⟩)],undef,undef,undef,undef,undef,undef,undef,undef,undef,undef,undef,undef,undef,undef,undef,undef,undef,undef,undef,undef,undef,undef,undef,undef,undef,undef,undef,undef,undef,undef,undef,undef,undef,undef],[]⟩
theorem qwG(bx:Nat)(al:Option Addr)(n cap:Nat)(w:World) :
  (xy Tryz.f32 0).wp Tryz.prog (fun x a w'=>x=.normal/\a=qmT bx al n cap w.heap.size (w.heap.size+1)/\w'=(w.alloc (.cells #[.pointer (some ⟨bx,0,none⟩)] 56)).alloc (.cells #[.slice al n cap] 50)) {tmps:=#[.pointer (some ⟨bx,0,none⟩),.slice al n cap]++Array.replicate (51-2) undef,defers:=[]} w:=by
 refine qsM rfl ?_;simp only[Nat.reduceSub,Array.replicate_succ,Array.replicate_zero,List.push_toArray,List.append_toArray,List.nil_append,List.cons_append];go_wp2;exact rfl
theorem qwH(bx:Nat)(al:Option Addr)(n cap b2 b3:Nat)(w:World)(hn:n<=1048576)(X:Nat)(hX:X<=w.heap.size)(h3:w.cell? ⟨b3,0,none⟩=some (.slice al n cap)) :
  (xy Tryz.f32 1).wp Tryz.prog (fun x a w'=>x=.normal/\∃b5,a=qmU bx al n cap b2 b3 b5 w.heap.size/\Pre w w'/\w.heap.size<b5/\b5<w'.heap.size/\w'.cell? ⟨b5,0,none⟩=some (.slice (some ⟨w.heap.size,0,none⟩) 0 n)/\w'.frozen? ⟨b5,0,none⟩=false/\w'.ownsRow X 30 1 (.slice (some ⟨w.heap.size,0,none⟩) 0 n) 0 []) (qmT bx al n cap b2 b3) w:=by
 refine qsN rfl ?_;unfold qmT;obtain⟨i0,hi,hz0,hz1,hz2⟩:=info_parts (show(Tryz.prog.info? 30).map (fun i=>(i.zero,i.size,i.bytes))=some (some (.int .i64 0),1,8) by kernel_rfl);obtain⟨w3,hmk,qp,hgr⟩:=run_makeSlice_owned (P:=Tryz.prog) w X 77 30 i0 (.int .i64 0) 1 (by kernel_rfl) hi hz0 hz1 .i64 .i64 n (by omega) (by rw[hz2];omega) (by unfold maxLen;omega) hX;have VC:=qb qp;have HGR:=qb hgr;have hlt:=qp.lt w.heap.size rfl;clear qp hgr hi hz0 hz1 hz2;go_wp2;have hb4:Below w3.heap.size w3 (w3.alloc (.cells #[.slice (some ⟨w.heap.size,0,none⟩) 0 n] 77)):=(Below.refl _ _).alloc (Nat.le_refl _) _;refine⟨w3.heap.size,rfl,⟨by have:=hb4.size;omega,fun x hx=>?_⟩,hlt.2,by omega,by rw[ql rfl];rfl,by rw[zx rfl],(Qy.of (S:=fun _=>False) hb4).owns VC.out (fun _ _ e=>e)⟩;rw[hb4.block x (by omega)];exact HGR.out.block x hx (fun e=>by cases e)
theorem qwI(bx:Nat)(al:Option Addr)(n cap b2 b3 b5 e:Nat)(w:World) :
  (xy Tryz.f32 2).wp Tryz.prog (fun x a w'=>x=.normal/\a=quI bx al n cap b2 b3 b5 e/\w'=w) (qmU bx al n cap b2 b3 b5 e) w:=by
 refine qsO rfl ?_;unfold qmU;go_wp2;exact rfl
theorem qqS{main:Bool}{Ro:Nat->Prop}{S:(Nat->Prop)->Goroutine->World->Prop}(h:Way Tryz.prog main Ro S){K:Kr}{M:Nat->Prop}{b:Frame}{a':Act}{W:World}{ops:Array Oper}{i:Nat}{rest:List Nat}{k:List Item}{cs:List Frame}{o:Oper}{ys:Array Value}(T:Tie Tryz.prog fs2 Ro K M a a' w W)(hk:b.kind≠.early)(ho:ops[i]?=some o)(hwt:Region.wanted o (yielded ops a'.tmps)=true)
  {bx:Nat} {al:Option Addr} {n cap X:Nat} (hn:n<=1048576) (hX:X<=w.heap.size) (hr:∀W1,(execOp a'.eval o).run Tryz.prog W1=.ok (.enter 32 ys) W1) (he:∀W1,(execOp a'.eval o).events Tryz.prog W1 #[]=#[]) (ha:AV K #[.pointer (some ⟨bx,0,none⟩),.slice al n cap] ys)
  (next:∀(K1:Kr) (M1:Nat->Prop) (a1':Act) (w1 W1:World) (b5 e:Nat),Grown K M K1 M1->Pre w w1->w.heap.size+1<e/\e<b5/\b5<w1.heap.size->w1.cell? ⟨w.heap.size,0,none⟩=some (.pointer (some ⟨bx,0,none⟩))->w1.cell? ⟨w.heap.size+1,0,none⟩=some (.slice al n cap)->w1.cell? ⟨b5,0,none⟩=some (.slice (some ⟨e,0,none⟩) 0 n)->w1.frozen? ⟨b5,0,none⟩=false->w1.ownsRow X 30 1 (.slice (some ⟨e,0,none⟩) 0 n) 0 [] ->
   Tie Tryz.prog fs2 Ro K1 M1 (quI bx al n cap w.heap.size (w.heap.size+1) b5 e) a1' w1 W1->a1'.defers=[]->S M1 (G ((base 32).at a1' [.code (qac Tryz.f32)]) (b.at a' (.inRegion ops (i::rest)::k)::cs)) W1) :
  S M (G (b.at a' (.inRegion ops (i::rest)::k)) cs) W:=by
 refine Way.enter h T hk ho hwt hr he Tryz.func32 rfl ha (fun T1=>?_);refine h.seq T1.lt ?_;refine Way.code h zn (by kernel_rfl) T1 ⟨rfl,rfl⟩ ⟨_,Tryz.func32⟩ rfl (by kernel_rfl) (R:=fun a1 w1=>a1=qmT bx al n cap w.heap.size (w.heap.size+1)/\Pre w w1/\w1.heap.size=w.heap.size+2/\w1.cell? ⟨w.heap.size,0,none⟩=some (.pointer (some ⟨bx,0,none⟩))/\w1.cell? ⟨w.heap.size+1,0,none⟩=some (.slice al n cap)) (fun τ=>qa8 (c':=xy Tryz.f32 0) (by kernel_rfl) (by kernel_rfl) (fun x a1 w1 q=>?_) (qwG bx al n cap (qg w τ))) ?_
 ·obtain⟨q1,q2,rfl⟩:=q;refine⟨q1,q2,⟨by show w.heap.size<=((w.heap.push _).push _).size;rw[Array.size_push,Array.size_push];omega,fun y hy=>?_⟩,by simp[qg],?_,?_⟩
  ·show((w.heap.push _).push _)[y]?=_;rw[Array.getElem?_push,if_neg (by simp;omega),Array.getElem?_push,if_neg (by omega)]
  ·unfold World.cell?;show(match ((w.heap.push _).push _)[w.heap.size]? with|some (.cells c _ _)=>_|_=>_)=_;rw[Array.getElem?_push,if_neg (by simp),Array.getElem?_push_size];rfl
  ·unfold World.cell?;show(match ((w.heap.push _).push _)[w.heap.size+1]? with|some (.cells c _ _)=>_|_=>_)=_;rw[Array.getElem?_push,if_pos (by simp)];rfl
 rintro K2 M2 a2 a2' w2 W2 g2 ⟨rfl,hp2,hz2,x2,y2⟩ T2 hd2;refine h.seq T2.lt ?_;refine Way.code h zn (by kernel_rfl) T2 hd2 ⟨_,Tryz.func32⟩ rfl (by kernel_rfl) (R:=fun a1 w1=>∃b5,a1=qmU bx al n cap w.heap.size (w.heap.size+1) b5 w2.heap.size/\Pre w2 w1/\w2.heap.size<b5/\b5<w1.heap.size/\w1.cell? ⟨b5,0,none⟩=some (.slice (some ⟨w2.heap.size,0,none⟩) 0 n)/\w1.frozen? ⟨b5,0,none⟩=false/\w1.ownsRow X 30 1 (.slice (some ⟨w2.heap.size,0,none⟩) 0 n) 0 []) (fun τ=>qa8 (c':=xy Tryz.f32 1) (a':=qmT bx al n cap w.heap.size (w.heap.size+1)) (by kernel_rfl) rfl (fun x a1 w1 q=>?_) (qwH bx al n cap _ _ (qg w2 τ) hn X (by show X<=w2.heap.size;omega) y2)) ?_
 ·obtain⟨q1,b5,q2,q3,q4,q5,q6,q7,q8⟩:=q;exact⟨q1,b5,q2,⟨q3.size,q3.block⟩,q4,q5,q6,q7,q8⟩
 rintro K3 M3 a3 a3' w3 W3 g3 ⟨b5,rfl,hp3,l1,l2,c5,f5,row⟩ T3 hd3;refine h.seq T3.lt ?_;refine Way.code h zn (by kernel_rfl) T3 hd3 ⟨_,Tryz.func32⟩ rfl (by kernel_rfl) (R:=fun a1 w1=>a1=quI bx al n cap w.heap.size (w.heap.size+1) b5 w2.heap.size/\∃τ,w1=qg w3 τ) (fun τ=>qa8 (c':=xy Tryz.f32 2) (a':=qmU bx al n cap w.heap.size (w.heap.size+1) b5 w2.heap.size) (by kernel_rfl) rfl (fun x a1 w1 q=>⟨q.1,q.2.1,τ,q.2.2⟩) (qwI bx al n cap _ _ b5 _ (qg w3 τ))) ?_;rintro K4 M4 a4 a4' w4 W4 g4 ⟨rfl,τ,rfl⟩ T4 hd4
 have zC:∀y,y<w2.heap.size->w3.cell? ⟨y,0,none⟩=w2.cell? ⟨y,0,none⟩:=fun y hy=>by unfold World.cell?;rw[hp3.block y hy]
 exact next K4 M4 a4' (qg w3 τ) W4 b5 w2.heap.size ((g2.trans g3).trans g4) ((hp2.trans hp3).trans ⟨Nat.le_refl _,fun _ _=>rfl⟩) ⟨by omega,l1,l2⟩ ((zC _ (by omega)).trans x2) ((zC _ (by omega)).trans y2) c5 f5 row T4 hd4.2
end Sim
namespace Sim
open Go.Conc Go.RowKit
def zb(bx:Nat)(al:Option Addr)(n cap b2 b3 b5:Nat)(j:Nat->Value):Act:=⟨#[.pointer (some ⟨bx,0,none⟩),.slice al n cap,.pointer (some ⟨b2,0,none⟩),.pointer (some ⟨b3,0,none⟩),.slice none 0 0,.pointer (some ⟨b5,0,none⟩),.func (.func 73) #[] #[.pointer (some ⟨b5,0,none⟩),.pointer (some ⟨b2,0,none⟩),.pointer (some ⟨b3,0,none⟩)],j 7,j 8,j 9,j 10,j 11,j 12,j 13,j 14,j 15,j 16,j 17,j 18,j 19,j 20,j 21,j 22,j 23,j 24,j 25,j 26,j 27,j 28,j 29,j 30,j 31,j 32,j 33,j 34,j 35,j 36,j 37,j 38,j 39,j 40,j 41,j 42,j 43,j 44,j 45,j 46,j 47,j 48,j 49,j 50],[]⟩
def qi(j:Nat->Value)(t:Nat)(v:Value):Nat->Value:=fun y=>if y=t then v else j y
theorem ju(j:Nat->Value)(t:Nat)(v:Value):qi j t v t=v:=if_pos rfl
theorem qT(j:Nat->Value){t y:Nat}(v:Value)(h:y≠t):qi j t v y=j y:=if_neg h
theorem yI{j:Nat->Value}{t:Nat}{v:Value}(h:j t=v):j=qi j t v:=by
 funext y
 unfold qi;split
 ·rename_i e;rw[e,h]
 ·rfl
theorem zO:(base 32).kind≠.early:=by show CallKind.normal≠CallKind.early;nofun
noncomputable def qbD:Array Oper:=match qac Tryz.f32 with
 | .seq (.region _ ops _) _=>ops
 | _=>#[]
noncomputable def qmV:Code:=match qac Tryz.f32 with
 | .seq _ c=>c
 | _=>.skip
def ok5:List Nat->List Nat->Bool
 | _,[]=>false
 | D,i::l=>if i=5 then D.contains 3&&D.contains 4&&((D.contains 6&&l == [7]) || (!D.contains 6&&l == [6,7]))
  else(i == 0 || (i == 1&&D.contains 0) || (i == 2&&D.contains 1) || (i == 3&&D.contains 2) || i == 4 || i == 6)&&ok5 (i::D) l
theorem qsP:((qio .any qbD qbD.size (Array.replicate qbD.size false)).all (ok5 []))=true:=by kernel_rfl
section
variable {P:Program}{main:Bool}{Ro:Nat->Prop}{S:(Nat->Prop)->Goroutine->World->Prop}{Fs:FuncId->Bool}(h:Way P main Ro S){K:Kr}{M:Nat->Prop}{b:Frame}{a a':Act}{w W:World}{ops:Array Oper}{i:Nat}{rest:List Nat}{k:List Item}{cs:List Frame}{o:Oper}(T:Tie P Fs Ro K M a a' w W)(hk:b.kind≠.early)
  (ho:ops[i]?=some o) (hwt:Region.wanted o (yielded ops a'.tmps)=true) (HG:Good P Fs)
include h T hk ho hwt HG
theorem Way.qxN{x:Nat}(hop:o.op=.nilCheck (.tmp x)){p:Addr}(ex:a.eval (.tmp x)=.pointer (some p))
  (next:∀(K1:Kr) (M1:Nat->Prop) (v':Value) (W1:World),Grown K M K1 M1->VR K1 (.pointer (some p)) v'->Tie P Fs Ro K1 M1 (a.put o.dst (.pointer (some p))) (a'.put o.dst v') w W1->S M1 (G (b.at (a'.put o.dst v') (.inRegion ops rest::k)) cs) W1) :
  S M (G (b.at a' (.inRegion ops (i::rest)::k)) cs) W:=by
 refine h.opM T hk ho hwt HG (by rw[hop];rfl) (by rw[hop];rfl) (v:=.pointer (some p)) (wn:=w) (fun τ=>.inl ?_) next;unfold execOp;rw[hop];simp only[ex];rfl
theorem Way.qsQ{t:TypeId}{x f:Nat}(hop:o.op=.fieldAddr t (.tmp x) f){p v:Value}(ex:a.eval (.tmp x)=p)(zk:∀τ,(Instr.fieldAt t p f).run P (qg w τ)=.ok v (qg w τ))
  (next:∀(K1:Kr) (M1:Nat->Prop) (v':Value) (W1:World),Grown K M K1 M1->VR K1 v v'->Tie P Fs Ro K1 M1 (a.put o.dst v) (a'.put o.dst v') w W1->S M1 (G (b.at (a'.put o.dst v') (.inRegion ops rest::k)) cs) W1) :
  S M (G (b.at a' (.inRegion ops (i::rest)::k)) cs) W:=by
 refine h.opM T hk ho hwt HG (by rw[hop];rfl) (by rw[hop];rfl) (v:=v) (wn:=w) (fun τ=>.inl ?_) next;unfold execOp;rw[hop];show((Instr.fieldAt t (a.eval (.tmp x)) f).bind _).run _ _=_;rw[ex,Sem.run_bind',zk τ];rfl
end
variable {p:Addr}{W:World}{v:Option Addr}
theorem qsR(hx:W.cell? p=some (.pointer v)):(Instr.loadAt 56 (.pointer (some p))).run Tryz.prog W=.ok (.pointer v) W:=by
 have e:(Instr.loadAt 56 (.pointer (some p))).run Tryz.prog W=(load p).run Tryz.prog W:=by kernel_rfl
 rw[e];simp[go_sem,hx]
theorem qxO(hx:W.cell? p=some (.pointer v)):(Instr.loadAt 23 (.pointer (some p))).run Tryz.prog W=.ok (.pointer v) W:=by
 have e:(Instr.loadAt 23 (.pointer (some p))).run Tryz.prog W=(load p).run Tryz.prog W:=by kernel_rfl
 rw[e];simp[go_sem,hx]
theorem qsS{n c:Nat}(hx:W.cell? p=some (.slice v n c)):(Instr.loadAt 50 (.pointer (some p))).run Tryz.prog W=.ok (.slice v n c) W:=by
 have e:(Instr.loadAt 50 (.pointer (some p))).run Tryz.prog W=(load p).run Tryz.prog W:=by kernel_rfl
 rw[e];simp[go_sem,hx]
theorem qou{b7:Nat}{d0 d1 d2 d3:Option Nat}(h0:W.cell? ⟨b7,0,none⟩=some (.chan none))(h1:W.cell? ⟨b7,1,none⟩=some (.chan none))(h2:W.cell? ⟨b7,2,none⟩=some (.chan none))(h3:W.cell? ⟨b7,3,none⟩=some (.chan none))(hf:∀q,W.frozen? ⟨b7,q,none⟩=false) :
  (Instr.storeAt 154 (.pointer (some ⟨b7,0,none⟩)) (.agg #[.chan d0,.chan d1,.chan d2,.chan d3])).run Tryz.prog W=.ok () ((((W.setCell ⟨b7,0,none⟩ (.chan d0)).setCell ⟨b7,1,none⟩ (.chan d1)).setCell ⟨b7,2,none⟩ (.chan d2)).setCell ⟨b7,3,none⟩ (.chan d3)):=by
 have e:(Instr.storeAt 154 (.pointer (some ⟨b7,0,none⟩)) (.agg #[.chan d0,.chan d1,.chan d2,.chan d3])).run Tryz.prog W=(storeCells ⟨b7,0,none⟩ [.chan d0,.chan d1,.chan d2,.chan d3]).run Tryz.prog W:=by kernel_rfl
 rw[e]
 have k1:∀(V:World) (p:Addr) (u:Option Nat) (x:Value),V.cell? p=some x->V.frozen? p=false->(store p (.chan u)).run Tryz.prog V=.ok () (V.setCell p (.chan u)):=fun V p u x hx hf=>by simp[go_sem,hx,hf]
 have s1:(W.setCell ⟨b7,0,none⟩ (.chan d0)).cell? ⟨b7,1,none⟩=some (.chan none):=by rw[World.cell?_setCell_other _ _ _ _ (by simp)];exact h1
 have s2:((W.setCell ⟨b7,0,none⟩ (.chan d0)).setCell ⟨b7,1,none⟩ (.chan d1)).cell? ⟨b7,2,none⟩=some (.chan none):=by rw[World.cell?_setCell_other _ _ _ _ (by simp),World.cell?_setCell_other _ _ _ _ (by simp)];exact h2
 have s3:(((W.setCell ⟨b7,0,none⟩ (.chan d0)).setCell ⟨b7,1,none⟩ (.chan d1)).setCell ⟨b7,2,none⟩ (.chan d2)).cell? ⟨b7,3,none⟩=some (.chan none):=by rw[World.cell?_setCell_other _ _ _ _ (by simp),World.cell?_setCell_other _ _ _ _ (by simp),World.cell?_setCell_other _ _ _ _ (by simp)];exact h3
 show((store ⟨b7,0,none⟩ (.chan d0)).bind fun _=>(store ⟨b7,1,none⟩ (.chan d1)).bind fun _=>(store ⟨b7,2,none⟩ (.chan d2)).bind fun _=>(store ⟨b7,3,none⟩ (.chan d3)).bind fun _=>Sem.pure ()).run _ _=_;rw[Sem.run_bind',k1 _ _ _ _ h0 (hf 0)];show((store ⟨b7,1,none⟩ (.chan d1)).bind _).run _ _=_;rw[Sem.run_bind',k1 _ _ _ _ s1 (by rw[World.frozen?_setCell];exact hf 1)];show((store ⟨b7,2,none⟩ (.chan d2)).bind _).run _ _=_;rw[Sem.run_bind',k1 _ _ _ _ s2 (by rw[World.frozen?_setCell,World.frozen?_setCell];exact hf 2)];show((store ⟨b7,3,none⟩ (.chan d3)).bind _).run _ _=_;rw[Sem.run_bind',k1 _ _ _ _ s3 (by rw[World.frozen?_setCell,World.frozen?_setCell,World.frozen?_setCell];exact hf 3)];rfl
end Sim
namespace Sim
open Go.Conc Go.RowKit
noncomputable def r3o(i:Nat):Oper:=match qbD[i]? with
 | some o=>o
 | none=>{dst:=none,op:=.move (.tmp 0),type:=0,pos:= "",after:=#[],guard:=none}
structure R3(D:List Nat)(bx bc:Nat)(al:Option Addr)(n cap E:Nat)(j:Nat->Value)(w:World):Prop where
 h0:0∈D->j 17=.pointer (some ⟨bx,0,none⟩)
 h1:1∈D->j 18=.pointer (some ⟨bx,0,none⟩)
 h2:2∈D->j 19=.pointer (some ⟨bx,0,none⟩)
 h3:3∈D->j 20=.pointer (some ⟨bc,0,none⟩)
 h4:4∈D->j 21=.slice al n cap
 h6:6∈D->∃b7,j 7=.pointer (some ⟨b7,0,none⟩)/\E<=b7/\w.heap[b7]?=some (.cells #[.chan none,.chan none,.chan none,.chan none] 154 (0,0))
theorem qH{D:List Nat}{i t:Nat}(h:t∈i::D)(hne:t≠i):t∈D:=by
 rcases List.mem_cons.1 h with e|e
 ·exact absurd e hne
 ·exact e
section
variable {Ro:Nat->Prop}{Qk:Value->World->Prop}{Kb K1:Kr}{M1:Nat->Prop}{w1:World}{k:List Item}{cs:List Frame}{bx bc b2 b3 b5 cap:Nat}{al:Option Addr}{ks:List ByteArray}{plc:ByteArray->Value}
variable {rem:Nat->List (Option Value)}{M:Nat->Prop}{j:Nat->Value}{w:World}
theorem qmW{rem:Nat->List (Option Value)}{K:Kr}{a':Act}{W:World}{b7:Nat}{d0 d1 d2 d3:Nat}(T:Tie Tryz.prog fs2 Ro K M (zb bx al ks.length cap b2 b3 b5 j) a' w W)(hd:a'.defers=[])(yO:Pre w1 w)(hb:WR Tryz.prog Ro Kb w W)(le:Kb.le K)(zU:∀a b,Kb.B a b->a<w1.heap.size)
  (j7:j 7=.pointer (some ⟨b7,0,none⟩)) (hE:w1.heap.size<=b7) (h7:w.heap[b7]?=some (.cells #[.chan none,.chan none,.chan none,.chan none] 154 (0,0))) (j22:j 22=.agg #[.chan (some d0),.chan (some d1),.chan (some d2),.chan (some d3)])
  (next:∀(K2:Kr) (M2:Nat->Prop) (a':Act) (w W:World),Grown K M K2 M2->Pre w1 w->WR Tryz.prog Ro Kb w W->(w.cell? ⟨b7,0,none⟩=some (.chan (some d0))/\w.cell? ⟨b7,1,none⟩=some (.chan (some d1))/\w.cell? ⟨b7,2,none⟩=some (.chan (some d2))/\w.cell? ⟨b7,3,none⟩=some (.chan (some d3)))->b7<w.heap.size->Tie Tryz.prog fs2 Ro K2 M2 (zb bx al ks.length cap b2 b3 b5 j) a' w W->a'.defers=[] ->
   Sc Tryz.prog Ro Qk none rem M2 (G ((base 32).at a' (.inRegion qbD []::k)) cs) W) :
  Sc Tryz.prog Ro Qk none rem M (G ((base 32).at a' (.inRegion qbD [7]::k)) cs) W:=by
 have h:=yl Tryz.prog Ro Qk none rem;have hlt:b7<w.heap.size:=(Array.getElem?_eq_some_iff.1 h7).1
 have c0:∀q,q<4->w.cell? ⟨b7,q,none⟩=some (.chan none):=fun q hq=>by
  unfold World.cell?;rw[h7];rcases q with _|_|_|_|q
  ·rfl
  ·rfl
  ·rfl
  ·rfl
  ·omega
 have f0:∀q,w.frozen? ⟨b7,q,none⟩=false:=fun q=>by simp[World.frozen?,h7]
 obtain⟨wn,hwn⟩:∃wn,(((w.setCell ⟨b7,0,none⟩ (.chan (some d0))).setCell ⟨b7,1,none⟩ (.chan (some d1))).setCell ⟨b7,2,none⟩ (.chan (some d2))).setCell ⟨b7,3,none⟩ (.chan (some d3))=wn:=⟨_,rfl⟩
 have qxP:∀x,x≠b7->wn.heap[x]?=w.heap[x]?:=fun x hx=>by
  rw[<-hwn,Below.heap_setCell _ _ _ _ (by show x≠b7;exact hx),Below.heap_setCell _ _ _ _ (by show x≠b7;exact hx),Below.heap_setCell _ _ _ _ (by show x≠b7;exact hx),Below.heap_setCell _ _ _ _ (by show x≠b7;exact hx)]
 have hsz:wn.heap.size=w.heap.size:=by rw[<-hwn];simp[World.setCell]
 refine h.qmQ T zO (o:=r3o 7) (by kernel_rfl) (by kernel_rfl) zn (t:=154) (x:=7) (y:=22) (by kernel_rfl) (by kernel_rfl) (p:=.pointer (some ⟨b7,0,none⟩)) (v:=.agg #[.chan (some d0),.chan (some d1),.chan (some d2),.chan (some d3)]) (wn:=wn) ((show(zb bx al ks.length cap b2 b3 b5 j).eval (.tmp 7)=j 7 by kernel_rfl).trans j7) ((show(zb bx al ks.length cap b2 b3 b5 j).eval (.tmp 22)=j 22 by kernel_rfl).trans j22) (fun τ=>?_) (fun K2 M2 W2 g2 T2=>?_)
 ·rw[qou (W:=qg w τ) (c0 0 (by omega)) (c0 1 (by omega)) (c0 2 (by omega)) (c0 3 (by omega)) f0,<-hwn];rfl
 have hpn:Pre w1 wn:=⟨by rw[hsz];exact yO.size,fun x hx=>(qxP x (by omega)).trans (yO.block x hx)⟩
 refine next K2 M2 a' wn W2 g2 hpn (hb.later T2.wr (le.trans g2.le) (fun x y hxy=>(qxP x (by have:=zU x y hxy;omega)))) ?_ (by omega) T2 hd;rw[<-hwn]
 have z1:(w.setCell ⟨b7,0,none⟩ (.chan (some d0))).cell? ⟨b7,1,none⟩=some (.chan none):=by rw[World.cell?_setCell_other _ _ _ _ (by simp)];exact c0 1 (by omega)
 have z2:((w.setCell ⟨b7,0,none⟩ (.chan (some d0))).setCell ⟨b7,1,none⟩ (.chan (some d1))).cell? ⟨b7,2,none⟩=some (.chan none):=by rw[World.cell?_setCell_other _ _ _ _ (by simp),World.cell?_setCell_other _ _ _ _ (by simp)];exact c0 2 (by omega)
 have z3:(((w.setCell ⟨b7,0,none⟩ (.chan (some d0))).setCell ⟨b7,1,none⟩ (.chan (some d1))).setCell ⟨b7,2,none⟩ (.chan (some d2))).cell? ⟨b7,3,none⟩=some (.chan none):=by rw[World.cell?_setCell_other _ _ _ _ (by simp),World.cell?_setCell_other _ _ _ _ (by simp),World.cell?_setCell_other _ _ _ _ (by simp)];exact c0 3 (by omega)
 refine⟨?_,?_,?_,World.cell?_setCell_same _ _ _ z3⟩
 ·rw[World.cell?_setCell_other _ _ _ _ (by simp),World.cell?_setCell_other _ _ _ _ (by simp),World.cell?_setCell_other _ _ _ _ (by simp)];exact World.cell?_setCell_same _ _ _ (c0 0 (by omega))
 ·rw[World.cell?_setCell_other _ _ _ _ (by simp),World.cell?_setCell_other _ _ _ _ (by simp)];exact World.cell?_setCell_same _ _ _ z1
 ·rw[World.cell?_setCell_other _ _ _ _ (by simp)];exact World.cell?_setCell_same _ _ _ z2
theorem qja{o:Obj}:(w.alloc o).heap[w.heap.size]?=some o:=by show(w.heap.push o)[w.heap.size]?=_;rw[Array.getElem?_push_size]
theorem qkE(w:World)(o:Obj):Pre w (w.alloc o):=⟨by simp,fun x hx=>Below.heap_alloc _ _ _ hx⟩
theorem qmX{rem:Nat->List (Option Value)}{K:Kr}{a':Act}{W:World}{l:List Nat}(T:Tie Tryz.prog fs2 Ro K M (zb bx al ks.length cap b2 b3 b5 j) a' w W)(hd:a'.defers=[])(hb:WR Tryz.prog Ro Kb w W)(le:Kb.le K)(zU:∀a b,Kb.B a b->a<w.heap.size)
  (next:∀(K2:Kr) (M2:Nat->Prop) (a':Act) (W2:World),Grown K M K2 M2->WR Tryz.prog Ro Kb (w.alloc (.cells #[.chan none,.chan none,.chan none,.chan none] 154)) W2->Tie Tryz.prog fs2 Ro K2 M2 (zb bx al ks.length cap b2 b3 b5 (qi j 7 (.pointer (some ⟨w.heap.size,0,none⟩)))) a' (w.alloc (.cells #[.chan none,.chan none,.chan none,.chan none] 154)) W2->a'.defers=[] ->
   Sc Tryz.prog Ro Qk none rem M2 (G ((base 32).at a' (.inRegion qbD l::k)) cs) W2) :
  Sc Tryz.prog Ro Qk none rem M (G ((base 32).at a' (.inRegion qbD (6::l)::k)) cs) W:=by
 have h:=yl Tryz.prog Ro Qk none rem;refine h.opM T zO (o:=r3o 6) (by kernel_rfl) (by kernel_rfl) zn (by kernel_rfl) (by kernel_rfl) (v:=.pointer (some ⟨w.heap.size,0,none⟩)) (wn:=w.alloc (.cells #[.chan none,.chan none,.chan none,.chan none] 154)) (fun τ=>.inl (by kernel_rfl)) (fun K2 M2 v2 W2 g2 e2 T2=>?_);exact next K2 M2 _ W2 g2 (hb.later T2.wr (le.trans g2.le) (fun x y hxy=>Below.heap_alloc _ _ _ (zU x y hxy))) (T2.zm (by kernel_rfl)) (by simp only[put_defers];exact hd)
theorem qwJ(h2:w1.cell? ⟨b2,0,none⟩=some (.pointer (some ⟨bx,0,none⟩)))(h3:w1.cell? ⟨b3,0,none⟩=some (.slice al ks.length cap))(hbx:w1.cell? ⟨bx,0,none⟩=some (.pointer (some ⟨bc,0,none⟩)))(hl2:b2<w1.heap.size)(hl3:b3<w1.heap.size)(hlx:bx<w1.heap.size)(hlen:ks.length<=1000000000)
  (hC:∀w2,Pre w1 w2->∀key,Calls Tryz.prog 76 #[.pointer (some ⟨bc,0,none⟩),.string key] w2 (fun e w3=>∃v,e=.returned v/\v=plc key/\Pre w2 w3)) (qbC:∀key,vg 9 (plc key)=true)
  (le1:Kb.le K1) (hbf:Kb.Fs=fun f=>fs2 f=true) (hRo:∀b,Ro b↔∃a,Kb.B a b) (zU:∀a b,Kb.B a b->a<w1.heap.size) (hvb:∃y,VR Kb (.pointer (some ⟨bc,0,none⟩)) y) (hsb:∃y,VR Kb (.slice al ks.length cap) y)
  (list:∀(g:Addr) (i:Nat) (hi:i<ks.length),al=some g->g.spot=none/\w1.cell? ⟨g.block,g.off+i * 2,none⟩=some (.string ks[i])/\g.block<w1.heap.size) (some_:0<ks.length->al≠none)
  (next:∀(K:Kr) (M:Nat->Prop) (j:Nat->Value) (a':Act) (w W:World) (b7 d0 d1 d2 d3 c0 c1 c2 c3:Nat),Grown K1 M1 K M->Pre w1 w->WR Tryz.prog Ro Kb w W->(K.B d0 c0/\K.B d1 c1/\K.B d2 c2/\K.B d3 c3)->(c1≠c0/\c2≠c0/\c2≠c1/\c3≠c0/\c3≠c1/\c3≠c2)->j 7=.pointer (some ⟨b7,0,none⟩)->w1.heap.size<=b7->(w.cell? ⟨b7,0,none⟩=some (.chan (some d0))/\w.cell? ⟨b7,1,none⟩=some (.chan (some d1))/\w.cell? ⟨b7,2,none⟩=some (.chan (some d2))/\w.cell? ⟨b7,3,none⟩=some (.chan (some d3)))->b7<w.heap.size->Tie Tryz.prog fs2 Ro K M (zb bx al ks.length cap b2 b3 b5 j) a' w W->a'.defers=[] ->
   Sc Tryz.prog Ro Qk none (upd (upd (upd (upd (fun _=>[]) c0 ((ya plc ks 0).map some++[none])) c1 ((ya plc ks 1).map some++[none])) c2 ((ya plc ks 2).map some++[none])) c3 ((ya plc ks 3).map some++[none])) M (G ((base 32).at a' (.inRegion qbD []::k)) cs) W) :
  ∀(l D:List Nat) (K:Kr) (M:Nat->Prop) (j:Nat->Value) (a':Act) (w W:World),ok5 D l=true->Grown K1 M1 K M->Pre w1 w->WR Tryz.prog Ro Kb w W->R3 D bx bc al ks.length cap w1.heap.size j w->Tie Tryz.prog fs2 Ro K M (zb bx al ks.length cap b2 b3 b5 j) a' w W->a'.defers=[] ->
   Sc Tryz.prog Ro Qk none (fun _=>[]) M (G ((base 32).at a' (.inRegion qbD l::k)) cs) W:=by
 have h:=yl Tryz.prog Ro Qk none (fun _=>[]);intro l
 induction l with
 | nil=>intro D K M j a' w W hok;cases hok
 | cons i l ih =>
  intro D K M j a' w W hok g yO hb hR T hd;have le:=le1.trans g.le
  have cell:∀p:Addr,p.block<w1.heap.size->w.cell? p=w1.cell? p:=fun p hp=>by unfold World.cell?;rw[yO.block _ hp]
  have qiB:∀a b,Kb.B a b->a<w.heap.size:=fun a b hab=>Nat.lt_of_lt_of_le (zU a b hab) yO.size;unfold ok5 at hok;by_cases h5:i=5
  ·subst h5;rw[if_pos rfl]at hok;simp only[Bool.and_eq_true,Bool.or_eq_true,Bool.not_eq_true',List.contains_iff_mem,beq_iff_eq]at hok;obtain⟨⟨q3,q4⟩,hq⟩:=hok;have e20:(zb bx al ks.length cap b2 b3 b5 j).eval (.tmp 20)=.pointer (some ⟨bc,0,none⟩):=(show(zb bx al ks.length cap b2 b3 b5 j).eval (.tmp 20)=j 20 by kernel_rfl).trans (hR.h3 q3);have e21:(zb bx al ks.length cap b2 b3 b5 j).eval (.tmp 21)=.slice al ks.length cap:=(show(zb bx al ks.length cap b2 b3 b5 j).eval (.tmp 21)=j 21 by kernel_rfl).trans (hR.h4 q4)
   refine qot (plc:=plc) (ks:=ks) (al0:=al) (cap:=cap) T zO (o:=r3o 5) (by kernel_rfl) (by kernel_rfl) (ys:=#[a'.eval (.tmp 20),a'.eval (.tmp 21)]) (fun W1=>by kernel_rfl) (fun W1=>by kernel_rfl) (AV.two (T.slot 20 e20) (T.slot 21 e21)) hlen (fun w2 hw2=>hC w2 (yO.trans hw2)) qbC hb le hbf hRo qiB hvb hsb (fun g i hi e=>by
    obtain⟨l1,l2,l3⟩:=list g i hi e
    exact⟨l1,(cell ⟨g.block,g.off+i * 2,none⟩ l3).trans l2,Nat.lt_of_lt_of_le l3 yO.size⟩) some_ (fun K2 M2 w2 W2 d0 d1 d2 d3 c0 c1 c2 c3 v' g2 hB hne qg7 hb2 hv2 T2=>?_)
   have T3:=T2.zm (b:=zb bx al ks.length cap b2 b3 b5 (qi j 22 (.agg #[.chan (some d0),.chan (some d1),.chan (some d2),.chan (some d3)]))) (by kernel_rfl);have gA:=g.trans g2
   have hdd:(a'.put (r3o 5).dst v').defers=[]:=by simp only[put_defers];exact hd
   rcases hq with⟨q6,rfl⟩|⟨q6,rfl⟩
   ·obtain⟨b7,x1,x2,x3⟩:=hR.h6 q6;have x4:b7<w.heap.size:=(Array.getElem?_eq_some_iff.1 x3).1;refine qmW (w1:=w1) (b7:=b7) T3 hdd (yO.trans qg7) hb2 (le1.trans gA.le) zU (by rw[qT _ _ (by decide)];exact x1) x2 ((qg7.block b7 x4).trans x3) (ju _ _ _) (fun K3 M3 a3 w3 W3 g3 p3 hb3 hc3 qAb T4 hd4=>?_);exact next K3 M3 _ a3 w3 W3 b7 d0 d1 d2 d3 c0 c1 c2 c3 (gA.trans g3) p3 hb3 ⟨g3.le.b _ _ hB.1,g3.le.b _ _ hB.2.1,g3.le.b _ _ hB.2.2.1,g3.le.b _ _ hB.2.2.2⟩ hne (by rw[qT _ _ (by decide)];exact x1) x2 hc3 qAb T4 hd4
   ·refine qmX T3 hdd hb2 (le1.trans gA.le) (fun x y hxy=>Nat.lt_of_lt_of_le (qiB x y hxy) qg7.size) (fun K3 M3 a3 W3 g3 hb3 T4 hd4=>?_);have pA:=(yO.trans qg7).trans (qkE w2 (.cells #[.chan none,.chan none,.chan none,.chan none] 154));refine qmW (w1:=w1) (b7:=w2.heap.size) T4 hd4 pA hb3 ((le1.trans gA.le).trans g3.le) zU (ju _ _ _) (yO.trans qg7).size qja (by rw[qT _ _ (by decide)];exact ju _ _ _) (fun K4 M4 a4 w4 W4 g4 p4 hb4 hc4 qAc T5 hd5=>?_);have up:=g3.le.trans g4.le;exact next K4 M4 _ a4 w4 W4 w2.heap.size d0 d1 d2 d3 c0 c1 c2 c3 ((gA.trans g3).trans g4) p4 hb4 ⟨up.b _ _ hB.1,up.b _ _ hB.2.1,up.b _ _ hB.2.2.1,up.b _ _ hB.2.2.2⟩ hne (ju _ _ _) (yO.trans qg7).size hc4 qAc T5 hd5
  ·rw[if_neg h5]at hok;simp only[Bool.and_eq_true,Bool.or_eq_true,List.contains_iff_mem,beq_iff_eq]at hok;obtain⟨hi,hok⟩:=hok;rcases hi with((((rfl|⟨rfl,q⟩)|⟨rfl,q⟩)|⟨rfl,q⟩)|rfl)|rfl
   ·refine h.qc1 T zO (o:=r3o 0) (by kernel_rfl) (by kernel_rfl) zn (t:=56) (x:=2) (by kernel_rfl) (p:=.pointer (some ⟨b2,0,none⟩)) (v:=.pointer (some ⟨bx,0,none⟩)) (by kernel_rfl) (fun τ=>qsR (W:=qg w τ) ((cell ⟨b2,0,none⟩ hl2).trans h2)) (fun K2 M2 v2 W2 g2 e2 T2=>?_);exact ih (0::D) K2 M2 (qi j 17 (.pointer (some ⟨bx,0,none⟩))) _ w W2 hok (g.trans g2) yO (hb.later T2.wr (le.trans g2.le) (fun _ _ _=>rfl)) ⟨fun _=>ju _ _ _,fun e=>by rw[qT _ _ (by decide)];exact hR.h1 (qH e (by decide)),fun e=>by rw[qT _ _ (by decide)];exact hR.h2 (qH e (by decide)),fun e=>by rw[qT _ _ (by decide)];exact hR.h3 (qH e (by decide)),fun e=>by rw[qT _ _ (by decide)];exact hR.h4 (qH e (by decide)),fun e=>by rw[qT _ _ (by decide)];exact hR.h6 (qH e (by decide))⟩ (T2.zm (by kernel_rfl)) (by simp only[put_defers];exact hd)
   ·refine h.qxN T zO (o:=r3o 1) (by kernel_rfl) (by kernel_rfl) zn (x:=17) (by kernel_rfl) (p:=⟨bx,0,none⟩) ((show(zb bx al ks.length cap b2 b3 b5 j).eval (.tmp 17)=j 17 by kernel_rfl).trans (hR.h0 q)) (fun K2 M2 v2 W2 g2 e2 T2=>?_);exact ih (1::D) K2 M2 (qi j 18 (.pointer (some ⟨bx,0,none⟩))) _ w W2 hok (g.trans g2) yO (hb.later T2.wr (le.trans g2.le) (fun _ _ _=>rfl)) ⟨fun e=>by rw[qT _ _ (by decide)];exact hR.h0 (qH e (by decide)),fun _=>ju _ _ _,fun e=>by rw[qT _ _ (by decide)];exact hR.h2 (qH e (by decide)),fun e=>by rw[qT _ _ (by decide)];exact hR.h3 (qH e (by decide)),fun e=>by rw[qT _ _ (by decide)];exact hR.h4 (qH e (by decide)),fun e=>by rw[qT _ _ (by decide)];exact hR.h6 (qH e (by decide))⟩ (T2.zm (by kernel_rfl)) (by simp only[put_defers];exact hd)
   ·refine h.qsQ T zO (o:=r3o 2) (by kernel_rfl) (by kernel_rfl) zn (t:=132) (x:=18) (f:=0) (by kernel_rfl) (p:=.pointer (some ⟨bx,0,none⟩)) (v:=.pointer (some ⟨bx,0,none⟩)) ((show(zb bx al ks.length cap b2 b3 b5 j).eval (.tmp 18)=j 18 by kernel_rfl).trans (hR.h1 q)) (fun τ=>by kernel_rfl) (fun K2 M2 v2 W2 g2 e2 T2=>?_);exact ih (2::D) K2 M2 (qi j 19 (.pointer (some ⟨bx,0,none⟩))) _ w W2 hok (g.trans g2) yO (hb.later T2.wr (le.trans g2.le) (fun _ _ _=>rfl)) ⟨fun e=>by rw[qT _ _ (by decide)];exact hR.h0 (qH e (by decide)),fun e=>by rw[qT _ _ (by decide)];exact hR.h1 (qH e (by decide)),fun _=>ju _ _ _,fun e=>by rw[qT _ _ (by decide)];exact hR.h3 (qH e (by decide)),fun e=>by rw[qT _ _ (by decide)];exact hR.h4 (qH e (by decide)),fun e=>by rw[qT _ _ (by decide)];exact hR.h6 (qH e (by decide))⟩ (T2.zm (by kernel_rfl)) (by simp only[put_defers];exact hd)
   ·refine h.qc1 T zO (o:=r3o 3) (by kernel_rfl) (by kernel_rfl) zn (t:=23) (x:=19) (by kernel_rfl) (p:=.pointer (some ⟨bx,0,none⟩)) (v:=.pointer (some ⟨bc,0,none⟩)) ((show(zb bx al ks.length cap b2 b3 b5 j).eval (.tmp 19)=j 19 by kernel_rfl).trans (hR.h2 q)) (fun τ=>qxO (W:=qg w τ) ((cell ⟨bx,0,none⟩ hlx).trans hbx)) (fun K2 M2 v2 W2 g2 e2 T2=>?_);exact ih (3::D) K2 M2 (qi j 20 (.pointer (some ⟨bc,0,none⟩))) _ w W2 hok (g.trans g2) yO (hb.later T2.wr (le.trans g2.le) (fun _ _ _=>rfl)) ⟨fun e=>by rw[qT _ _ (by decide)];exact hR.h0 (qH e (by decide)),fun e=>by rw[qT _ _ (by decide)];exact hR.h1 (qH e (by decide)),fun e=>by rw[qT _ _ (by decide)];exact hR.h2 (qH e (by decide)),fun _=>ju _ _ _,fun e=>by rw[qT _ _ (by decide)];exact hR.h4 (qH e (by decide)),fun e=>by rw[qT _ _ (by decide)];exact hR.h6 (qH e (by decide))⟩ (T2.zm (by kernel_rfl)) (by simp only[put_defers];exact hd)
   ·refine h.qc1 T zO (o:=r3o 4) (by kernel_rfl) (by kernel_rfl) zn (t:=50) (x:=3) (by kernel_rfl) (p:=.pointer (some ⟨b3,0,none⟩)) (v:=.slice al ks.length cap) (by kernel_rfl) (fun τ=>qsS (W:=qg w τ) ((cell ⟨b3,0,none⟩ hl3).trans h3)) (fun K2 M2 v2 W2 g2 e2 T2=>?_);exact ih (4::D) K2 M2 (qi j 21 (.slice al ks.length cap)) _ w W2 hok (g.trans g2) yO (hb.later T2.wr (le.trans g2.le) (fun _ _ _=>rfl)) ⟨fun e=>by rw[qT _ _ (by decide)];exact hR.h0 (qH e (by decide)),fun e=>by rw[qT _ _ (by decide)];exact hR.h1 (qH e (by decide)),fun e=>by rw[qT _ _ (by decide)];exact hR.h2 (qH e (by decide)),fun e=>by rw[qT _ _ (by decide)];exact hR.h3 (qH e (by decide)),fun _=>ju _ _ _,fun e=>by rw[qT _ _ (by decide)];exact hR.h6 (qH e (by decide))⟩ (T2.zm (by kernel_rfl)) (by simp only[put_defers];exact hd)
   ·refine qmX T hd hb le qiB (fun K2 M2 a2 W2 g2 hb2 T2 hd2=>?_);exact ih (6::D) K2 M2 _ a2 _ W2 hok (g.trans g2) (yO.trans (qkE _ _)) hb2 ⟨fun e=>by rw[qT _ _ (by decide)];exact hR.h0 (qH e (by decide)),fun e=>by rw[qT _ _ (by decide)];exact hR.h1 (qH e (by decide)),fun e=>by rw[qT _ _ (by decide)];exact hR.h2 (qH e (by decide)),fun e=>by rw[qT _ _ (by decide)];exact hR.h3 (qH e (by decide)),fun e=>by rw[qT _ _ (by decide)];exact hR.h4 (qH e (by decide)),fun _=>⟨_,ju _ _ _,yO.size,qja⟩⟩ T2 hd2
end
end Sim
namespace Sim
open Go.Conc Go.RowKit
structure Xd(X bx bc:Nat)(st:Int)(sh:Bool)(lns:List Tm.Ln)(ms:Tm.QU)(al:Option Addr)(cap b2 b3 b5 b7 d0 d1 d2 d3:Nat)(S0:Nat->Prop)(wE:World)(s0:Qt)(S:Nat->Prop)(a5:Option Addr)(c5 i:Nat)(w:World):Prop where
 ix:Ix w X S bx bc st sh lns (jx (qe lns st sh) s0 (ms.take i))
 h2:w.cell? ⟨b2,0,none⟩=some (.pointer (some ⟨bx,0,none⟩))
 h3:w.cell? ⟨b3,0,none⟩=some (.slice al ms.length cap)
 h5:w.cell? ⟨b5,0,none⟩=some (.slice a5 i c5)
 f5:w.frozen? ⟨b5,0,none⟩=false
 l2:b2<w.heap.size
 l3:b3<w.heap.size
 l5:b5<w.heap.size
 l7:b7<w.heap.size
 h70:w.cell? ⟨b7,0,none⟩=some (.chan (some d0))
 h71:w.cell? ⟨b7,1,none⟩=some (.chan (some d1))
 h72:w.cell? ⟨b7,2,none⟩=some (.chan (some d2))
 h73:w.cell? ⟨b7,3,none⟩=some (.chan (some d3))
 own:w.ownsRow X 30 1 (.slice a5 i c5) i (jy (qe lns st sh) s0 (ms.take i))
 rd:0<ms.length->Reads w (.slice al ms.length cap) 2 ms.length (qY ms)
 n5:¬S b5
 n2:¬S b2
 n3:¬S b3
 n7:¬S b7
 vH:∀g,(Value.slice a5 i c5).ownBlock=some g->(¬S g/\g≠b5/\g≠b2/\g≠b3/\(0<ms.length->(Value.slice al ms.length cap).ownBlock≠some g))/\g≠b7/\wE.heap.size<=g
 qdW:0<ms.length->∀g,(Value.slice al ms.length cap).ownBlock=some g->g<wE.heap.size/\¬S0 g
 n25:b2≠b5
 n35:b3≠b5
 n75:b7≠b5
 e5:wE.heap.size<=b5
 eX:X<=wE.heap.size
 kept:Kept S0 wE w
 sub:∀j,S j->S0 j\/wE.heap.size<=j
section
variable {X bx bc:Nat}{st:Int}{sh:Bool}{lns:List Tm.Ln}{ms:Tm.QU}{al:Option Addr}{cap b2 b3 b5 b7 d0 d1 d2 d3:Nat}{S0:Nat->Prop}{wE:World}{s0:Qt}{S:Nat->Prop}{a5:Option Addr}{c5 i:Nat}{w:World}
theorem Xd.pre{w':World}(h:Xd X bx bc st sh lns ms al cap b2 b3 b5 b7 d0 d1 d2 d3 S0 wE s0 S a5 c5 i w)(p:Pre w w'):Xd X bx bc st sh lns ms al cap b2 b3 b5 b7 d0 d1 d2 d3 S0 wE s0 S a5 c5 i w':=by
 have k:Kept (fun _=>False) w w':=Kept.pre p;have hc:∀q:Addr,q.block<w.heap.size->w'.cell? q=w.cell? q:=fun q hq=>k.cell hq (fun e=>e);exact⟨k.ix h.ix (fun _ _ e=>e),(hc _ h.l2).trans h.h2,(hc _ h.l3).trans h.h3,(hc _ h.l5).trans h.h5,(k.frozen h.l5 (fun e=>e)).trans h.f5,Nat.lt_of_lt_of_le h.l2 p.size,Nat.lt_of_lt_of_le h.l3 p.size,Nat.lt_of_lt_of_le h.l5 p.size,Nat.lt_of_lt_of_le h.l7 p.size,(hc _ h.l7).trans h.h70,(hc _ h.l7).trans h.h71,(hc _ h.l7).trans h.h72,(hc _ h.l7).trans h.h73,k.owns h.own (fun _ _ e=>e),fun hp=>k.reads (h.rd hp) (fun _ _ e=>e),h.n5,h.n2,h.n3,h.n7,h.vH,h.qdW,h.n25,h.n35,h.n75,h.e5,h.eX,h.kept.trans k (fun _ e=>e.elim),h.sub⟩
theorem Xd.tape(h:Xd X bx bc st sh lns ms al cap b2 b3 b5 b7 d0 d1 d2 d3 S0 wE s0 S a5 c5 i w)(τ:Tape):Xd X bx bc st sh lns ms al cap b2 b3 b5 b7 d0 d1 d2 d3 S0 wE s0 S a5 c5 i (qg w τ):=h.pre ⟨Nat.le_refl _,fun _ _=>rfl⟩
theorem Xd.takes(h:Xd X bx bc st sh lns ms al cap b2 b3 b5 b7 d0 d1 d2 d3 S0 wE s0 S a5 c5 i w)(hi:i<ms.length)(hn:ms.length<=1048576)(qR:∀o∈lns,Tm.Fit o)(hok:Zt st lns)(τ:Tape) :
  Calls Tryz.prog 73 #[y8 lns st sh ms[i].1,.pointer (some ⟨b5,0,none⟩),.pointer (some ⟨b2,0,none⟩),.pointer (some ⟨b3,0,none⟩)] (qg w τ) (fun e w'=>∃v,e=.returned v/\v=.tuple #[]/\∃S' a9 c9,Xd X bx bc st sh lns ms al cap b2 b3 b5 b7 d0 d1 d2 d3 S0 wE s0 S' a9 c9 (i+1) w'):=by
 have h:=h.tape τ;generalize qg w τ=w at h
 have hp:0<ms.length:=by omega
 have hzE:=h.kept.size
 have nl:∀g,(Value.slice al ms.length cap).ownBlock=some g->¬S g/\g≠b5:=fun g hg=>by
  obtain⟨q1,q2⟩:=h.qdW hp g hg;have:=h.e5;exact⟨fun e=>(h.sub g e).elim q2 (fun x=>by omega),by omega⟩
 refine(quJ lns bc st sh X S bx _ ms b2 b3 b5 i c5 cap al a5 _ w qR hok h.ix (Nat.le_trans h.eX hzE) h.h2 h.h3 h.h5 h.f5 h.l2 h.l3 h.l5 h.own (h.rd hp) hi hn h.n5 h.n2 h.n3 (fun g hg=>let q:=(h.vH g hg).1;⟨q.1,q.2.1,q.2.2.1,q.2.2.2.1,q.2.2.2.2 hp⟩) nl h.n25 h.n35).mono ?_;rintro e w' ⟨rfl,S',a9,c9,q1,q2,q3,q4,q5,q6,q7⟩;refine⟨_,rfl,rfl,S',a9,c9,?_⟩
 have hT:∀j,(S j\/j=b5\/(Value.slice a5 i c5).ownBlock=some j)->S0 j\/wE.heap.size<=j:=fun j hj=>by
  rcases hj with e|e|e
  ·exact h.sub j e
  ·exact .inr (by rw[e];exact h.e5)
  ·exact .inr (h.vH j e).2.2
 have cell:∀q:Addr,q.block<w.heap.size->¬S q.block->q.block≠b5->(Value.slice a5 i c5).ownBlock≠some q.block->w'.cell? q=w.cell? q:=fun q hq n1 n2 n3=>q2.cell hq (fun e=>by
  rcases e with e|e|e
  ·exact n1 e
  ·exact n2 e
  ·exact n3 e)
 have old:∀b,b<w.heap.size->¬S b->¬S' b:=fun b hb hn e=>(q3 b e).elim hn (fun x=>by omega);have hz:=q2.size;have c7:∀o,w'.cell? ⟨b7,o,none⟩=w.cell? ⟨b7,o,none⟩:=fun o=>cell ⟨b7,o,none⟩ h.l7 h.n7 h.n75 (fun e=>(h.vH b7 e).2.1 rfl);refine⟨by rw[qgE ms i hi,qhB];exact q1,(cell ⟨b2,0,none⟩ h.l2 h.n2 h.n25 (fun e=>(h.vH b2 e).1.2.2.1 rfl)).trans h.h2,(cell ⟨b3,0,none⟩ h.l3 h.n3 h.n35 (fun e=>(h.vH b3 e).1.2.2.2.1 rfl)).trans h.h3,q4,q5,Nat.lt_of_lt_of_le h.l2 hz,Nat.lt_of_lt_of_le h.l3 hz,Nat.lt_of_lt_of_le h.l5 hz,Nat.lt_of_lt_of_le h.l7 hz,(c7 0).trans h.h70,(c7 1).trans h.h71,(c7 2).trans h.h72,(c7 3).trans h.h73,by rw[qgE ms i hi,qgD];exact q6,fun _=>?_,old b5 h.l5 h.n5,old b2 h.l2 h.n2,old b3 h.l3 h.n3,old b7 h.l7 h.n7,fun g hg=>?_,h.qdW,h.n25,h.n35,h.n75,h.e5,h.eX,h.kept.trans (Kept.of q2) hT,fun j hj=>?_⟩
 ·exact q2.reads (h.rd hp) (fun g hg e=>by
   rcases e with e|e|e
   ·exact(nl g hg).1 e
   ·exact(nl g hg).2 e
   ·exact(h.vH g e).1.2.2.2.2 hp hg)
 ·obtain⟨r1,r2,r3⟩:=q7 g hg;rcases r1 with r1|r1
  ·obtain⟨⟨_,x2,x3,x4,x5⟩,x6,x7⟩:=h.vH g r1;exact⟨⟨r2,r3,x3,x4,x5⟩,x6,x7⟩
  ·have y2:=h.l2;have y3:=h.l3;have y7:=h.l7;refine⟨⟨r2,r3,by omega,by omega,fun _ e=>?_⟩,by omega,by omega⟩;have:=(h.qdW hp g e).1;omega
 ·rcases q3 j hj with e|e
  ·exact h.sub j e
  ·exact .inr (by omega)
end
theorem qdX {P:Program} {a:Act} {o:Oper} {f:FuncId} {fn:Func} {x y:Nat} {ats:Array TypeId} {us:Array Value} {v:Value} (hop:o.op=.call {callee:=.value (.tmp x),args:=#[.tmp y],argTypes:=ats}) (hx:a.eval (.tmp x)=.func (.func f) #[] us) (hy:a.eval (.tmp y)=v) (hf:P.funcs[f]?=some fn) (hb:fn.body.isNone=false) (qc2:(fn.name == "runtime.NumGoroutine")=false) (W1:World) :
  (execOp a.eval o).run P W1=.ok (.enter f (#[v]++us)) W1/\(execOp a.eval o).events P W1 #[]=#[]:=by
 have h1:¬fn.name= "runtime.NumGoroutine" :=by simpa using qc2
 have e:execOp a.eval o=callFunc f (#[v]++us):=by
  unfold execOp;rw[hop];simp only[resolve,List.map_toArray,List.map_cons,List.map_nil,hx,hy];rfl
 have r:(callFunc f (#[v]++us)).runT P W1 #[]=(.ok (.enter f (#[v]++us)) W1,#[]):=by
  unfold callFunc;show(Sem.bind Go.program _).runT P W1 #[]=_;rw[Sem.runT_bind'];have e:(Go.program).runT P W1 #[]=(.ok P W1,#[]):=rfl;rw[e];dsimp only;rw[hf]
  cases hbo:fn.body with
  | none=>rw[hbo]at hb;cases hb
  | some c=>simp[h1,hbo]
 rw[e];exact⟨by rw[<-Sem.runT_fst P _ W1 #[],r],by show((callFunc f (#[v]++us)).runT P W1 #[]).2=_;rw[r]⟩
end Sim
namespace Sim
open Go.Conc Go.RowKit
noncomputable def qmY:Code:=match qmV with
 | .seq (.seq _ (.block _ (.loop c))) _=>c
 | _=>.skip
noncomputable def qj9:Code:=match qmY with
 | .seq _ (.seq _ (.seq (.block _ (.seq _ (.block _ (.loop c)))) _))=>c
 | _=>.skip
noncomputable def qka:Code:=match qmV with
 | .seq _ c=>c
 | _=>.skip
noncomputable def qmZ:Code:=match qka with
 | .seq (.seq _ (.block _ (.loop c))) _=>c
 | _=>.skip
noncomputable def qkb:Code:=match qmZ with
 | .seq _ (.seq _ (.seq (.block _ (.seq _ (.seq _ (.block _ (.loop c))))) _))=>c
 | _=>.skip
theorem qcx(lns:List Tm.Ln)(st:Int)(sh:Bool)(k:ByteArray):vg 9 (y8 lns st sh k)=true:=by unfold y8;split<;>rfl
def jN(dd:Nat->Nat):Value:=.agg #[.chan (some (dd 0)),.chan (some (dd 1)),.chan (some (dd 2)),.chan (some (dd 3))]
theorem qkF{P:Program}{Fs:FuncId->Bool}{Ro:Nat->Prop}{K:Kr}{M:Nat->Prop}{a a':Act}{w W:World}(T:Tie P Fs Ro K M a a' w W)(t:Nat){f:FuncId}{x y z:Value}(hv:a.eval (.tmp t)=.func (.func f) #[] #[x,y,z]):∃x' y' z',a'.eval (.tmp t)=.func (.func f) #[] #[x',y',z']/\VR K x x'/\VR K y y'/\VR K z z':=by
 have h:=T.slot t hv;generalize a'.eval (.tmp t)=q at h
 cases h with
 | func _ g _ ys _ vs e h1 h2 h3 h4 =>
  cases e
  have hy:ys=#[]:=by
   apply Array.eq_empty_of_size_eq_zero;rw[<-h1];rfl
  subst hy;obtain⟨l⟩:=vs
  match l,h3,h4 with
  | [x',y',z'],_,h4=>exact⟨x',y',z',rfl,h4 0 _ _ rfl rfl,h4 1 _ _ rfl rfl,h4 2 _ _ rfl rfl⟩
  | [],h3,_=>simp at h3
  | [_],h3,_=>simp at h3
  | [_,_],h3,_=>simp at h3
  | _::_::_::_::_,h3,_=>simp at h3
theorem qb4{a:Act}{o:Oper}{x c:Nat}{ok:Bool}(hop:o.op=.recv 152 (.tmp x) ok)(hx:a.eval (.tmp x)=.chan (some c))(W1:World) :
  (execOp a.eval o).run Tryz.prog W1=.ok (.comm #[rcase c (.agg #[.string ⟨#[]⟩,.int .i64 0])] true (.recv ok)) W1/\(execOp a.eval o).events Tryz.prog W1 #[]=#[]:=by
 unfold execOp;rw[hop];simp only[hx];exact⟨by kernel_rfl,by kernel_rfl⟩
section
variable {Ro:Nat->Prop}{Qk:Value->World->Prop}{k:List Item}{cs:List Frame}{X bx bc:Nat}{st:Int}{sh:Bool}{lns:List Tm.Ln}{ms:Tm.QU}{al:Option Addr}{cap b2 b3 b5 b7:Nat}{dd cc:Nat->Nat}{S0:Nat->Prop}{wE:World}{s0:Qt}
theorem quK{rem:Nat->List (Option Value)}{K:Kr}{M:Nat->Prop}{j:Nat->Value}{a':Act}{w W:World}{S:Nat->Prop}{a5:Option Addr}{c5 i jj:Nat}(hjj:jj=0\/jj=1\/jj=2\/jj=3)(hi:i<ms.length)(hn:ms.length<=1048576)(qR:∀o∈lns,Tm.Fit o)(hok:Zt st lns)
  (T:Tie Tryz.prog fs2 Ro K M (zb bx al ms.length cap b2 b3 b5 j) a' w W) (hd:a'.defers=[]) (j28:j 28=jN dd) (j29:j 29=.int .i64 jj) (L:Xd X bx bc st sh lns ms al cap b2 b3 b5 b7 (dd 0) (dd 1) (dd 2) (dd 3) S0 wE s0 S a5 c5 i w) (hB:K.B (dd jj) (cc jj)) (yp:rem (cc jj)=(ya (y8 lns st sh) (ms.map (·.1)) i).map some++[none])
  (next:∀(K2:Kr) (M2:Nat->Prop) (j2:Nat->Value) (a2:Act) (w2 W2:World) (S':Nat->Prop) (a9:Option Addr) (c9:Nat),Grown K M K2 M2->(j2 7=j 7/\j2 25=j 25/\j2 26=j 26/\j2 28=j 28)->j2 29=.int .i64 (jj+1:Nat)->Xd X bx bc st sh lns ms al cap b2 b3 b5 b7 (dd 0) (dd 1) (dd 2) (dd 3) S0 wE s0 S' a9 c9 (i+1) w2->Tie Tryz.prog fs2 Ro K2 M2 (zb bx al ms.length cap b2 b3 b5 j2) a2 w2 W2->a2.defers=[] ->
   Sc Tryz.prog Ro Qk none (upd rem (cc jj) ((ya (y8 lns st sh) (ms.map (·.1)) (i+4)).map some++[none])) M2 (G ((base 32).at a2 (.code qj9::.inLoop qj9::k)) cs) W2) :
  Sc Tryz.prog Ro Qk none rem M (G ((base 32).at a' (.code qj9::.inLoop qj9::k)) cs) W:=by
 have h:=yl Tryz.prog Ro Qk none rem
 have hJ:zb bx al ms.length cap b2 b3 b5 j=zb bx al ms.length cap b2 b3 b5 (qi (qi j 28 (jN dd)) 29 (.int .i64 jj)):=by rw[<-yI (j:=qi j 28 (jN dd)) (t:=29) (by rw[qT _ _ (by decide)];exact j29),<-yI j28]
 have T:=T.zm hJ;have hs:=qkD (plc:=y8 lns st sh) (ks:=ms.map (·.1)) (i:=i) (by simpa using hi)
 have quL:(ms.map (·.1))[i]'(by simpa using hi)=ms[i].1:=by simp
 rw[quL]at hs;refine h.seq T.lt ?_;refine h.region T.lt ?_;refine h.opM T zO rfl rfl zn rfl rfl (v:=.bool true) (wn:=w) (fun τ=>.inl (by rcases hjj with rfl|rfl|rfl|rfl<;>kernel_rfl)) (fun K1 M1 v1 W1 g1 e1 T1=>?_)
 refine h.qx T1.lt ?_;refine h.seq T1.lt ?_;refine h.cond T1.lt (T1.plain 30 (v:=.bool true) (by kernel_rfl) rfl) ?_;rw[if_pos rfl];refine h.skip T1.lt ?_;refine h.seq T1.lt ?_;refine h.block T1.lt ?_;refine h.seq T1.lt ?_;refine h.region T1.lt ?_;refine h.opM T1 zO rfl rfl zn rfl rfl (v:=.chan (some (dd jj))) (wn:=w) (fun τ=>.inl (by rcases hjj with rfl|rfl|rfl|rfl<;>kernel_rfl)) (fun K2 M2 v2 W2 g2 e2 T2=>?_)
 refine Way.move h T2 zO rfl rfl (.inr rfl) rfl (fun T3=>?_);refine h.qx T3.lt ?_;refine h.region T3.lt ?_;refine Way.move h T3 zO rfl rfl (.inl rfl) rfl (fun T4=>?_);refine Way.move h T4 zO rfl rfl (.inl rfl) rfl (fun T5=>?_);have gA:=g1.trans g2;have hBc:K2.B (dd jj) (cc jj):=gA.le.b _ _ hB;have f33:=T5.slot 33 (v:=.chan (some (dd jj))) (by kernel_rfl)
 have k33:∀z,VR K2 (.chan (some (dd jj))) z->z=.chan (some (cc jj)):=fun z hz=>by
  cases hz with
  | chan _ y hy=>rw[T5.wr.fn1 _ _ _ hy hBc]
 have e33:=k33 _ f33;refine qj7 T5 zO rfl rfl (c:=cc jj) (ok:=false) (z:=.agg #[.string ⟨#[]⟩,.int .i64 0]) (x:=some (y8 lns st sh ms[i].1)) (r:=(ya (y8 lns st sh) (ms.map (·.1)) (i+4)).map some++[none]) (by rw[yp,hs];rfl) (T5.km _ _ hBc) (fun W1=>(qb4 rfl e33 W1).1) (fun W1=>(qb4 rfl e33 W1).2) (jk _ 9 _ (qcl 9 _ (qcx lns st sh _))) (fun T6=>?_);have h2:=yl Tryz.prog Ro Qk none (upd rem (cc jj) ((ya (y8 lns st sh) (ms.map (·.1)) (i+4)).map some++[none]));obtain⟨x',y',z',e32,vx,vy,vz⟩:=qkF T6 32 (f:=73) (x:=.pointer (some ⟨b5,0,none⟩)) (y:=.pointer (some ⟨b2,0,none⟩)) (z:=.pointer (some ⟨b3,0,none⟩)) (by kernel_rfl);have e34:=T6.plain 34 (v:=y8 lns st sh ms[i].1) (by kernel_rfl) (qcx lns st sh _)
 refine Way.call h2 zn T6 zO rfl rfl (f:=73) (ys:=#[y8 lns st sh ms[i].1]++#[x',y',z']) (fun W1=>(qdX rfl e32 e34 Tryz.func73 rfl (by kernel_rfl) W1).1) (fun W1=>(qdX rfl e32 e34 Tryz.func73 rfl (by kernel_rfl) W1).2) (by kernel_rfl) ⟨_,Tryz.func73,rfl⟩ (xs:=#[y8 lns st sh ms[i].1,.pointer (some ⟨b5,0,none⟩),.pointer (some ⟨b2,0,none⟩),.pointer (some ⟨b3,0,none⟩)]) (by
  have q:=(AV.one (jk K2 9 _ (qcl 9 _ (qcx lns st sh ms[i].1)))).append (AV.three vx vy vz)
  simpa using q) (R:=fun v w'=>v=.tuple #[]/\∃S' a9 c9,Xd X bx bc st sh lns ms al cap b2 b3 b5 b7 (dd 0) (dd 1) (dd 2) (dd 3) S0 wE s0 S' a9 c9 (i+1) w') (fun τ=>L.takes hi hn qR hok τ) ?_
 rintro K7 M7 v v7 w7 W7 g7 ⟨rfl,S',a9,c9,L7⟩ hv7 T7;refine h2.qx T7.lt ?_;refine h2.inBlock T7.lt ?_;refine h2.region T7.lt ?_;refine h2.opM T7 zO rfl rfl zn rfl rfl (v:=.int .i64 (jj+1:Nat)) (wn:=w7) (fun τ=>.inl (by rcases hjj with rfl|rfl|rfl|rfl<;>kernel_rfl)) (fun K8 M8 v8 W8 g8 e8 T8=>?_)
 refine Way.move h2 T8 zO rfl rfl (.inl rfl) rfl (fun T9=>?_);refine h2.qx T9.lt ?_;refine h2.inLoop T9.lt ?_;refine next K8 M8 (qi (qi (qi (qi (qi (qi (qi (qi (qi (qi (qi j 28 (jN dd)) 29 (.int .i64 jj)) 30 (.bool true)) 31 (.chan (some (dd jj)))) 9 (.chan (some (dd jj)))) 32 (.func (.func 73) #[] #[.pointer (some ⟨b5,0,none⟩),.pointer (some ⟨b2,0,none⟩),.pointer (some ⟨b3,0,none⟩)])) 33 (.chan (some (dd jj)))) 34 (y8 lns st sh ms[i].1)) 35 (.tuple #[])) 36 (.int .i64 (jj+1:Nat))) 29 (.int .i64 (jj+1:Nat))) _ w7 W8 S' a9 c9 ((gA.trans g7).trans g8) ⟨?_,?_,?_,?_⟩ (ju _ _ _) L7 (T9.zm (by kernel_rfl)) (by simp only[put_defers];exact hd)
 ·simp[qi]
 ·simp[qi]
 ·simp[qi]
 ·simp[qi,j28]
end
end Sim
namespace Sim
open Go.Conc Go.RowKit
def nxt(i m:Nat):Nat:=i+(m+4-i % 4) % 4
structure Rm(cc:Nat->Nat)(plc:ByteArray->Value)(ks:List ByteArray)(i:Nat)(rem:Nat->List (Option Value)):Prop where
 line:∀m,m<4->rem (cc m)=(ya plc ks (nxt i m)).map some++[none]
 none_:∀c,(∀m,m<4->c≠cc m)->rem c=[]
theorem Rm.step{cc:Nat->Nat}{plc:ByteArray->Value}{ks:List ByteArray}{i:Nat}{rem:Nat->List (Option Value)}(h:Rm cc plc ks i rem)(inj:∀m m',m<4->m'<4->cc m=cc m'->m=m'){jj:Nat}(hj:jj=i % 4):Rm cc plc ks (i+1) (upd rem (cc jj) ((ya plc ks (i+4)).map some++[none])):=by
 refine⟨fun m hm=>?_,fun c hc=>?_⟩
 ·unfold upd;by_cases e:cc m=cc jj
  ·have:=inj m jj hm (by omega) e;rw[if_pos e]
   have e2:nxt (i+1) m=i+4:=by unfold nxt;omega
   rw[e2]
  ·rw[if_neg e,h.line m hm];have hne:m≠jj:=fun q=>e (by rw[q])
   have e2:nxt (i+1) m=nxt i m:=by unfold nxt;omega
   rw[e2]
 ·unfold upd;rw[if_neg (fun e=>hc jj (by omega) e)];exact h.none_ c hc
theorem qjb{b7:Nat}{W:World}{dd:Nat->Nat}(h0:W.cell? ⟨b7,0,none⟩=some (.chan (some (dd 0))))(h1:W.cell? ⟨b7,1,none⟩=some (.chan (some (dd 1))))(h2:W.cell? ⟨b7,2,none⟩=some (.chan (some (dd 2))))(h3:W.cell? ⟨b7,3,none⟩=some (.chan (some (dd 3)))) :
  (Instr.loadAt 154 (.pointer (some ⟨b7,0,none⟩))).run Tryz.prog W=.ok (jN dd) W:=by
 have e:(Instr.loadAt 154 (.pointer (some ⟨b7,0,none⟩))).run Tryz.prog W=((load ⟨b7,0,none⟩).bind fun x=>(load ⟨b7,1,none⟩).bind fun y=>(load ⟨b7,2,none⟩).bind fun z=>(load ⟨b7,3,none⟩).bind fun u=>Sem.pure (Value.agg #[x,y,z,u])).run Tryz.prog W:=by kernel_rfl
 rw[e]
 have k1:∀(p:Addr) (v:Value),W.cell? p=some v->(load p).run Tryz.prog W=.ok v W:=fun p v hx=>by simp[go_sem,hx]
 rw[Sem.run_bind',k1 _ _ h0];show((load ⟨b7,1,none⟩).bind _).run _ _=_;rw[Sem.run_bind',k1 _ _ h1];show((load ⟨b7,2,none⟩).bind _).run _ _=_;rw[Sem.run_bind',k1 _ _ h2];show((load ⟨b7,3,none⟩).bind _).run _ _=_;rw[Sem.run_bind',k1 _ _ h3];rfl
section
variable {Ro:Nat->Prop}{Qk:Value->World->Prop}{k:List Item}{cs:List Frame}{X bx bc:Nat}{st:Int}{sh:Bool}{lns:List Tm.Ln}{ms:Tm.QU}{al:Option Addr}{cap b2 b3 b5 b7:Nat}{dd cc:Nat->Nat}{S0:Nat->Prop}{wE:World}{s0:Qt}(hn:ms.length<=1048576)(qR:∀o∈lns,Tm.Fit o)(hok:Zt st lns)(inj:∀m m',m<4->m'<4->cc m=cc m'->m=m')
include hn qR hok inj
theorem qwK{r:Nat}(hr:4 * r+4<=ms.length):∀(m jj i:Nat) (rem:Nat->List (Option Value)) (K:Kr) (M:Nat->Prop) (j:Nat->Value) (a':Act) (w W:World) (S:Nat->Prop) (a5:Option Addr) (c5:Nat),m=4-jj->jj<=4->i=4 * r+jj ->
  Tie Tryz.prog fs2 Ro K M (zb bx al ms.length cap b2 b3 b5 j) a' w W->a'.defers=[]->j 28=jN dd->j 29=.int .i64 jj->Xd X bx bc st sh lns ms al cap b2 b3 b5 b7 (dd 0) (dd 1) (dd 2) (dd 3) S0 wE s0 S a5 c5 i w->(∀m,m<4->K.B (dd m) (cc m))->Rm cc (y8 lns st sh) (ms.map (·.1)) i rem ->
  (∀(qah:Nat->List (Option Value)) (K2:Kr) (M2:Nat->Prop) (j2:Nat->Value) (a2:Act) (w2 W2:World) (S':Nat->Prop) (a9:Option Addr) (c9:Nat),Grown K M K2 M2->(j2 7=j 7/\j2 25=j 25/\j2 26=j 26)->Xd X bx bc st sh lns ms al cap b2 b3 b5 b7 (dd 0) (dd 1) (dd 2) (dd 3) S0 wE s0 S' a9 c9 (4 * r+4) w2->Rm cc (y8 lns st sh) (ms.map (·.1)) (4 * r+4) qah->Tie Tryz.prog fs2 Ro K2 M2 (zb bx al ms.length cap b2 b3 b5 j2) a2 w2 W2->a2.defers=[] ->
   Sc Tryz.prog Ro Qk none qah M2 (G ((base 32).at a2 k) cs) W2) ->
  Sc Tryz.prog Ro Qk none rem M (G ((base 32).at a' (.code qj9::.inLoop qj9::.inBlock 2::k)) cs) W:=by
 intro m
 induction m with
 | zero =>
  intro jj i rem K M j a' w W S a5 c5 hm hj4 hi T hd j28 j29 L hB hR next
  have e4:jj=4:=by omega
  subst e4;subst hi;have h:=yl Tryz.prog Ro Qk none rem
  have hJ:zb bx al ms.length cap b2 b3 b5 j=zb bx al ms.length cap b2 b3 b5 (qi j 29 (.int .i64 (4:Nat))):=by rw[<-yI j29]
  have T:=T.zm hJ;refine h.seq T.lt ?_;refine h.region T.lt ?_;refine h.opM T zO rfl rfl zn rfl rfl (v:=.bool false) (wn:=w) (fun τ=>.inl (by kernel_rfl)) (fun K1 M1 v1 W1 g1 e1 T1=>?_);refine h.qx T1.lt ?_;refine h.seq T1.lt ?_;refine h.cond T1.lt (T1.plain 30 (v:=.bool false) (by kernel_rfl) rfl) ?_;rw[if_neg (by nofun)];refine h.exit T1.lt (k':=k) rfl ?_;exact next rem K1 M1 (qi (qi j 29 (.int .i64 (4:Nat))) 30 (.bool false)) _ w W1 S a5 c5 g1 ⟨by simp[qi],by simp[qi],by simp[qi]⟩ L hR (T1.zm (by kernel_rfl)) (by simp only[put_defers];exact hd)
 | succ m ih =>
  intro jj i rem K M j a' w W S a5 c5 hm hj4 hi T hd j28 j29 L hB hR next
  have hj:jj<4:=by omega
  refine quK (cc:=cc) (by omega) (by omega) hn qR hok T hd j28 j29 L (hB jj hj) (by
                                                rw[hR.line jj hj];have:nxt i jj=i:=by unfold nxt;omega
                                                rw[this]) (fun K2 M2 j2 a2 w2 W2 S' a9 c9 g2 hJ2 qAd L2 T2 hd2=>?_)
  refine ih (jj+1) (i+1) _ K2 M2 j2 a2 w2 W2 S' a9 c9 (by omega) (by omega) (by omega) T2 hd2 (hJ2.2.2.2.trans j28) qAd L2 (fun m hm=>g2.le.b _ _ (hB m hm)) (hR.step inj (by omega)) (fun qAe K3 M3 j3 a3 w3 W3 S3 a93 c93 g3 hJ3 L3 hR3 T3 hd3=>?_);exact next qAe K3 M3 j3 a3 w3 W3 S3 a93 c93 (g2.trans g3) ⟨hJ3.1.trans hJ2.1,hJ3.2.1.trans hJ2.2.1,hJ3.2.2.trans hJ2.2.2.1⟩ L3 hR3 T3 hd3
end
end Sim
namespace Sim
open Go.Conc Go.RowKit
theorem quM{r:Nat}(hr:r<=1048576):IntKind.i64.wrap ((r:Int)+1)=((r+1:Nat):Int):=by
 rw[IntWalk.i64_in _ (by omega)];omega
section
variable {Ro:Nat->Prop}{Qk:Value->World->Prop}{k:List Item}{cs:List Frame}{X bx bc:Nat}{st:Int}{sh:Bool}{lns:List Tm.Ln}{ms:Tm.QU}{al:Option Addr}{cap b2 b3 b5 b7:Nat}{dd cc:Nat->Nat}{S0:Nat->Prop}{wE:World}{s0:Qt}(hn:ms.length<=1048576)(qR:∀o∈lns,Tm.Fit o)(hok:Zt st lns)(inj:∀m m',m<4->m'<4->cc m=cc m'->m=m')
include hn qR hok inj
theorem quN{q:Nat}(hq:q=ms.length / 4):∀(m r:Nat) (rem:Nat->List (Option Value)) (K:Kr) (M:Nat->Prop) (j:Nat->Value) (a':Act) (w W:World) (S:Nat->Prop) (a5:Option Addr) (c5:Nat),m=q-r->r<=q ->
  Tie Tryz.prog fs2 Ro K M (zb bx al ms.length cap b2 b3 b5 j) a' w W->a'.defers=[]->j 7=.pointer (some ⟨b7,0,none⟩)->j 25=.int .i64 q->j 26=.int .i64 r->Xd X bx bc st sh lns ms al cap b2 b3 b5 b7 (dd 0) (dd 1) (dd 2) (dd 3) S0 wE s0 S a5 c5 (4 * r) w->(∀m,m<4->K.B (dd m) (cc m))->Rm cc (y8 lns st sh) (ms.map (·.1)) (4 * r) rem ->
  (∀(qah:Nat->List (Option Value)) (K2:Kr) (M2:Nat->Prop) (j2:Nat->Value) (a2:Act) (w2 W2:World) (S':Nat->Prop) (a9:Option Addr) (c9:Nat),Grown K M K2 M2->j2 7=.pointer (some ⟨b7,0,none⟩)->Xd X bx bc st sh lns ms al cap b2 b3 b5 b7 (dd 0) (dd 1) (dd 2) (dd 3) S0 wE s0 S' a9 c9 (4 * q) w2->Rm cc (y8 lns st sh) (ms.map (·.1)) (4 * q) qah->Tie Tryz.prog fs2 Ro K2 M2 (zb bx al ms.length cap b2 b3 b5 j2) a2 w2 W2->a2.defers=[] ->
   Sc Tryz.prog Ro Qk none qah M2 (G ((base 32).at a2 k) cs) W2) ->
  Sc Tryz.prog Ro Qk none rem M (G ((base 32).at a' (.code qmY::.inLoop qmY::.inBlock 0::k)) cs) W:=by
 intro m
 induction m with
 | zero =>
  intro r rem K M j a' w W S a5 c5 hm hrq T hd j7 j25 j26 L hB hR next
  have e4:r=q:=by omega
  subst e4;have h:=yl Tryz.prog Ro Qk none rem
  have hJ:zb bx al ms.length cap b2 b3 b5 j=zb bx al ms.length cap b2 b3 b5 (qi (qi j 25 (.int .i64 r)) 26 (.int .i64 r)):=by rw[<-yI (j:=qi j 25 (.int .i64 r)) (t:=26) (by rw[qT _ _ (by decide)];exact j26),<-yI j25]
  have T:=T.zm hJ;refine h.seq T.lt ?_;refine h.region T.lt ?_;refine h.opM T zO rfl rfl zn rfl rfl (v:=.bool (decide ((r:Int)<(r:Int)))) (wn:=w) (fun τ=>.inl (by kernel_rfl)) (fun K1 M1 v1 W1 g1 e1 T1=>?_);rw[show decide ((r:Int)<(r:Int))=false by simp]at T1;refine h.qx T1.lt ?_;refine h.seq T1.lt ?_;refine h.cond T1.lt (T1.plain 27 (v:=.bool false) (by kernel_rfl) rfl) ?_;rw[if_neg (by nofun)];refine h.exit T1.lt (k':=k) rfl ?_;exact next rem K1 M1 (qi (qi (qi j 25 (.int .i64 r)) 26 (.int .i64 r)) 27 (.bool false)) _ w W1 S a5 c5 g1 (by simp[qi,j7]) L hR (T1.zm (by kernel_rfl)) (by simp only[put_defers];exact hd)
 | succ m ih =>
  intro r rem K M j a' w W S a5 c5 hm hrq T hd j7 j25 j26 L hB hR next
  have hlt:r<q:=by omega
  have h:=yl Tryz.prog Ro Qk none rem
  have hJ:zb bx al ms.length cap b2 b3 b5 j=zb bx al ms.length cap b2 b3 b5 (qi (qi (qi j 7 (.pointer (some ⟨b7,0,none⟩))) 25 (.int .i64 q)) 26 (.int .i64 r)):=by rw[<-yI (j:=qi (qi j 7 (.pointer (some ⟨b7,0,none⟩))) 25 (.int .i64 q)) (t:=26) (by rw[qT _ _ (by decide),qT _ _ (by decide)];exact j26),<-yI (j:=qi j 7 (.pointer (some ⟨b7,0,none⟩))) (t:=25) (by rw[qT _ _ (by decide)];exact j25),<-yI j7]
  have T:=T.zm hJ;refine h.seq T.lt ?_;refine h.region T.lt ?_;refine h.opM T zO rfl rfl zn rfl rfl (v:=.bool (decide ((r:Int)<(q:Int)))) (wn:=w) (fun τ=>.inl (by kernel_rfl)) (fun K1 M1 v1 W1 g1 e1 T1=>?_);rw[show decide ((r:Int)<(q:Int))=true by simpa using hlt]at T1;refine h.qx T1.lt ?_;refine h.seq T1.lt ?_;refine h.cond T1.lt (T1.plain 27 (v:=.bool true) (by kernel_rfl) rfl) ?_;rw[if_pos rfl];refine h.skip T1.lt ?_;refine h.seq T1.lt ?_;refine h.block T1.lt ?_;refine h.seq T1.lt ?_;refine h.region T1.lt ?_;refine h.qc1 T1 zO rfl rfl zn (t:=154) (x:=7) rfl (p:=.pointer (some ⟨b7,0,none⟩)) (v:=jN dd) (by kernel_rfl) (fun τ=>qjb (W:=qg w τ) L.h70 L.h71 L.h72 L.h73) (fun K2 M2 v2 W2 g2 e2 T2=>?_);refine Way.move h T2 zO rfl rfl (.inl rfl) rfl (fun T3=>?_);refine h.qx T3.lt ?_;refine h.block T3.lt ?_;refine h.loop T3.lt ?_;have gA:=g1.trans g2;refine qwK hn qR hok inj (r:=r) (by omega) 4 0 (4 * r) rem K2 M2 (qi (qi (qi (qi (qi (qi j 7 (.pointer (some ⟨b7,0,none⟩))) 25 (.int .i64 q)) 26 (.int .i64 r)) 27 (.bool true)) 28 (jN dd)) 29 (.int .i64 (0:Nat))) _ w W2 S a5 c5 rfl (by omega) rfl (T3.zm (by kernel_rfl)) (by simp only[put_defers];exact hd) (by simp[qi]) (by simp[qi]) L (fun m hm=>gA.le.b _ _ (hB m hm)) hR (fun qcL K4 M4 j4 a4 w4 W4 S4 a94 c94 g4 hJ4 L4 hR4 T4 hd4=>?_);have h4:=yl Tryz.prog Ro Qk none qcL;have q7:j4 7=.pointer (some ⟨b7,0,none⟩):=hJ4.1.trans (by simp[qi]);have q25:j4 25=.int .i64 q:=hJ4.2.1.trans (by simp[qi]);have q26:j4 26=.int .i64 r:=hJ4.2.2.trans (by simp[qi]);have T4:=T4.zm (b:=zb bx al ms.length cap b2 b3 b5 (qi j4 26 (.int .i64 r))) (by rw[<-yI q26]);refine h4.inBlock T4.lt ?_;refine h4.region T4.lt ?_;refine h4.opM T4 zO rfl rfl zn rfl rfl (v:=.int .i64 (IntKind.i64.wrap ((r:Int)+1))) (wn:=w4) (fun τ=>.inl (by kernel_rfl)) (fun K5 M5 v5 W5 g5 e5 T5=>?_);rw[quM (show r<=1048576 by omega)]at T5;refine Way.move h4 T5 zO rfl rfl (.inl rfl) rfl (fun T6=>?_);refine h4.qx T6.lt ?_;refine h4.inLoop T6.lt ?_;have gB:=(gA.trans g4).trans g5;refine ih (r+1) qcL K5 M5 (qi (qi (qi j4 26 (.int .i64 r)) 37 (.int .i64 (r+1:Nat))) 26 (.int .i64 (r+1:Nat))) _ w4 W5 S4 a94 c94 (by omega) (by omega) (T6.zm (by kernel_rfl)) (by simp only[put_defers];exact hd4) (by simp[qi,q7]) (by simp[qi,q25]) (by simp[qi]) (by rw[show 4 * (r+1)=4 * r+4 by omega];exact L4) (fun m hm=>gB.le.b _ _ (hB m hm)) (by rw[show 4 * (r+1)=4 * r+4 by omega];exact hR4) (fun qkc K7 M7 j7' a7 w7 W7 S7 a97 c97 g7 y7 L7 hR7 T7 hd7=>?_);exact next qkc K7 M7 j7' a7 w7 W7 S7 a97 c97 (gB.trans g7) y7 L7 hR7 T7 hd7
end
end Sim
namespace Sim
open Go.Conc Go.RowKit
theorem quO(lns:List Tm.Ln)(st:Int)(sh:Bool)(k:ByteArray):∃p er,y8 lns st sh k=.agg #[.string p,.int .i64 er]:=by
 unfold y8;by_cases h:k.size<=64
 ·exact⟨_,_,by rw[if_pos h]⟩
 ·exact⟨_,_,by rw[if_neg h]⟩
theorem qlk{b:Nat}{W:World}{p:ByteArray}{er:Int}{x y:Value}(h0:W.cell? ⟨b,0,none⟩=some x)(h1:W.cell? ⟨b,1,none⟩=some y)(hf:∀q,W.frozen? ⟨b,q,none⟩=false) :
  (Instr.storeAt 149 (.pointer (some ⟨b,0,none⟩)) (.agg #[.string p,.int .i64 er])).run Tryz.prog W=.ok () ((W.setCell ⟨b,0,none⟩ (.string p)).setCell ⟨b,1,none⟩ (.int .i64 er)):=by
 have e:(Instr.storeAt 149 (.pointer (some ⟨b,0,none⟩)) (.agg #[.string p,.int .i64 er])).run Tryz.prog W=((store ⟨b,0,none⟩ (.string p)).bind fun _=>(store ⟨b,1,none⟩ (.int .i64 er)).bind fun _=>Sem.pure ()).run Tryz.prog W:=by kernel_rfl
 rw[e]
 have k0:(store ⟨b,0,none⟩ (.string p)).run Tryz.prog W=.ok () (W.setCell ⟨b,0,none⟩ (.string p)):=by simp[go_sem,h0,hf 0]
 have s1:(W.setCell ⟨b,0,none⟩ (.string p)).cell? ⟨b,1,none⟩=some y:=by rw[World.cell?_setCell_other _ _ _ _ (by simp)];exact h1
 have f1:(W.setCell ⟨b,0,none⟩ (.string p)).frozen? ⟨b,1,none⟩=false:=by rw[World.frozen?_setCell];exact hf 1
 generalize W.setCell ⟨b,0,none⟩ (.string p)=V at k0 s1 f1
 have k1:(store ⟨b,1,none⟩ (.int .i64 er)).run Tryz.prog V=.ok () (V.setCell ⟨b,1,none⟩ (.int .i64 er)):=by simp[go_sem,s1,f1]
 rw[Sem.run_bind',k0];show((store ⟨b,1,none⟩ (.int .i64 er)).bind _).run _ _=_;rw[Sem.run_bind',k1];rfl
theorem qm0{b:Nat}{W:World}{x y:Value}(h0:W.cell? ⟨b,0,none⟩=some x)(h1:W.cell? ⟨b,1,none⟩=some y) :
  (Instr.loadAt 149 (.pointer (some ⟨b,0,none⟩))).run Tryz.prog W=.ok (.agg #[x,y]) W:=by
 have e:(Instr.loadAt 149 (.pointer (some ⟨b,0,none⟩))).run Tryz.prog W=((load ⟨b,0,none⟩).bind fun x=>(load ⟨b,1,none⟩).bind fun y=>Sem.pure (Value.agg #[x,y])).run Tryz.prog W:=by kernel_rfl
 rw[e]
 have k1:∀(p:Addr) (v:Value),W.cell? p=some v->(load p).run Tryz.prog W=.ok v W:=fun p v hx=>by simp[go_sem,hx]
 rw[Sem.run_bind',k1 _ _ h0];show((load ⟨b,1,none⟩).bind _).run _ _=_;rw[Sem.run_bind',k1 _ _ h1];rfl
section
variable {Ro:Nat->Prop}{Qk:Value->World->Prop}{k:List Item}{cs:List Frame}{X bx bc:Nat}{st:Int}{sh:Bool}{lns:List Tm.Ln}{ms:Tm.QU}{al:Option Addr}{cap b2 b3 b5 b7:Nat}{dd cc:Nat->Nat}{S0:Nat->Prop}{wE:World}{s0:Qt}
variable {rem:Nat->List (Option Value)}{M:Nat->Prop}{j:Nat->Value}
theorem qsT{K:Kr}{a':Act}{w W:World}{d c:Nat}(T:Tie Tryz.prog fs2 Ro K M (zb bx al ms.length cap b2 b3 b5 j) a' w W)(hd:a'.defers=[])(j42:j 42=.chan (some d))(hB:K.B d c)(yp:rem c=[none])
  (next:∀(K2:Kr) (M2:Nat->Prop) (j2:Nat->Value) (a2:Act) (W2:World),Grown K M K2 M2->(j2 7=j 7/\j2 38=j 38/\j2 39=j 39)->Tie Tryz.prog fs2 Ro K2 M2 (zb bx al ms.length cap b2 b3 b5 j2) a2 w W2->a2.defers=[] ->
   Sc Tryz.prog Ro Qk none (upd rem c []) M2 (G ((base 32).at a2 k) cs) W2) :
  Sc Tryz.prog Ro Qk none rem M (G ((base 32).at a' (.code qkb::.inLoop qkb::.inBlock 6::k)) cs) W:=by
 have h:=yl Tryz.prog Ro Qk none rem;have T:=T.zm (b:=zb bx al ms.length cap b2 b3 b5 (qi j 42 (.chan (some d)))) (by rw[<-yI j42]);refine h.seq T.lt ?_;refine h.region T.lt ?_;have f42:=T.slot 42 (v:=.chan (some d)) (by kernel_rfl)
 have k42:∀z,VR K (.chan (some d)) z->z=.chan (some c):=fun z hz=>by
  cases hz with
  | chan _ y hy=>rw[T.wr.fn1 _ _ _ hy hB]
 have e42:=k42 _ f42;refine qj7 T zO rfl rfl (c:=c) (ok:=true) (z:=.agg #[.string ⟨#[]⟩,.int .i64 0]) (x:=none) (r:=[]) yp (T.km _ _ hB) (fun W1=>(qb4 rfl e42 W1).1) (fun W1=>(qb4 rfl e42 W1).2) (jk _ 9 _ rfl) (fun T6=>?_);have h2:=yl Tryz.prog Ro Qk none (upd rem c []);refine h2.opM T6 zO rfl rfl zn rfl rfl (v:=.bool false) (wn:=w) (fun τ=>.inl (by kernel_rfl)) (fun K1 M1 v1 W1 g1 e1 T1=>?_);refine h2.qx T1.lt ?_;refine h2.seq T1.lt ?_;refine h2.cond T1.lt (T1.plain 44 (v:=.bool false) (by kernel_rfl) rfl) ?_;rw[if_neg (by nofun)];refine h2.exit T1.lt (k':=k) rfl ?_;exact next K1 M1 (qi (qi (qi j 42 (.chan (some d))) 43 (.tuple #[.agg #[.string ⟨#[]⟩,.int .i64 0],.bool false])) 44 (.bool false)) _ W1 g1 ⟨by simp[qi],by simp[qi],by simp[qi]⟩ (T1.zm (by kernel_rfl)) (by simp only[put_defers];exact hd)
theorem qwL{K:Kr}{a':Act}{w W:World}{d c:Nat}{S:Nat->Prop}{a5:Option Addr}{c5 i:Nat}{rr:List (Option Value)}(hi:i<ms.length)(hn:ms.length<=1048576)(qR:∀o∈lns,Tm.Fit o)(hok:Zt st lns)(T:Tie Tryz.prog fs2 Ro K M (zb bx al ms.length cap b2 b3 b5 j) a' w W)(hd:a'.defers=[])(j42:j 42=.chan (some d))(hB:K.B d c)(yp:rem c=some (y8 lns st sh ms[i].1)::rr)(L:Xd X bx bc st sh lns ms al cap b2 b3 b5 b7 (dd 0) (dd 1) (dd 2) (dd 3) S0 wE s0 S a5 c5 i w)
  (next:∀(K2:Kr) (M2:Nat->Prop) (j2:Nat->Value) (a2:Act) (w2 W2:World) (S':Nat->Prop) (a9:Option Addr) (c9:Nat),Grown K M K2 M2->(j2 7=j 7/\j2 38=j 38/\j2 39=j 39/\j2 42=j 42)->Xd X bx bc st sh lns ms al cap b2 b3 b5 b7 (dd 0) (dd 1) (dd 2) (dd 3) S0 wE s0 S' a9 c9 (i+1) w2->Tie Tryz.prog fs2 Ro K2 M2 (zb bx al ms.length cap b2 b3 b5 j2) a2 w2 W2->a2.defers=[] ->
   Sc Tryz.prog Ro Qk none (upd rem c rr) M2 (G ((base 32).at a2 (.code qkb::.inLoop qkb::k)) cs) W2) :
  Sc Tryz.prog Ro Qk none rem M (G ((base 32).at a' (.code qkb::.inLoop qkb::k)) cs) W:=by
 have h:=yl Tryz.prog Ro Qk none rem;have T:=T.zm (b:=zb bx al ms.length cap b2 b3 b5 (qi j 42 (.chan (some d)))) (by rw[<-yI j42]);obtain⟨p,er,hp⟩:=quO lns st sh ms[i].1;have qAf:=qcx lns st sh ms[i].1;have htk:=fun w1 (L1:Xd X bx bc st sh lns ms al cap b2 b3 b5 b7 (dd 0) (dd 1) (dd 2) (dd 3) S0 wE s0 S a5 c5 i w1) τ=>L1.takes hi hn qR hok τ;rw[hp]at yp qAf;simp only[hp]at htk;refine h.seq T.lt ?_;refine h.region T.lt ?_;have f42:=T.slot 42 (v:=.chan (some d)) (by kernel_rfl)
 have k42:∀z,VR K (.chan (some d)) z->z=.chan (some c):=fun z hz=>by
  cases hz with
  | chan _ y hy=>rw[T.wr.fn1 _ _ _ hy hB]
 have e42:=k42 _ f42;refine qj7 T zO rfl rfl (c:=c) (ok:=true) (z:=.agg #[.string ⟨#[]⟩,.int .i64 0]) (x:=some (.agg #[.string p,.int .i64 er])) (r:=rr) yp (T.km _ _ hB) (fun W1=>(qb4 rfl e42 W1).1) (fun W1=>(qb4 rfl e42 W1).2) (jk _ 9 _ rfl) (fun T6=>?_);have h2:=yl Tryz.prog Ro Qk none (upd rem c rr);refine h2.opM T6 zO rfl rfl zn rfl rfl (v:=.bool true) (wn:=w) (fun τ=>.inl (by kernel_rfl)) (fun K1 M1 v1 W1 g1 e1 T1=>?_);refine h2.qx T1.lt ?_;refine h2.seq T1.lt ?_;refine h2.cond T1.lt (T1.plain 44 (v:=.bool true) (by kernel_rfl) rfl) ?_;rw[if_pos rfl];refine h2.skip T1.lt ?_;refine h2.block T1.lt ?_;refine h2.seq T1.lt ?_;refine h2.region T1.lt ?_;refine h2.opM T1 zO rfl rfl zn rfl rfl (v:=.agg #[.string p,.int .i64 er]) (wn:=w) (fun τ=>.inl (by kernel_rfl)) (fun K2 M2 v2 W2 g2 e2 T2=>?_);obtain⟨wA,hwA⟩:∃wA,w.alloc (.cells #[.string ⟨#[]⟩,.int .i64 0] 149)=wA:=⟨_,rfl⟩
 refine h2.opM T2 zO rfl rfl zn rfl rfl (v:=.pointer (some ⟨w.heap.size,0,none⟩)) (wn:=wA) (fun τ=>.inl (by rw[<-hwA];kernel_rfl)) (fun K3 M3 v3 W3 g3 e3 T3=>?_)
 have a0:wA.cell? ⟨w.heap.size,0,none⟩=some (.string ⟨#[]⟩):=by rw[<-hwA,ql rfl];rfl
 have a1:wA.cell? ⟨w.heap.size,1,none⟩=some (.int .i64 0):=by rw[<-hwA,ql rfl];rfl
 have af:∀q,wA.frozen? ⟨w.heap.size,q,none⟩=false:=fun q=>by rw[<-hwA,zx rfl]
 obtain⟨wB,hwB⟩:∃wB,(wA.setCell ⟨w.heap.size,0,none⟩ (.string p)).setCell ⟨w.heap.size,1,none⟩ (.int .i64 er)=wB:=⟨_,rfl⟩
 refine h2.qmQ T3 zO rfl rfl zn (t:=149) (x:=12) (y:=45) rfl rfl (p:=.pointer (some ⟨w.heap.size,0,none⟩)) (v:=.agg #[.string p,.int .i64 er]) (wn:=wB) (by kernel_rfl) (by kernel_rfl) (fun τ=>?_) (fun K4 M4 W4 g4 T4=>?_)
 ·rw[qlk (W:=qg wA τ) a0 a1 af,<-hwB];rfl
 have s1:(wA.setCell ⟨w.heap.size,0,none⟩ (.string p)).cell? ⟨w.heap.size,1,none⟩=some (.int .i64 0):=by rw[World.cell?_setCell_other _ _ _ _ (by simp)];exact a1
 have b0:wB.cell? ⟨w.heap.size,0,none⟩=some (.string p):=by rw[<-hwB,World.cell?_setCell_other _ _ _ _ (by simp)];exact World.cell?_setCell_same _ _ _ a0
 have b1:wB.cell? ⟨w.heap.size,1,none⟩=some (.int .i64 er):=by rw[<-hwB];exact World.cell?_setCell_same _ _ _ s1
 have hpB:Pre w wB:=⟨by rw[<-hwB,<-hwA];simp[World.setCell],fun x hx=>by rw[<-hwB,Below.heap_setCell _ _ _ _ (by show x≠w.heap.size;omega),Below.heap_setCell _ _ _ _ (by show x≠w.heap.size;omega),<-hwA];exact Below.heap_alloc _ _ _ hx⟩
 refine h2.qx T4.lt ?_;refine h2.region T4.lt ?_;refine Way.move h2 T4 zO rfl rfl (.inl rfl) rfl (fun T5=>?_);refine h2.qc1 T5 zO rfl rfl zn (t:=149) (x:=12) rfl (p:=.pointer (some ⟨w.heap.size,0,none⟩)) (v:=.agg #[.string p,.int .i64 er]) (by kernel_rfl) (fun τ=>qm0 (W:=qg wB τ) b0 b1) (fun K7 M7 v7 W7 g7 e7 T7=>?_);obtain⟨x',y',z',e46,vx,vy,vz⟩:=qkF T7 46 (f:=73) (x:=.pointer (some ⟨b5,0,none⟩)) (y:=.pointer (some ⟨b2,0,none⟩)) (z:=.pointer (some ⟨b3,0,none⟩)) (by kernel_rfl);have e47:=T7.plain 47 (v:=.agg #[.string p,.int .i64 er]) (by kernel_rfl) rfl
 refine Way.call h2 zn T7 zO rfl rfl (f:=73) (ys:=#[.agg #[.string p,.int .i64 er]]++#[x',y',z']) (fun W1=>(qdX rfl e46 e47 Tryz.func73 rfl (by kernel_rfl) W1).1) (fun W1=>(qdX rfl e46 e47 Tryz.func73 rfl (by kernel_rfl) W1).2) (by kernel_rfl) ⟨_,Tryz.func73,rfl⟩ (xs:=#[.agg #[.string p,.int .i64 er],.pointer (some ⟨b5,0,none⟩),.pointer (some ⟨b2,0,none⟩),.pointer (some ⟨b3,0,none⟩)]) (by
  have q:=(AV.one (jk K7 9 (.agg #[.string p,.int .i64 er]) rfl)).append (AV.three vx vy vz)
  simpa using q) (R:=fun v w'=>v=.tuple #[]/\∃S' a9 c9,Xd X bx bc st sh lns ms al cap b2 b3 b5 b7 (dd 0) (dd 1) (dd 2) (dd 3) S0 wE s0 S' a9 c9 (i+1) w') (fun τ=>htk wB (L.pre hpB) τ) ?_
 rintro K8 M8 v v8 w8 W8 g8 ⟨rfl,S',a9,c9,L8⟩ hv8 T8;refine h2.qx T8.lt ?_;refine h2.inBlock T8.lt ?_;refine h2.inLoop T8.lt ?_;have gA:=((((g1.trans g2).trans g3).trans g4).trans g7).trans g8;refine next K8 M8 (qi (qi (qi (qi (qi (qi (qi (qi (qi j 42 (.chan (some d))) 43 (.tuple #[.agg #[.string p,.int .i64 er],.bool true])) 44 (.bool true)) 45 (.agg #[.string p,.int .i64 er])) 12 (.pointer (some ⟨w.heap.size,0,none⟩))) 46 (.func (.func 73) #[] #[.pointer (some ⟨b5,0,none⟩),.pointer (some ⟨b2,0,none⟩),.pointer (some ⟨b3,0,none⟩)])) 47 (.agg #[.string p,.int .i64 er])) 48 (.tuple #[])) 48 (.tuple #[])) _ w8 W8 S' a9 c9 gA ⟨by simp[qi],by simp[qi],by simp[qi],by simp[qi,j42]⟩ L8 (T8.zm (by kernel_rfl)) (by simp only[put_defers];exact hd)
end
end Sim
namespace Sim
open Go.Conc Go.RowKit
structure Rl(cc:Nat->Nat)(plc:ByteArray->Value)(ks:List ByteArray)(q jj:Nat)(rem:Nat->List (Option Value)):Prop where
 line:∀m,m<4->jj<=m->rem (cc m)=(ya plc ks (4 * q+m)).map some++[none]
 done:∀m,m<4->m<jj->rem (cc m)=[]
 none_:∀c,(∀m,m<4->c≠cc m)->rem c=[]
theorem Rl.step{cc:Nat->Nat}{plc:ByteArray->Value}{ks:List ByteArray}{q jj:Nat}{rem qah:Nat->List (Option Value)}(h:Rl cc plc ks q jj rem)(inj:∀m m',m<4->m'<4->cc m=cc m'->m=m')(hj:jj<4)(h0:qah (cc jj)=[])(ho:∀c,c≠cc jj->qah c=rem c):Rl cc plc ks q (jj+1) qah:=by
 refine⟨fun m hm hjm=>?_,fun m hm hjm=>?_,fun c hc=>?_⟩
 ·rw[ho (cc m) (fun e=>by have:=inj m jj hm hj e;omega)];exact h.line m hm (by omega)
 ·by_cases e:m=jj
  ·subst e;exact h0
  ·rw[ho (cc m) (fun e'=>e (inj m jj hm hj e'))];exact h.done m hm (by omega)
 ·rw[ho c (hc jj hj)];exact h.none_ c hc
section
variable {Ro:Nat->Prop}{Qk:Value->World->Prop}{k:List Item}{cs:List Frame}{X bx bc:Nat}{st:Int}{sh:Bool}{lns:List Tm.Ln}{ms:Tm.QU}{al:Option Addr}{cap b2 b3 b5 b7:Nat}{dd cc:Nat->Nat}{S0:Nat->Prop}{wE:World}{s0:Qt}(hn:ms.length<=1048576)(qR:∀o∈lns,Tm.Fit o)(hok:Zt st lns)(inj:∀m m',m<4->m'<4->cc m=cc m'->m=m')
include hn qR hok inj
theorem qsU{q:Nat}(hq:q=ms.length / 4):∀(m jj:Nat) (rem:Nat->List (Option Value)) (K:Kr) (M:Nat->Prop) (j:Nat->Value) (a':Act) (w W:World) (S:Nat->Prop) (a5:Option Addr) (c5:Nat),m=4-jj->jj<=4 ->
  Tie Tryz.prog fs2 Ro K M (zb bx al ms.length cap b2 b3 b5 j) a' w W->a'.defers=[]->j 38=jN dd->j 39=.int .i64 jj->Xd X bx bc st sh lns ms al cap b2 b3 b5 b7 (dd 0) (dd 1) (dd 2) (dd 3) S0 wE s0 S a5 c5 (min ms.length (4 * q+jj)) w->(∀m,m<4->K.B (dd m) (cc m))->Rl cc (y8 lns st sh) (ms.map (·.1)) q jj rem ->
  (∀(qah:Nat->List (Option Value)) (K2:Kr) (M2:Nat->Prop) (j2:Nat->Value) (a2:Act) (w2 W2:World) (S':Nat->Prop) (a9:Option Addr) (c9:Nat),Grown K M K2 M2->Xd X bx bc st sh lns ms al cap b2 b3 b5 b7 (dd 0) (dd 1) (dd 2) (dd 3) S0 wE s0 S' a9 c9 ms.length w2->(∀c,qah c=[])->Tie Tryz.prog fs2 Ro K2 M2 (zb bx al ms.length cap b2 b3 b5 j2) a2 w2 W2->a2.defers=[] ->
   Sc Tryz.prog Ro Qk none qah M2 (G ((base 32).at a2 k) cs) W2) ->
  Sc Tryz.prog Ro Qk none rem M (G ((base 32).at a' (.code qmZ::.inLoop qmZ::.inBlock 4::k)) cs) W:=by
 intro m
 induction m with
 | zero =>
  intro jj rem K M j a' w W S a5 c5 hm hj4 T hd j38 j39 L hB hR next
  have e4:jj=4:=by omega
  subst e4;have h:=yl Tryz.prog Ro Qk none rem;have T:=T.zm (b:=zb bx al ms.length cap b2 b3 b5 (qi j 39 (.int .i64 (4:Nat)))) (by rw[<-yI j39]);refine h.seq T.lt ?_;refine h.region T.lt ?_;refine h.opM T zO rfl rfl zn rfl rfl (v:=.bool false) (wn:=w) (fun τ=>.inl (by kernel_rfl)) (fun K1 M1 v1 W1 g1 e1 T1=>?_);refine h.qx T1.lt ?_;refine h.seq T1.lt ?_;refine h.cond T1.lt (T1.plain 40 (v:=.bool false) (by kernel_rfl) rfl) ?_;rw[if_neg (by nofun)];refine h.exit T1.lt (k':=k) rfl ?_
  have qgo:min ms.length (4 * q+4)=ms.length:=by omega
  rw[qgo]at L;refine next rem K1 M1 (qi (qi j 39 (.int .i64 (4:Nat))) 40 (.bool false)) _ w W1 S a5 c5 g1 L (fun c=>?_) (T1.zm (by kernel_rfl)) (by simp only[put_defers];exact hd);by_cases hc:∃m,m<4/\c=cc m
  ·obtain⟨m,h1,rfl⟩:=hc;exact hR.done m h1 h1
  ·exact hR.none_ c (fun m h1 e=>hc ⟨m,h1,e⟩)
 | succ m ih =>
  intro jj rem K M j a' w W S a5 c5 hm hj4 T hd j38 j39 L hB hR next
  have hj:jj<4:=by omega
  have hjj:jj=0\/jj=1\/jj=2\/jj=3:=by omega
  have h:=yl Tryz.prog Ro Qk none rem
  have hJ:zb bx al ms.length cap b2 b3 b5 j=zb bx al ms.length cap b2 b3 b5 (qi (qi j 38 (jN dd)) 39 (.int .i64 jj)):=by rw[<-yI (j:=qi j 38 (jN dd)) (t:=39) (by rw[qT _ _ (by decide)];exact j39),<-yI j38]
  have T:=T.zm hJ;refine h.seq T.lt ?_;refine h.region T.lt ?_;refine h.opM T zO rfl rfl zn rfl rfl (v:=.bool true) (wn:=w) (fun τ=>.inl (by rcases hjj with rfl|rfl|rfl|rfl<;>kernel_rfl)) (fun K1 M1 v1 W1 g1 e1 T1=>?_)
  refine h.qx T1.lt ?_;refine h.seq T1.lt ?_;refine h.cond T1.lt (T1.plain 40 (v:=.bool true) (by kernel_rfl) rfl) ?_;rw[if_pos rfl];refine h.skip T1.lt ?_;refine h.seq T1.lt ?_;refine h.block T1.lt ?_;refine h.seq T1.lt ?_;refine h.region T1.lt ?_;refine h.opM T1 zO rfl rfl zn rfl rfl (v:=.chan (some (dd jj))) (wn:=w) (fun τ=>.inl (by rcases hjj with rfl|rfl|rfl|rfl<;>kernel_rfl)) (fun K2 M2 v2 W2 g2 e2 T2=>?_)
  refine Way.move h T2 zO rfl rfl (.inr rfl) rfl (fun T3=>?_);refine h.qx T3.lt ?_;refine h.seq T3.lt ?_;refine h.region T3.lt ?_;refine Way.move h T3 zO rfl rfl (.inl rfl) rfl (fun T4=>?_);refine h.qx T4.lt ?_;refine h.block T4.lt ?_;refine h.loop T4.lt ?_;have gA:=g1.trans g2;have T5:=T4.zm (b:=zb bx al ms.length cap b2 b3 b5 (qi (qi (qi (qi (qi (qi j 38 (jN dd)) 39 (.int .i64 jj)) 40 (.bool true)) 41 (.chan (some (dd jj)))) 11 (.chan (some (dd jj)))) 42 (.chan (some (dd jj))))) (by kernel_rfl);generalize hjn:qi (qi (qi (qi (qi (qi j 38 (jN dd)) 39 (.int .i64 jj)) 40 (.bool true)) 41 (.chan (some (dd jj)))) 11 (.chan (some (dd jj)))) 42 (.chan (some (dd jj)))=jn at T5
  have n38:jn 38=jN dd:=by rw[<-hjn];simp[qi]
  have n39:jn 39=.int .i64 jj:=by rw[<-hjn];simp[qi]
  have n42:jn 42=.chan (some (dd jj)):=by rw[<-hjn];exact ju _ _ _
  have fin:∀(qcL:Nat->List (Option Value)) (K4:Kr) (M4:Nat->Prop) (j4:Nat->Value) (a4:Act) (w4 W4:World) (S4:Nat->Prop) (a94:Option Addr) (c94:Nat),Grown K2 M2 K4 M4->j4 38=jN dd->j4 39=.int .i64 jj->Xd X bx bc st sh lns ms al cap b2 b3 b5 b7 (dd 0) (dd 1) (dd 2) (dd 3) S0 wE s0 S4 a94 c94 (min ms.length (4 * q+(jj+1))) w4->qcL (cc jj)=[]->(∀c,c≠cc jj->qcL c=rem c)->Tie Tryz.prog fs2 Ro K4 M4 (zb bx al ms.length cap b2 b3 b5 j4) a4 w4 W4->a4.defers=[] ->
    Sc Tryz.prog Ro Qk none qcL M4 (G ((base 32).at a4 (.inBlock 5::.code (match qmZ with|.seq _ (.seq _ (.seq _ c))=>c|_=>.skip)::.inLoop qmZ::.inBlock 4::k)) cs) W4:=by
   intro qcL K4 M4 j4 a4 w4 W4 S4 a94 c94 g4 q38 q39 L4 hr1 hr2 T4 hd4;have h4:=yl Tryz.prog Ro Qk none qcL;have T4:=T4.zm (b:=zb bx al ms.length cap b2 b3 b5 (qi j4 39 (.int .i64 jj))) (by rw[<-yI q39]);refine h4.inBlock T4.lt ?_;refine h4.region T4.lt ?_;refine h4.opM T4 zO rfl rfl zn rfl rfl (v:=.int .i64 (jj+1:Nat)) (wn:=w4) (fun τ=>.inl (by rcases hjj with rfl|rfl|rfl|rfl<;>kernel_rfl)) (fun K5 M5 v5 W5 g5 e5 T5=>?_)
   refine Way.move h4 T5 zO rfl rfl (.inl rfl) rfl (fun T6=>?_);refine h4.qx T6.lt ?_;refine h4.inLoop T6.lt ?_;have gB:=(gA.trans g4).trans g5;refine ih (jj+1) qcL K5 M5 (qi (qi (qi j4 39 (.int .i64 jj)) 49 (.int .i64 (jj+1:Nat))) 39 (.int .i64 (jj+1:Nat))) _ w4 W5 S4 a94 c94 (by omega) (by omega) (T6.zm (by kernel_rfl)) (by simp only[put_defers];exact hd4) (by simp[qi,q38]) (by simp[qi]) L4 (fun m hm=>gB.le.b _ _ (hB m hm)) (hR.step inj hj hr1 hr2) (fun qkc K7 M7 j7 a7 w7 W7 S7 a97 c97 g7 L7 hr7 T7 hd7=>?_);exact next qkc K7 M7 j7 a7 w7 W7 S7 a97 c97 (gB.trans g7) L7 hr7 T7 hd7
  have hBj:=gA.le.b _ _ (hB jj hj);have qqT:=hR.line jj hj (Nat.le_refl _);by_cases hlt:4 * q+jj<ms.length
  ·have hs:=qkD (plc:=y8 lns st sh) (ks:=ms.map (·.1)) (i:=4 * q+jj) (by simpa using hlt)
   have quL:(ms.map (·.1))[4 * q+jj]'(by simpa using hlt)=ms[4 * q+jj].1:=by simp
   rw[quL,qmS (i:=4 * q+jj+4) (by simp;omega)]at hs
   have qgo:min ms.length (4 * q+jj)=4 * q+jj:=by omega
   rw[qgo]at L;refine qwL (rr:=[none]) hlt hn qR hok T5 (by simp only[put_defers];exact hd) n42 hBj (by rw[qqT,hs];rfl) L (fun K6 M6 j6 a6 w6 W6 S6 a96 c96 g6 hJ6 L6 T6 hd6=>?_);refine qsT T6 hd6 (hJ6.2.2.2.trans n42) (g6.le.b _ _ hBj) (by unfold upd;rw[if_pos rfl]) (fun K7 M7 j7 a7 W7 g7 hJ7 T7 hd7=>?_);refine fin _ K7 M7 j7 a7 w6 W7 S6 a96 c96 (g6.trans g7) (hJ7.2.1.trans (hJ6.2.1.trans n38)) (hJ7.2.2.trans (hJ6.2.2.1.trans n39)) (by rw[show min ms.length (4 * q+(jj+1))=4 * q+jj+1 by omega];exact L6) (by unfold upd;rw[if_pos rfl]) (fun c hc=>by unfold upd;rw[if_neg hc,if_neg hc]) T7 hd7
  ·rw[qmS (by simp;omega)]at qqT;refine qsT T5 (by simp only[put_defers];exact hd) n42 hBj qqT (fun K7 M7 j7 a7 W7 g7 hJ7 T7 hd7=>?_);refine fin _ K7 M7 j7 a7 w W7 S a5 c5 g7 (hJ7.2.1.trans n38) (hJ7.2.2.trans n39) (by rw[show min ms.length (4 * q+(jj+1))=min ms.length (4 * q+jj) by omega];exact L) (by unfold upd;rw[if_pos rfl]) (fun c hc=>by unfold upd;rw[if_neg hc]) T7 hd7
end
end Sim
namespace Sim
open Go.Conc Go.RowKit
noncomputable def qv1:Code:=match qka with
 | .seq _ c=>c
 | _=>.skip
def qqU(fn:Func):Code:=match fn.body with
 | some (.seq _ (.seq _ (.seq _ (.seq _ (.seq _ (.seq _ c))))))=>c
 | _=>.skip
theorem quP{P:Program}{fn:Func}{c1 c2 c3 c4 c5 c6 c:Code}(hb:fn.body=some (.seq c1 (.seq c2 (.seq c3 (.seq c4 (.seq c5 (.seq c6 c))))))){Q:Exit->Act->World->Prop}{a:Act}{w:World}(h:c.wp P Q a w):(qqU fn).wp P Q a w:=by
 unfold qqU;rw[hb];exact h
theorem quQ(bx:Nat)(al:Option Addr)(n cap b2 b3 b5:Nat)(j:Nat->Value)(a9:Option Addr)(c9 i:Nat)(w:World)(h5:w.cell? ⟨b5,0,none⟩=some (.slice a9 i c9)) :
  qv1.wp Tryz.prog (bodyPost Tryz.prog Tryz.f32 (fun e w'=>∃v,e=.returned v/\v=.slice a9 i c9/\w'=w)) (zb bx al n cap b2 b3 b5 j) w:=by
 refine qa8 (c':=qqU Tryz.f32) (by kernel_rfl) rfl (fun _ _ _ q=>q) ?_;refine quP rfl ?_;unfold zb;go_wp2;go_ret;exact⟨_,rfl,rfl,rfl⟩
theorem qsV(n:Nat)(hn:n<=1048576):IntKind.i64.wrap (Int.tdiv (n:Int) 4)=((n / 4:Nat):Int):=by
 have e:Int.tdiv (n:Int) 4=((n / 4:Nat):Int):=by
  rw[Int.tdiv_eq_ediv_of_nonneg (by omega)];omega
 rw[e,IntWalk.i64_in _ (by omega)]
theorem qwM{Ro:Nat->Prop}{Qk:Value->World->Prop}{rem:Nat->List (Option Value)}{K:Kr}{M:Nat->Prop}{j:Nat->Value}{a':Act}{w W:World}{cs:List Frame}{bx:Nat}{al:Option Addr}{n cap b2 b3 b5:Nat}(hn:n<=1048576)(T:Tie Tryz.prog fs2 Ro K M (zb bx al n cap b2 b3 b5 j) a' w W)(hd:a'.defers=[])(h3:w.cell? ⟨b3,0,none⟩=some (.slice al n cap))
  (next:∀(K2:Kr) (M2:Nat->Prop) (j2:Nat->Value) (a2:Act) (W2:World),Grown K M K2 M2->j2 7=j 7->j2 25=.int .i64 (n / 4:Nat)->j2 26=.int .i64 (0:Nat)->Tie Tryz.prog fs2 Ro K2 M2 (zb bx al n cap b2 b3 b5 j2) a2 w W2->a2.defers=[] ->
   Sc Tryz.prog Ro Qk none rem M2 (G ((base 32).at a2 (.code qmY::.inLoop qmY::.inBlock 0::[.code qka])) cs) W2) :
  Sc Tryz.prog Ro Qk none rem M (G ((base 32).at a' (.inRegion qbD []::[.code qmV])) cs) W:=by
 have h:=yl Tryz.prog Ro Qk none rem;refine h.qx T.lt ?_;refine h.seq T.lt ?_;refine h.seq T.lt ?_;refine h.region T.lt ?_;refine h.qc1 T zO rfl rfl zn (t:=50) (x:=3) rfl (p:=.pointer (some ⟨b3,0,none⟩)) (v:=.slice al n cap) (by kernel_rfl) (fun τ=>qsS (W:=qg w τ) h3) (fun K1 M1 v1 W1 g1 e1 T1=>?_);refine h.opM T1 zO rfl rfl zn rfl rfl (v:=.int .i64 n) (wn:=w) (fun τ=>.inl (by kernel_rfl)) (fun K2 M2 v2 W2 g2 e2 T2=>?_);refine h.opM T2 zO rfl rfl zn rfl rfl (v:=.int .i64 (IntKind.i64.wrap (Int.tdiv (n:Int) 4))) (wn:=w) (fun τ=>.inl (by kernel_rfl)) (fun K3 M3 v3 W3 g3 e3 T3=>?_);rw[qsV n hn]at T3;refine Way.move h T3 zO rfl rfl (.inl rfl) rfl (fun T4=>?_);refine h.qx T4.lt ?_;refine h.block T4.lt ?_;refine h.loop T4.lt ?_;exact next K3 M3 (qi (qi (qi (qi j 23 (.slice al n cap)) 24 (.int .i64 n)) 25 (.int .i64 (n / 4:Nat))) 26 (.int .i64 (0:Nat))) _ W3 ((g1.trans g2).trans g3) (by simp[qi]) (by simp[qi]) (by simp[qi]) (T4.zm (by kernel_rfl)) (by simp only[put_defers];exact hd)
end Sim
namespace Sim
open Go.Conc Go.RowKit
variable {plc:ByteArray->Value}{ks:List ByteArray}{lns:List Tm.Ln}
def four(a b c d:Nat):Nat->Nat:=fun m=>if m=0 then a else if m=1 then b else if m=2 then c else d
theorem qm1{a b c d:Nat}(h:b≠a/\c≠a/\c≠b/\d≠a/\d≠b/\d≠c):∀m m',m<4->m'<4->four a b c d m=four a b c d m'->m=m':=by
 obtain⟨h1,h2,h3,h4,h5,h6⟩:=h;intro m m' hm hm' e
 have cm:m=0\/m=1\/m=2\/m=3:=by omega
 have cm':m'=0\/m'=1\/m'=2\/m'=3:=by omega
 rcases cm with rfl|rfl|rfl|rfl<;>rcases cm' with rfl|rfl|rfl|rfl<;>simp[four]at e<;>omega
theorem quR{plc:ByteArray->Value}{ks:List ByteArray}{c0 c1 c2 c3:Nat}(h:c1≠c0/\c2≠c0/\c2≠c1/\c3≠c0/\c3≠c1/\c3≠c2) :
  Rm (four c0 c1 c2 c3) plc ks (4 * 0) (upd (upd (upd (upd (fun _=>[]) c0 ((ya plc ks 0).map some++[none])) c1 ((ya plc ks 1).map some++[none])) c2 ((ya plc ks 2).map some++[none])) c3 ((ya plc ks 3).map some++[none])):=by
 obtain⟨h1,h2,h3,h4,h5,h6⟩:=h;refine⟨fun m hm=>?_,fun c hc=>?_⟩
 ·have cm:m=0\/m=1\/m=2\/m=3:=by omega
  rcases cm with rfl|rfl|rfl|rfl
  ·show upd _ _ _ c0=_;unfold upd;rw[if_neg (Ne.symm h4),if_neg (Ne.symm h2),if_neg (Ne.symm h1),if_pos rfl];rfl
  ·show upd _ _ _ c1=_;unfold upd;rw[if_neg (Ne.symm h5),if_neg (Ne.symm h3),if_pos rfl];rfl
  ·show upd _ _ _ c2=_;unfold upd;rw[if_neg (Ne.symm h6),if_pos rfl];rfl
  ·show upd _ _ _ c3=_;unfold upd;rw[if_pos rfl];rfl
 ·unfold upd;have e0:c≠c0:=hc 0 (by omega);have e1:c≠c1:=hc 1 (by omega);have e2:c≠c2:=hc 2 (by omega);have e3:c≠c3:=hc 3 (by omega);rw[if_neg e3,if_neg e2,if_neg e1,if_neg e0]
theorem quS{cc:Nat->Nat}{q:Nat}{rem:Nat->List (Option Value)}(h:Rm cc plc ks (4 * q) rem):Rl cc plc ks q 0 rem :=
 ⟨fun m hm _=>by rw[h.line m hm,show nxt (4 * q) m=4 * q+m by unfold nxt;omega],fun m _ hm=>by omega,h.none_⟩
theorem qm2{u w:World}{bc bm:Nat}{st:Int}{sh:Bool}(h:Jd u bc bm st sh lns)(p:Pre u w):Jd w bc bm st sh lns:=(qmN (w:=w) h).below ⟨rfl,rfl,rfl,p.size,p.block⟩
theorem qwh{Ro:Nat->Prop}{Qk:Value->World->Prop}{K Kb:Kr}{M:Nat->Prop}{b:Frame}{a a':Act}{w W:World}{ops:Array Oper}{i:Nat}{rest:List Nat}{k:List Item}{cs:List Frame}{o:Oper}{ys:Array Value}{X bx bc bm cap:Nat}{st:Int}{sh:Bool}{lns:List Tm.Ln}{ms:Tm.QU}{al:Option Addr}{S0:Nat->Prop}{s0:Qt}
  (T:Tie Tryz.prog fs2 Ro K M a a' w W) (hk:b.kind≠.early) (ho:ops[i]?=some o) (hwt:Region.wanted o (yielded ops a'.tmps)=true) (hr:∀W1,(execOp a'.eval o).run Tryz.prog W1=.ok (.enter 32 ys) W1) (he:∀W1,(execOp a'.eval o).events Tryz.prog W1 #[]=#[]) (ha:AV K #[.pointer (some ⟨bx,0,none⟩),.slice al ms.length cap] ys)
  (hn:ms.length<=1048576) (hX:X<=w.heap.size) (qqV:Jd w bc bm st sh lns) (hok:Zt st lns) (hix:Ix w X S0 bx bc st sh lns s0) (hrd:0<ms.length->Reads w (.slice al ms.length cap) 2 ms.length (qY ms)) (qdW:0<ms.length->∀g,(Value.slice al ms.length cap).ownBlock=some g->¬S0 g)
  (hb:WR Tryz.prog Ro Kb w W) (le:Kb.le K) (hbf:Kb.Fs=fun f=>fs2 f=true) (hRo:∀b,Ro b↔∃a,Kb.B a b) (zU:∀a b,Kb.B a b->a<w.heap.size) (hvb:∃y,VR Kb (.pointer (some ⟨bc,0,none⟩)) y) (hsb:∃y,VR Kb (.slice al ms.length cap) y)
  (next:∀(qah:Nat->List (Option Value)) (K2:Kr) (M2:Nat->Prop) (w2 W2:World) (S':Nat->Prop) (a9:Option Addr) (c9:Nat) (v':Value),Grown K M K2 M2->Kept S0 w w2->Ix w2 X S' bx bc st sh lns (jx (qe lns st sh) s0 ms)->(∀j,S' j->S0 j\/w.heap.size<=j)->w2.ownsRow X 30 1 (.slice a9 ms.length c9) ms.length (jy (qe lns st sh) s0 ms)->(∀g,(Value.slice a9 ms.length c9).ownBlock=some g->¬S' g/\w.heap.size<=g)->(∀c,qah c=[])->VR K2 (.slice a9 ms.length c9) v'->Tie Tryz.prog fs2 Ro K2 M2 (a.put o.dst (.slice a9 ms.length c9)) (a'.put o.dst v') w2 W2 ->
   Sc Tryz.prog Ro Qk none qah M2 (G (b.at (a'.put o.dst v') (.inRegion ops rest::k)) cs) W2) :
  Sc Tryz.prog Ro Qk none (fun _=>[]) M (G (b.at a' (.inRegion ops (i::rest)::k)) cs) W:=by
 have h:=yl Tryz.prog Ro Qk none (fun _=>[])
 have hlen:(ms.map (·.1)).length=ms.length:=by simp
 have hS0:∀j,S0 j->j<w.heap.size:=fun j hj=>(hix.from_ j hj).2;refine qqS h T hk ho hwt hn hX hr he ha (fun K1 M1 a1 w1 W1 b5 e g1 qd7 hlt c2 c3 c5 f5 row T1 hd1=>?_);have T1:=T1.zm (b:=zb bx al ms.length cap w.heap.size (w.heap.size+1) b5 (qi (qi (qi (qi (fun _=>undef) 13 (.slice al ms.length cap)) 14 (.int .i64 ms.length)) 15 (.slice (some ⟨e,0,none⟩) 0 ms.length)) 16 (.func (.func 73) #[] #[.pointer (some ⟨b5,0,none⟩),.pointer (some ⟨w.heap.size,0,none⟩),.pointer (some ⟨w.heap.size+1,0,none⟩)]))) (by kernel_rfl);have hb1:WR Tryz.prog Ro Kb w1 W1:=hb.later T1.wr (le.trans g1.le) (fun x y hxy=>qd7.block x (zU x y hxy));have qpr:∀a b,Kb.B a b->a<w1.heap.size:=fun x y hxy=>Nat.lt_of_lt_of_le (zU x y hxy) qd7.size;have qAg:bx<w.heap.size:=hS0 bx hix.own
 have qv2:∀p:Addr,p.block<w.heap.size->w1.cell? p=w.cell? p:=fun p hp=>by unfold World.cell?;rw[qd7.block _ hp]
 have qxQ:=qm2 qqV qd7
 have lists:∀(g:Addr) (i:Nat) (hi:i<(ms.map (·.1)).length),al=some g->g.spot=none/\w1.cell? ⟨g.block,g.off+i * 2,none⟩=some (.string (ms.map (·.1))[i])/\g.block<w1.heap.size:=fun g i hi e=>by
  have hi':i<ms.length:=by rw[<-hlen];exact hi
  obtain⟨g',off,e2,hg,x0,_⟩:=qa7 (hrd (by omega)) hi';rw[e]at e2;cases e2;refine⟨rfl,?_,Nat.lt_of_lt_of_le hg qd7.size⟩;rw[qv2 ⟨g',off+i * 2,none⟩ hg];simpa using x0
 have some_:0<(ms.map (·.1)).length->al≠none:=fun hp e=>by
  obtain⟨g',off,e2,_⟩:=qa7 (hrd (by omega)) (show 0<ms.length by omega);rw[e]at e2;cases e2
 refine h.seq T1.lt ?_;refine h.draw T1.lt (by kernel_rfl) (fun l hl=>?_);have qAh:=List.all_eq_true.1 qsP l hl;refine qwJ (Ro:=Ro) (Qk:=Qk) (Kb:=Kb) (K1:=K1) (M1:=M1) (w1:=w1) (bc:=bc) (ks:=ms.map (·.1)) (plc:=y8 lns st sh) (b2:=w.heap.size) (b3:=w.heap.size+1) c2 (by rw[hlen];exact c3) ((qv2 ⟨bx,0,none⟩ qAg).trans hix.c0) (by omega) (by omega) (by omega) (by rw[hlen];omega) (fun w2 hw2 key=>?_) (qcx lns st sh) (le.trans g1.le) hbf hRo qpr hvb (by rw[hlen];exact hsb) lists some_ (fun K2 M2 j2 a2 w2 W2 b7 d0 d1 d2 d3 q0 q1 q2 q3 g2 qqW hb2 hB hne j7 hE7 hc7 hl7 T2 hd2=>?_) l [] K1 M1 _ a1 w1 W1 qAh (Grown.refl _ _) (Pre.refl _) hb1 ⟨fun e=>(by cases e),fun e=>(by cases e),fun e=>(by cases e),fun e=>(by cases e),fun e=>(by cases e),fun e=>(by cases e)⟩ (by rw[hlen];exact T1) hd1
 ·refine(qcJ lns bc bm st sh key w2 (qm2 qxQ hw2) hok).mono ?_;rintro e w3 ⟨rfl,hb3⟩;exact⟨_,rfl,rfl,⟨hb3.size,hb3.block⟩⟩
 rw[hlen]at T2;have pre:=qd7.trans qqW
 have qqX:∀p:Addr,p.block<w1.heap.size->w2.cell? p=w1.cell? p:=fun p hp=>by unfold World.cell?;rw[qqW.block _ hp]
 have kp:Kept S0 w w2:=Kept.pre pre;have kp2:Kept (fun _=>False) w1 w2:=Kept.pre qqW
 have L:Xd X bx bc st sh lns ms al cap w.heap.size (w.heap.size+1) b5 b7 (four d0 d1 d2 d3 0) (four d0 d1 d2 d3 1) (four d0 d1 d2 d3 2) (four d0 d1 d2 d3 3) S0 w s0 S0 (some ⟨e,0,none⟩) ms.length (4 * 0) w2:=by
  have hp2:=qqW.size;refine⟨(Kept.pre (T:=fun _=>False) pre).ix hix (fun _ _ e=>e),(qqX ⟨w.heap.size,0,none⟩ (by show w.heap.size<_;omega)).trans c2,(qqX ⟨w.heap.size+1,0,none⟩ (by show w.heap.size+1<_;omega)).trans c3,(qqX ⟨b5,0,none⟩ (by show b5<_;omega)).trans c5,(kp2.frozen (p:=⟨b5,0,none⟩) (by show b5<_;omega) (fun e=>e)).trans f5,by omega,by omega,by omega,hl7,hc7.1,hc7.2.1,hc7.2.2.1,hc7.2.2.2,kp2.owns row (fun _ _ e=>e),fun hp=>(Kept.pre (T:=fun _=>False) pre).reads (hrd hp) (fun _ _ e=>e),fun hS=>by have:=hS0 b5 hS;omega,fun hS=>by have:=hS0 _ hS;omega,fun hS=>by have:=hS0 _ hS;omega,fun hS=>by have:=hS0 b7 hS;omega,fun g hg=>?_,fun hp g hg=>⟨(hrd hp).2.1 g hg,qdW hp g hg⟩,by omega,by omega,by omega,by omega,hX,kp,fun j hj=>.inl hj⟩
  have hge:g=e:=by simpa[Value.ownBlock]using hg.symm
  subst hge;refine⟨⟨fun hS=>by have:=hS0 _ hS;omega,by omega,by omega,by omega,fun hp hq=>?_⟩,by omega,by omega⟩;have:=(hrd hp).2.1 _ hq;omega
 refine qwM hn T2 hd2 L.h3 (fun K3 M3 j3 a3 W3 g3 y7 y25 y26 T3 hd3=>?_);refine quN (cc:=four q0 q1 q2 q3) (dd:=four d0 d1 d2 d3) hn qqV.fit hok (qm1 hne) (q:=ms.length / 4) rfl (ms.length / 4) 0 _ K3 M3 j3 a3 w2 W3 S0 _ _ rfl (Nat.zero_le _) T3 hd3 (y7.trans j7) y25 y26 L (fun m hm=>?_) (quR hne) (fun qcL K4 M4 j4 a4 w4 W4 S4 a94 c94 g4 z7 L4 hR4 T4 hd4=>?_)
 ·have cm:m=0\/m=1\/m=2\/m=3:=by omega
  rcases cm with rfl|rfl|rfl|rfl
  ·exact g3.le.b _ _ hB.1
  ·exact g3.le.b _ _ hB.2.1
  ·exact g3.le.b _ _ hB.2.2.1
  ·exact g3.le.b _ _ hB.2.2.2
 have h4:=yl Tryz.prog Ro Qk none qcL;have T4:=T4.zm (b:=zb bx al ms.length cap w.heap.size (w.heap.size+1) b5 (qi j4 7 (.pointer (some ⟨b7,0,none⟩)))) (by rw[<-yI z7]);refine h4.seq T4.lt ?_;refine h4.seq T4.lt ?_;refine h4.region T4.lt ?_;refine h4.qc1 T4 zO rfl rfl zn (t:=154) (x:=7) rfl (p:=.pointer (some ⟨b7,0,none⟩)) (v:=jN (four d0 d1 d2 d3)) (by kernel_rfl) (fun τ=>qjb (W:=qg w4 τ) L4.h70 L4.h71 L4.h72 L4.h73) (fun K5 M5 v5 W5 g5 e5 T5=>?_);refine Way.move h4 T5 zO rfl rfl (.inl rfl) rfl (fun T6=>?_);refine h4.qx T6.lt ?_;refine h4.block T6.lt ?_;refine h4.loop T6.lt ?_;have gA:=((g2.trans g3).trans g4).trans g5
 have hq4:min ms.length (4 * (ms.length / 4)+0)=4 * (ms.length / 4):=by omega
 refine qsU (cc:=four q0 q1 q2 q3) (dd:=four d0 d1 d2 d3) hn qqV.fit hok (qm1 hne) (q:=ms.length / 4) rfl 4 0 qcL K5 M5 (qi (qi (qi j4 7 (.pointer (some ⟨b7,0,none⟩))) 38 (jN (four d0 d1 d2 d3))) 39 (.int .i64 (0:Nat))) _ w4 W5 S4 a94 c94 rfl (by omega) (T6.zm (by kernel_rfl)) (by simp only[put_defers];exact hd4) (by simp[qi]) (by simp[qi]) (by rw[hq4];exact L4) (fun m hm=>?_) (quS hR4) (fun qkc K7 M7 j7' a7 w7 W7 S7 a97 c97 g7 L7 hr7 T7 hd7=>?_)
 ·have up:=(g3.le.trans g4.le).trans g5.le
  have cm:m=0\/m=1\/m=2\/m=3:=by omega
  rcases cm with rfl|rfl|rfl|rfl
  ·exact up.b _ _ hB.1
  ·exact up.b _ _ hB.2.1
  ·exact up.b _ _ hB.2.2.1
  ·exact up.b _ _ hB.2.2.2
 have h7:=yl Tryz.prog Ro Qk none qkc;refine Way.rest h7 zn T7 ⟨rfl,hd7⟩ Tryz.func32 rfl (by kernel_rfl) (R:=fun v w'=>v=.slice a97 ms.length c97/\∃τ,w'=qg w7 τ) (fun τ=>qa8 (c':=qv1) (a':=zb bx al ms.length cap w.heap.size (w.heap.size+1) b5 j7') (by kernel_rfl) rfl (fun e a1 w1 q=>?_) (quQ bx al ms.length cap _ _ b5 j7' a97 c97 ms.length (qg w7 τ) L7.h5)) ?_
 ·cases e with
  | normal=>obtain⟨q1,v,q2,x,q3,q4,q5⟩:=q;cases q3;exact⟨q1,v,q2,v,rfl,q4,τ,q5⟩
  | ret=>obtain⟨q1,v,q2,x,q3,q4,q5⟩:=q;cases q3;exact⟨q1,v,q2,v,rfl,q4,τ,q5⟩
  | panic chain=>obtain⟨q1,x,q3,q4⟩:=q;cases q3
  | outgrown=>obtain⟨x,q3,q4⟩:=q;cases q3
  | exit id=>exact q.elim
  | goto l=>exact q.elim
 rintro K8 M8 v v' w8 W8 g8 ⟨rfl,τ,rfl⟩ hv8 hw8 km8 lt8 fs8
 have qbB:(b.at a' (.inRegion ops (i::rest)::k)).finish v'=b.at (a'.put o.dst v') (.inRegion ops rest::k):=by rw[Frame.finish_at,ho];rfl
 rw[qbB];have g:=((g1.trans gA).trans g7).trans g8;have L8:=L7.tape τ;have qbt:ms.take ms.length=ms:=List.take_length;refine next qkc K8 M8 (qg w7 τ) W8 S7 a97 c97 v' g L8.kept (by have:=L8.ix;rwa [qbt]at this) L8.sub (by have:=L8.own;rwa [qbt]at this) (fun g hg=>⟨(L8.vH g hg).1.1,(L8.vH g hg).2.2⟩) hr7 hv8 (T.back g.le hv8 hw8 km8 lt8 o.dst)
end Sim
namespace Sim
open Go.RowKit
theorem qxR{w w' w0:World}{X B:Nat}{F S T:Nat->Prop}{vf:Value}{bb bx bc bm:Nat}{st:Int}{sh:Bool}{lns:List Tm.Ln}{fs:List Tm.Fact}{s:Qt}(h:Bk w X F S vf bb bx bc bm st sh lns fs s)(hX:w0.heap.size=X)(hco:Xk w0 B bc bm st sh lns)(jc:∀g,B<=g->g<X->w.heap[g]?=w0.heap[g]?)(k:Kept T w w')(hF:∀i,F i->¬T i)(hT:∀i,T i->i<B\/X<=i) :
  Bk w' X F S vf bb bx bc bm st sh lns fs s/\∀g,B<=g->g<X->w'.heap[g]?=w0.heap[g]?:=by
 have hsz:=h.size;have hs':∀g,B<=g->g<X->w'.heap[g]?=w0.heap[g]?:=fun g h1 h2=>(k.block g (by omega) (fun e=>by rcases hT g e with x|x<;>omega)).trans (jc g h1 h2)
 have hl:=(h.from_ bb h.own).2;have hn:=hF bb h.own
 have hxs:(w'.heap.extract 0 X).size=X:=by have:=k.size;simp;omega
 have qxS:∀g,g<X->(w'.heap.extract 0 X)[g]?=w'.heap[g]?:=fun g hg=>by
  rw[Array.getElem?_extract];rw[if_pos (by have:=k.size;omega)];simp
 refine⟨⟨⟨{w' with heap:=w'.heap.extract 0 X},hxs,hco _ (by show _<=(w'.heap.extract 0 X).size;omega) (fun g h1 h2=>(qxS g (by omega)).trans (hs' g h1 (by omega))),⟨rfl,rfl,rfl,by show(w'.heap.extract 0 X).size<=_;have:=k.size;omega,fun g hg=>(qxS g hg).symm⟩⟩,h.ok,k.ix h.ix (fun i hi=>hF i (h.sub i hi)),h.sub,fun i hi=>⟨(h.from_ i hi).1,Nat.lt_of_lt_of_le (h.from_ i hi).2 k.size⟩,h.own,h.jM,(k.cell (p:=⟨bb,0,none⟩) hl hn).trans h.c0,(k.cell (p:=⟨bb,1,none⟩) hl hn).trans h.c1,(k.cell (p:=⟨bb,2,none⟩) hl hn).trans h.c2,(k.cell (p:=⟨bb,3,none⟩) hl hn).trans h.c3,fun o=>(k.frozen (p:=⟨bb,o,none⟩) hl hn).trans (h.free o),k.owns h.row (fun g e=>hF g (h.xt g e).1),h.xt,h.short⟩,hs'⟩
end Sim
variable {c:ByteArray->ByteArray->Int}
theorem qo6{s s':Qt}(h:qv s=qv s')(k v:ByteArray):qW c s k v=qW c s' k v/\qv (zg c s k v)=qv (zg c s' k v):=by
 have e:qW c s k v=qW c s' k v:=by unfold qW;rw[h]
 refine⟨e,?_⟩;by_cases h0:qW c s k v=0
 ·rw[qdR h0,qdR (e▸h0),h]
 ·rw[qan h0,qan (e▸h0),h]
theorem quT{s s':Qt}(h:qv s=qv s')(k:ByteArray):qv (z5 c s k)=qv (z5 c s' k):=by
 by_cases hk:k.size<=64
 ·rw[qc0 hk,qc0 hk,h]
 ·unfold z5;rw[if_pos (by omega),if_pos (by omega),h]
theorem qlK{c:ByteArray->ByteArray->Int}:∀(l:Tm.QU) {s s':Qt},qv s=qv s'->qv (zY c s l)=qv (zY c s' l)
 | [],_,_,h=>h
 | e::l,s,s',h=>by
  show qv (zY c (vT c s e) l)=qv (zY c (vT c s' e) l);refine qlK l ?_;unfold vT;split
  ·exact quT h _
  ·exact(qo6 h _ _).2
theorem qlI{c:ByteArray->ByteArray->Int}:∀(l:Tm.QU) {s s':Qt},qv s=qv s'->qv (jx c s l)=qv (jx c s' l)/\jy c s l=jy c s' l
 | [],_,_,h=>⟨h,rfl⟩
 | e::l,s,s',h=>by
  obtain⟨h1,h2⟩:=qo6 h e.1 e.2;obtain⟨h3,h4⟩:=qlI l h2;exact⟨h3,by show _::_=_::_;rw[h1,h4]⟩
namespace Sim
open Go.Conc Go.RowKit
structure Duo(w:World)(X1 X2 B2:Nat)(w02:World)(F1 S1:Nat->Prop)(vf1:Value)(bb1 bx1 bc1 bm1:Nat)(F2 S2:Nat->Prop)(vf2:Value)(bb2 bx2 bc2 bm2:Nat)(t:Int)(sh:Bool)(lns:List Tm.Ln)(p1:List Tm.Fact)(s1:Qt)(p2:List Tm.Fact)(s2:Qt):Prop where
 b1:Bk w X1 F1 S1 vf1 bb1 bx1 bc1 bm1 t sh lns p1 s1
 b2:Bk w X2 F2 S2 vf2 bb2 bx2 bc2 bm2 t sh lns p2 s2
 hX:w02.heap.size=X2
 co:Xk w02 B2 bc2 bm2 t sh lns
 same:∀g,B2<=g->g<X2->w.heap[g]?=w02.heap[g]?
 le1:X1<=B2
 le2:B2<=X2
 f1:∀i,F1 i->i<B2\/X2<=i
 dis:∀i,F1 i->¬F2 i
section
variable {w w' w02:World}{X1 X2 B2:Nat}{F1 S1:Nat->Prop}{vf1:Value}{bb1 bx1 bc1 bm1:Nat}{F2 S2:Nat->Prop}{vf2:Value}{bb2 bx2 bc2 bm2:Nat}{t:Int}{sh:Bool}{lns:List Tm.Ln}{p1:List Tm.Fact}{s1:Qt}{p2:List Tm.Fact}{s2:Qt}
variable {F S:Nat->Prop}{p:List Tm.Fact}
theorem Duo.first(h:Duo w X1 X2 B2 w02 F1 S1 vf1 bb1 bx1 bc1 bm1 F2 S2 vf2 bb2 bx2 bc2 bm2 t sh lns p1 s1 p2 s2){vf:Value}{s:Qt}(hB:Bk w' X1 F S vf bb1 bx1 bc1 bm1 t sh lns p s)(k:Kept F1 w w')(hF:∀i,F i->F1 i\/w.heap.size<=i):Duo w' X1 X2 B2 w02 F S vf bb1 bx1 bc1 bm1 F2 S2 vf2 bb2 bx2 bc2 bm2 t sh lns p s p2 s2:=by
 obtain⟨b2',qyO⟩:=qxR h.b2 h.hX h.co h.same k (fun i hi e=>h.dis i e hi) h.f1;have hz:=h.b2.size;refine⟨hB,b2',h.hX,h.co,qyO,h.le1,h.le2,fun i hi=>?_,fun i hi e=>?_⟩
 ·rcases hF i hi with x|x
  ·exact h.f1 i x
  ·exact .inr (by omega)
 ·rcases hF i hi with x|x
  ·exact h.dis i x e
  ·have:=(h.b2.from_ i e).2;omega
theorem Duo.second(h:Duo w X1 X2 B2 w02 F1 S1 vf1 bb1 bx1 bc1 bm1 F2 S2 vf2 bb2 bx2 bc2 bm2 t sh lns p1 s1 p2 s2){vf:Value}{s:Qt}(hB:Bk w' X2 F S vf bb2 bx2 bc2 bm2 t sh lns p s)(k:Kept F2 w w')(hF:∀i,F i->F2 i\/w.heap.size<=i):Duo w' X1 X2 B2 w02 F1 S1 vf1 bb1 bx1 bc1 bm1 F S vf bb2 bx2 bc2 bm2 t sh lns p1 s1 p s:=by
 have l1:=h.le1;have l2:=h.le2;have hz:=h.b2.size;refine⟨k.bk h.b1 (fun i hi=>h.dis i hi) (fun i hi=>by have:=(h.b2.from_ i hi).1;omega),hB,h.hX,h.co,fun g h1 h2=>(k.block g (by omega) (fun e=>by have:=(h.b2.from_ g e).1;omega)).trans (h.same g h1 h2),h.le1,h.le2,h.f1,fun i hi e=>?_⟩;rcases hF i e with x|x
 ·exact h.dis i hi x
 ·have:=(h.b1.from_ i hi).2;omega
theorem Duo.pre(h:Duo w X1 X2 B2 w02 F1 S1 vf1 bb1 bx1 bc1 bm1 F2 S2 vf2 bb2 bx2 bc2 bm2 t sh lns p1 s1 p2 s2)(p:Pre w w'):Duo w' X1 X2 B2 w02 F1 S1 vf1 bb1 bx1 bc1 bm1 F2 S2 vf2 bb2 bx2 bc2 bm2 t sh lns p1 s1 p2 s2:=by
 have hz:=h.b2.size;exact⟨(Kept.pre (T:=fun _=>False) p).bk h.b1 (fun _ _ e=>e) (fun _ e=>e.elim),(Kept.pre (T:=fun _=>False) p).bk h.b2 (fun _ _ e=>e) (fun _ e=>e.elim),h.hX,h.co,fun g h1 h2=>(p.block g (by omega)).trans (h.same g h1 h2),h.le1,h.le2,h.f1,h.dis⟩
end
variable {P:Program}{a:Act}{o:Oper}{f:FuncId}{fn:Func}{ats:Array TypeId}
def j5(n st:Int)(sh:Bool)(vl vm:Value)(j:Nat->Value):Act:=⟨#[.int .i64 n,.int .i64 st,.bool sh,vl,vm,j 5,j 6,j 7,j 8,j 9,j 10,j 11,j 12,j 13,j 14,j 15,j 16,j 17,j 18,j 19,j 20,j 21,j 22,j 23,j 24,j 25,j 26,j 27,j 28,j 29,j 30,j 31,j 32,j 33,j 34,j 35,j 36,j 37,j 38,j 39,j 40,j 41,j 42,j 43,j 44,j 45,j 46,j 47,j 48,j 49,j 50,j 51,j 52,j 53,j 54,j 55,j 56,j 57,j 58,j 59,j 60,j 61,j 62,j 63,j 64,j 65,j 66,j 67,j 68,j 69,j 70,j 71,j 72,j 73,j 74,j 75,j 76,j 77,j 78,j 79,j 80,j 81,j 82,j 83,j 84,j 85,j 86,j 87,j 88,j 89,j 90,j 91,j 92,j 93,j 94,j 95,j 96],[]⟩
theorem hk9:(base 9).kind≠.early:=by show CallKind.normal≠CallKind.early;nofun
theorem jO{Fs:FuncId->Bool}{Ro:Nat->Prop}{K:Kr}{M:Nat->Prop}{a':Act}{w W:World}(T:Tie P Fs Ro K M a a' w W){ops:Array Oper}(h:Region.wanted o (yielded ops a.tmps)=true):Region.wanted o (yielded ops a'.tmps)=true:=by
 rw[show yielded ops a'.tmps=yielded ops a.tmps from funext fun j=>qkG T.tm j];exact h
theorem qo7    (hf:P.funcs[f]?=some fn) (hb:fn.body.isNone=false) (qc2:(fn.name == "runtime.NumGoroutine")=false) (args:Array Value) (W1:World):(callFunc f args).runT P W1 #[]=(.ok (.enter f args) W1,#[]):=by
 have h1:¬fn.name= "runtime.NumGoroutine" :=by simpa using qc2
 unfold callFunc;show(Sem.bind Go.program _).runT P W1 #[]=_;rw[Sem.runT_bind'];have e:(Go.program).runT P W1 #[]=(.ok P W1,#[]):=rfl;rw[e];dsimp only;rw[hf]
 cases hbo:fn.body with
 | none=>rw[hbo]at hb;cases hb
 | some c=>simp[h1,hbo]
theorem qdY      {x y z:Nat}  {vx vy vz:Value} (hop:o.op=.call {callee:=.value (.func f),args:=#[.tmp x,.tmp y,.tmp z],argTypes:=ats}) (hx:a.eval (.tmp x)=vx) (hy:a.eval (.tmp y)=vy) (hz:a.eval (.tmp z)=vz) (hf:P.funcs[f]?=some fn) (hb:fn.body.isNone=false) (qc2:(fn.name == "runtime.NumGoroutine")=false) (W1:World) :
  (execOp a.eval o).run P W1=.ok (.enter f #[vx,vy,vz]) W1/\(execOp a.eval o).events P W1 #[]=#[]:=by
 have e:execOp a.eval o=callFunc f #[vx,vy,vz]:=by
  unfold execOp;rw[hop];simp only[resolve,List.map_toArray,List.map_cons,List.map_nil,hx,hy,hz];rfl
 rw[e];have r:=qo7 hf hb qc2 #[vx,vy,vz] W1;exact⟨by rw[<-Sem.runT_fst P _ W1 #[],r],by show((callFunc f #[vx,vy,vz]).runT P W1 #[]).2=_;rw[r]⟩
theorem qa3      {x y:Nat}  {vx vy:Value} (hop:o.op=.call {callee:=.value (.func f),args:=#[.tmp x,.tmp y],argTypes:=ats}) (hx:a.eval (.tmp x)=vx) (hy:a.eval (.tmp y)=vy) (hf:P.funcs[f]?=some fn) (hb:fn.body.isNone=false) (qc2:(fn.name == "runtime.NumGoroutine")=false) (W1:World) :
  (execOp a.eval o).run P W1=.ok (.enter f #[vx,vy]) W1/\(execOp a.eval o).events P W1 #[]=#[]:=by
 have e:execOp a.eval o=callFunc f #[vx,vy]:=by
  unfold execOp;rw[hop];simp only[resolve,List.map_toArray,List.map_cons,List.map_nil,hx,hy];rfl
 rw[e];have r:=qo7 hf hb qc2 #[vx,vy] W1;exact⟨by rw[<-Sem.runT_fst P _ W1 #[],r],by show((callFunc f #[vx,vy]).runT P W1 #[]).2=_;rw[r]⟩
end Sim
namespace Sim
open Go.Conc Go.RowKit
noncomputable def qpt:Code:=match qac Tryz.f9 with
 | .seq _ (.seq _ (.seq _ (.seq _ c)))=>c
 | _=>.skip
noncomputable def qps:Array Oper:=match qac Tryz.f9 with
 | .seq _ (.seq _ (.seq _ (.seq (.region _ ops _) _)))=>ops
 | _=>#[]
section
variable {main:Bool}{Ro:Nat->Prop}{S:(Nat->Prop)->Goroutine->World->Prop}(h:Way Tryz.prog main Ro S){cs:List Frame}{n st:Int}{sh:Bool}{vl vm:Value}{kt:Nat}{t:Int}
include h
theorem qrI{K:Kr}{M:Nat->Prop}{j:Nat->Value}{a':Act}{w W:World}(hkt:kt<256)(hop:∀w:World,Calls Tryz.prog 55 #[.int .i64 n,.int .i64 st,.bool sh] w fun e w'=>QgF kt t sh w e w')(T:Tie Tryz.prog fs1 Ro K M (j5 n st sh vl vm j) a' w W)
  (next:∀(K0 K1:Kr) (M1:Nat->Prop) (j1:Nat->Value) (a1:Act) (w0 W0 w1 W1:World) (X2 B2:Nat) (w02:World) (F1 S1:Nat->Prop) (bb1 bx1 bc1 bm1:Nat) (F2 S2:Nat->Prop) (bb2 bx2 bc2 bm2:Nat) (lns:List Tm.Ln) (s1 s2:Qt),K.le K0->K0.le K1->Grown K M K1 M1->WR Tryz.prog Ro K0 w0 W0->(∃b0,K0.B bc1 b0)->Pre w w0->Pre w0 w1->Zt t lns->Duo w1 w0.heap.size X2 B2 w02 F1 S1 (.slice none 0 0) bb1 bx1 bc1 bm1 F2 S2 (.slice none 0 0) bb2 bx2 bc2 bm2 t sh lns [] s1 [] s2->qv s1=[]->qv s2=[]->j1 11=.pointer (some ⟨bb1,0,none⟩)->j1 12=.pointer (some ⟨bb2,0,none⟩)->Tie Tryz.prog fs1 Ro K1 M1 (j5 n st sh vl vm j1) a1 w1 W1->a1.defers=a'.defers ->
   S M1 (G ((base 9).at a1 [.code (qac Tryz.f9)]) cs) W1) :
  S M (G ((base 9).at a' (match Tryz.f9.body with|some c=>[.code c] |none=>[])) cs) W:=by
 show S M (G ((base 9).at a' [.code _]) cs) W;refine h.seq T.lt ?_;refine h.region T.lt ?_;refine Way.move h T hk9 rfl rfl (.inr rfl) rfl (fun T1=>?_);refine h.qx T1.lt ?_;refine h.seq T1.lt ?_;refine h.region T1.lt ?_;refine Way.move h T1 hk9 rfl rfl (.inl rfl) rfl (fun T2=>?_);refine Way.move h T2 hk9 rfl rfl (.inl rfl) rfl (fun T3=>?_);refine Way.move h T3 hk9 rfl rfl (.inl rfl) rfl (fun T4=>?_);have e19:=T4.plain 19 (v:=.int .i64 n) (by kernel_rfl) rfl;have e20:=T4.plain 20 (v:=.int .i64 st) (by kernel_rfl) rfl;have e21:=T4.plain 21 (v:=.bool sh) (by kernel_rfl) rfl;refine qkH h T4 hk9 rfl rfl hkt hop (fun W1=>(qdY rfl e19 e20 e21 Tryz.func18 rfl (by kernel_rfl) W1).1) (fun W1=>(qdY rfl e19 e20 e21 Tryz.func18 rfl (by kernel_rfl) W1).2) (fun K0 K5 M5 lns bc bm w0 W0 w5 W5 v v5 le0 le5 g5 wr0 hbc qpx co hok hnt qw hv5 T5=>?_);obtain⟨F1,S1,bb1,bx1,s1,hv,hB1,qyP,qv3⟩:=qw;injection hv with hv;subst hv;refine Way.move h T5 hk9 rfl rfl (.inr rfl) rfl (fun T6=>?_);refine h.qx T6.lt ?_;refine h.seq T6.lt ?_;refine h.region T6.lt ?_;refine Way.move h T6 hk9 rfl rfl (.inl rfl) rfl (fun T7=>?_);refine Way.move h T7 hk9 rfl rfl (.inl rfl) rfl (fun T8=>?_);refine Way.move h T8 hk9 rfl rfl (.inl rfl) rfl (fun T9=>?_);have e23:=T9.plain 23 (v:=.int .i64 n) (by kernel_rfl) rfl;have e24:=T9.plain 24 (v:=.int .i64 st) (by kernel_rfl) rfl;have e25:=T9.plain 25 (v:=.bool sh) (by kernel_rfl) rfl;refine qkH h T9 hk9 rfl rfl hkt hop (fun W1=>(qdY rfl e23 e24 e25 Tryz.func18 rfl (by kernel_rfl) W1).1) (fun W1=>(qdY rfl e23 e24 e25 Tryz.func18 rfl (by kernel_rfl) W1).2) (fun K02 K10 M10 qxT bc2 bm2 w02 W02 w10 W10 v v10 qAi qAj g10 qBp qBq qv4 co2 qf7 qxU qyQ qBr T10=>?_);obtain⟨F2,S2,bb2,bx2,s2,hv,hB2,qyR,qqY⟩:=qyQ;injection hv with hv;subst hv;have hln:qxT=lns:=(Prod.mk.inj (qxU.symm.trans hnt)).1;subst hln;clear hnt qxU;refine Way.move h T10 hk9 rfl rfl (.inr rfl) rfl (fun T11=>?_);refine h.qx T11.lt ?_;have p5:Pre w0 w5:=⟨qv3.size,qv3.block⟩
 have p10:Pre w5 w10:=qv4.trans ⟨qqY.size,qqY.block⟩;have hz5:=p5.size;have qAk:=qv4.size;refine next K0 K10 M10 (qi (qi (qi (qi (qi (qi (qi (qi (qi (qi (qi j 10 (.bool false)) 19 (.int .i64 n)) 20 (.int .i64 st)) 21 (.bool sh)) 22 (.pointer (some ⟨bb1,0,none⟩))) 11 (.pointer (some ⟨bb1,0,none⟩))) 23 (.int .i64 n)) 24 (.int .i64 st)) 25 (.bool sh)) 26 (.pointer (some ⟨bb2,0,none⟩))) 12 (.pointer (some ⟨bb2,0,none⟩))) _ w0 W0 w10 W10 w02.heap.size w5.heap.size w02 F1 S1 bb1 bx1 bc bm F2 S2 bb2 bx2 bc2 bm2 qxT s1 s2 le0 ((le5.trans qAi).trans qAj) (g5.trans g10) wr0 hbc qpx (p5.trans p10) hok ⟨(Kept.pre (T:=fun _=>False) p10).bk hB1 (fun _ _ e=>e) (fun _ e=>e.elim),hB2,rfl,co2,fun g h1 h2=>(qqY.block g h2),hz5,qAk,fun i hi=>.inl (hB1.from_ i hi).2,fun i hi e=>?_⟩ qyP.1 qyR.1 (by simp[qi]) (by simp[qi]) (T11.zm (by kernel_rfl)) (by simp only[put_defers]);have q1:=(hB1.from_ i hi).2;have q2:=(hB2.from_ i e).1;omega
end
end Sim
namespace Sim
open Go.Conc Go.RowKit
theorem qbO{w w':World}{v:Value}{l:Tm.QU}(h:XX w v l){T:Nat->Prop}(k:Kept T w w')(hT:0<l.length->∀g,v.ownBlock=some g->¬T g):XX w' v l:=by
 obtain⟨a,cap,rfl,hr⟩:=h;exact⟨a,cap,rfl,fun hp=>k.reads (hr hp) (hT hp)⟩
section
variable {main:Bool}{Ro:Nat->Prop}{S:(Nat->Prop)->Goroutine->World->Prop}(h:Way Tryz.prog main Ro S){cs:List Frame}{n st:Int}{sh:Bool}{vl vm:Value}{t:Int}{X1 X2 B2:Nat}{w02:World}{bb1 bx1 bc1 bm1 bb2 bx2 bc2 bm2:Nat}{lns:List Tm.Ln}{ls:Tm.QU}
include h
theorem qtx{K:Kr}{M:Nat->Prop}{j:Nat->Value}{a':Act}{w W:World}{F1 S1 F2 S2:Nat->Prop}{s1 s2:Qt}(T:Tie Tryz.prog fs1 Ro K M (j5 n st sh vl vm j) a' w W)(D:Duo w X1 X2 B2 w02 F1 S1 (.slice none 0 0) bb1 bx1 bc1 bm1 F2 S2 (.slice none 0 0) bb2 bx2 bc2 bm2 t sh lns [] s1 [] s2)(n1:qv s1=[])(n2:qv s2=[])(j11:j 11=.pointer (some ⟨bb1,0,none⟩))(j12:j 12=.pointer (some ⟨bb2,0,none⟩))(hl:XX w vl ls)(hvl:0<ls.length->∀g,vl.ownBlock=some g->g<X1)
  (next:∀(K1:Kr) (M1:Nat->Prop) (j1:Nat->Value) (a1:Act) (w1 W1:World) (F1 S1:Nat->Prop) (vf1:Value) (F2 S2:Nat->Prop) (vf2:Value) (p1 p2:List Tm.Fact),Grown K M K1 M1->w.heap.size<=w1.heap.size->(∀g,g<X1->w1.heap[g]?=w.heap[g]?)->Duo w1 X1 X2 B2 w02 F1 S1 vf1 bb1 bx1 bc1 bm1 F2 S2 vf2 bb2 bx2 bc2 bm2 t sh lns p1 (zY (qe lns t sh) s1 (ls.take 100)) p2 (zY (qe lns t sh) s2 (ls.take 100))->j1 11=.pointer (some ⟨bb1,0,none⟩)->j1 12=.pointer (some ⟨bb2,0,none⟩)->j1 42=.pointer (some ⟨bx1,0,none⟩)->j1 43=vm->Tie Tryz.prog fs1 Ro K1 M1 (j5 n st sh vl vm j1) a1 w1 W1->a1.defers=a'.defers ->
   S M1 (G ((base 9).at a1 (.inRegion qps [5,6]::[.code qpt])) cs) W1) :
  S M (G ((base 9).at a' [.code (qac Tryz.f9)]) cs) W:=by
 have hJ:j5 n st sh vl vm j=j5 n st sh vl vm (qi (qi j 11 (.pointer (some ⟨bb1,0,none⟩))) 12 (.pointer (some ⟨bb2,0,none⟩))):=by rw[<-yI (j:=qi j 11 (.pointer (some ⟨bb1,0,none⟩))) (t:=12) (by rw[qT _ _ (by decide)];exact j12),<-yI j11]
 have T:=T.zm hJ;refine h.seq T.lt ?_;refine h.seq T.lt ?_;refine h.region T.lt ?_;refine Way.move h T hk9 rfl (jO T (by kernel_rfl)) (.inl rfl) rfl (fun T1=>?_);refine h.opM T1 hk9 rfl (jO T1 (by kernel_rfl)) qbE (by kernel_rfl) rfl (v:=.bool false) (wn:=w) (fun τ=>.inl (by kernel_rfl)) (fun K2 M2 v2 W2 g2 e2 T2=>?_);refine Way.move h T2 hk9 rfl (jO T2 (by kernel_rfl)) (.inl rfl) rfl (fun T3=>?_);refine Way.move h T3 hk9 rfl (jO T3 (by kernel_rfl)) (.inl rfl) rfl (fun T4=>?_);refine h.opM T4 hk9 rfl (jO T4 (by kernel_rfl)) qbE (by kernel_rfl) rfl (v:=.bool false) (wn:=w) (fun τ=>.inl (by kernel_rfl)) (fun K5 M5 v5 W5 g5 e5 T5=>?_);refine h.opM T5 hk9 rfl (jO T5 (by kernel_rfl)) qbE (by kernel_rfl) rfl (v:=.bool false) (wn:=w) (fun τ=>.inl (by kernel_rfl)) (fun K6 M6 v6 W6 g6 e6 T6=>?_);refine h.qx T6.lt ?_;refine h.cond T6.lt (T6.plain 32 (v:=.bool false) (by kernel_rfl) rfl) ?_;rw[if_neg (by nofun)];refine h.skip T6.lt ?_;have gA:=(g2.trans g5).trans g6;have T6:=T6.zm (b:=j5 n st sh vl vm (qi (qi (qi (qi (qi (qi (qi (qi j 11 (.pointer (some ⟨bb1,0,none⟩))) 12 (.pointer (some ⟨bb2,0,none⟩))) 27 (.pointer (some ⟨bb1,0,none⟩))) 28 (.bool false)) 29 (.bool false)) 30 (.pointer (some ⟨bb2,0,none⟩))) 31 (.bool false)) 32 (.bool false))) (by kernel_rfl);refine h.seq T6.lt ?_;refine h.region T6.lt ?_;refine Way.move h T6 hk9 rfl (jO T6 (by kernel_rfl)) (.inl rfl) rfl (fun T7=>?_);refine Way.move h T7 hk9 rfl (jO T7 (by kernel_rfl)) (.inl rfl) rfl (fun T8=>?_);have v33:=T8.slot 33 (v:=.pointer (some ⟨bb1,0,none⟩)) (by kernel_rfl);have v34:=T8.slot 34 (v:=vl) (by kernel_rfl)
 have qxV:0<ls.length->∀g,vl.ownBlock=some g->¬F1 g:=fun hp g hg e=>by have:=hvl hp g hg;have:=(D.b1.from_ g e).1;omega
 refine Way.call h qbE T8 hk9 rfl (jO T8 (by kernel_rfl)) (f:=19) (fun W1=>(qa3 rfl rfl rfl Tryz.func19 rfl (by kernel_rfl) W1).1) (fun W1=>(qa3 rfl rfl rfl Tryz.func19 rfl (by kernel_rfl) W1).2) (by kernel_rfl) ⟨_,Tryz.func19,rfl⟩ (AV.two v33 v34)
  (R:=fun v w'=>∃(F S:Nat->Prop) (vf:Value) (p:List Tm.Fact),Bk w' X1 F S vf bb1 bx1 bc1 bm1 t sh lns p (zY (qe lns t sh) s1 (ls.take 100))/\Kept F1 w w'/\∀i,F i->F1 i\/w.heap.size<=i) (fun τ=>?_) ?_
 ·refine(qhz ls vl (qg w τ) (qo8 D.b1 τ).refl (by rw[n1];exact Tm.Zh.nil _) (by simp) (qbO hl (T:=fun _=>False) ⟨Nat.le_refl _,fun _ _ _=>rfl⟩ (fun _ _ _ e=>e)) qxV).mono ?_;rintro e w' ⟨rfl,fs',⟨F,S,vf,hB,hf,hi⟩,_⟩;exact⟨_,rfl,F,S,vf,fs',hB,⟨hf.size,hf.block⟩,hi⟩
 rintro K9 M9 v v9 w9 W9 g9 ⟨F1',S1',vf1,p1,hB9,k9,hi9⟩ hv9 T9;have D9:=D.first hB9 k9 hi9;refine h.qx T9.lt ?_;refine h.seq T9.lt ?_;refine h.region T9.lt ?_;refine Way.move h T9 hk9 rfl (jO T9 (by kernel_rfl)) (.inl rfl) rfl (fun T10=>?_);refine Way.move h T10 hk9 rfl (jO T10 (by kernel_rfl)) (.inl rfl) rfl (fun T11=>?_);have v36:=T11.slot 36 (v:=.pointer (some ⟨bb2,0,none⟩)) (by kernel_rfl);have v37:=T11.slot 37 (v:=vl) (by kernel_rfl);have hl9:XX w9 vl ls:=qbO hl k9 qxV
 have qAl:0<ls.length->∀g,vl.ownBlock=some g->¬F2 g:=fun hp g hg e=>by have:=hvl hp g hg;have:=(D.b2.from_ g e).1;have:=D.le1;have:=D.le2;omega
 refine Way.call h qbE T11 hk9 rfl (jO T11 (by kernel_rfl)) (f:=19) (fun W1=>(qa3 rfl rfl rfl Tryz.func19 rfl (by kernel_rfl) W1).1) (fun W1=>(qa3 rfl rfl rfl Tryz.func19 rfl (by kernel_rfl) W1).2) (by kernel_rfl) ⟨_,Tryz.func19,rfl⟩ (AV.two v36 v37)
  (R:=fun v w'=>∃(F S:Nat->Prop) (vf:Value) (p:List Tm.Fact),Bk w' X2 F S vf bb2 bx2 bc2 bm2 t sh lns p (zY (qe lns t sh) s2 (ls.take 100))/\Kept F2 w9 w'/\∀i,F i->F2 i\/w9.heap.size<=i) (fun τ=>?_) ?_
 ·refine(qhz ls vl (qg w9 τ) (qo8 D9.b2 τ).refl (by rw[n2];exact Tm.Zh.nil _) (by simp) (qbO hl9 (T:=fun _=>False) ⟨Nat.le_refl _,fun _ _ _=>rfl⟩ (fun _ _ _ e=>e)) qAl).mono ?_;rintro e w' ⟨rfl,fs',⟨F,S,vf,hB,hf,hi⟩,_⟩;exact⟨_,rfl,F,S,vf,fs',hB,⟨hf.size,hf.block⟩,hi⟩
 rintro K12 M12 v' v12 w12 W12 g12 ⟨F2',S2',vf2,p2,hB12,k12,hi12⟩ jr T12;have D12:=D9.second hB12 k12 hi12;refine h.qx T12.lt ?_;refine h.seq T12.lt ?_;refine h.region T12.lt ?_;refine Way.move h T12 hk9 rfl (jO T12 (by kernel_rfl)) (.inl rfl) rfl (fun T13=>?_);refine h.qxN T13 hk9 rfl (jO T13 (by kernel_rfl)) qbE (x:=39) rfl (p:=⟨bb1,0,none⟩) (by kernel_rfl) (fun K14 M14 v14 W14 g14 e14 T14=>?_);refine h.qsQ T14 hk9 rfl (jO T14 (by kernel_rfl)) qbE (t:=59) (x:=40) (f:=1) rfl (p:=.pointer (some ⟨bb1,0,none⟩)) (v:=.pointer (some ⟨bb1,1,none⟩)) (by kernel_rfl) (fun τ=>by kernel_rfl) (fun K15 M15 v15 W15 g15 e15 T15=>?_);refine h.qc1 T15 hk9 rfl (jO T15 (by kernel_rfl)) qbE (t:=56) (x:=41) rfl (p:=.pointer (some ⟨bb1,1,none⟩)) (v:=.pointer (some ⟨bx1,0,none⟩)) (by kernel_rfl) (fun τ=>qsR (W:=qg w12 τ) D12.b1.c1) (fun K16 M16 v16 W16 g16 e16 T16=>?_);refine Way.move h T16 hk9 rfl (jO T16 (by kernel_rfl)) (.inl rfl) rfl (fun T17=>?_);have hz:=D.b1.size;have hz9:=D9.b1.size;refine next K16 M16 (qi (qi (qi (qi (qi (qi (qi (qi (qi (qi (qi (qi (qi (qi (qi (qi (qi (qi (qi j 11 (.pointer (some ⟨bb1,0,none⟩))) 12 (.pointer (some ⟨bb2,0,none⟩))) 27 (.pointer (some ⟨bb1,0,none⟩))) 28 (.bool false)) 29 (.bool false)) 30 (.pointer (some ⟨bb2,0,none⟩))) 31 (.bool false)) 32 (.bool false)) 33 (.pointer (some ⟨bb1,0,none⟩))) 34 vl) 35 v) 36 (.pointer (some ⟨bb2,0,none⟩))) 37 vl) 38 v') 39 (.pointer (some ⟨bb1,0,none⟩))) 40 (.pointer (some ⟨bb1,0,none⟩))) 41 (.pointer (some ⟨bb1,1,none⟩))) 42 (.pointer (some ⟨bx1,0,none⟩))) 43 vm) _ w12 W16 F1' S1' vf1 F2' S2' vf2 p1 p2 ((((((gA.trans g9).trans g12).trans g14).trans g15).trans g16)) (Nat.le_trans k9.size k12.size) (fun g hg=>(k12.block g (by omega) (fun e=>by have:=(D9.b2.from_ g e).1;have:=D.le1;have:=D.le2;omega)).trans (k9.block g (by omega) (fun e=>by have:=(D.b1.from_ g e).1;omega))) D12 (by simp[qi]) (by simp[qi]) (by simp[qi]) (by simp[qi]) (T17.zm (by kernel_rfl)) (by simp only[put_defers])
