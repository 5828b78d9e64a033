import Derived.Test.YtmnjjjhmnhfapaaGreatDoorRows
import Derived.WalkKit
import Derived.WalkSpells
import Derived.WalkLawsBesides
import Derived.Conc.CrowdComm
import Derived.Conc.Know
import Derived.Conc.Own4
import Derived.Conc.Own2
import Derived.Conc.Own3
import Derived.Orders
import Derived.Conc.DeferLaws
import Derived.Test.YtmnjjjhmnhfapaaGreatDoorMPlain
namespace Go.Proofs.YtmnjjjhmnhfapaaGreatDoor
set_option maxRecDepth 100000
open Go.RowKit
variable {w:World}{size n:Nat}{v:Value}{xs:List Value}
theorem qb{p:Prop}(h:p):Hid p:=h
theorem yf{k:IntKind}{a b:Int}(h:a=b):Ending.returned (.int k a)=.returned (.int k b):=by rw[h]
theorem zI(s:ByteArray):s.data.toList.length=s.size:=by simp
theorem qjK(s:ByteArray)(h:0<s.size):s.data.toList.head?=some s[0]:=by
 have:=Tm.drop_cons s 0 h;simp at this;rw[this];rfl
theorem vN(s:ByteArray)(m k:Nat):(s.extract m k).data.toList=(s.data.toList.drop m).take (k-m):=by
 simp[ByteArray.data_extract,List.extract_eq_take_drop]
theorem qvN{W w1:World}(hb:Below W.heap.size W w1):(∀b o,b<W.heap.size->w1.cell? ⟨b,o,none⟩=W.cell? ⟨b,o,none⟩)/\(∀b o,b<W.heap.size->w1.frozen? ⟨b,o,none⟩=W.frozen? ⟨b,o,none⟩) :=
 ⟨fun b o h=>hb.cell (p:=⟨b,o,none⟩) h,fun b o h=>hb.frozen (p:=⟨b,o,none⟩) h⟩
def Reads(w:World)(v:Value)(size n:Nat)(xs:List Value):Prop :=
 xs.length=n * size/\(∀g,v.ownBlock=some g->g<w.heap.size) /\
 ∃a cap,v=.slice a n cap/\(n<=cap/\cap<=maxLen)/\∀j u,xs[j]?=some u->∃g off,a=some ⟨g,off,none⟩/\w.cell? ⟨g,off+j,none⟩=some u
theorem Reads.qn{base:Nat}{e:TypeId}(h:w.ownsRow base e size v n xs):Reads w v size n xs:=by
 refine⟨h.1,fun g hg=>(h.lt g hg).2,?_⟩;have hc:=@World.ownsRow.cells _ _ _ _ _ _ _ h;rcases h.2 with⟨rfl,rfl⟩|⟨g,cap,cur,rfl,_,_,hc1,hc2,_⟩
 ·have h0:=h.1;simp at h0;subst h0;exact⟨none,0,rfl,⟨Nat.le_refl _,Nat.zero_le _⟩,by simp⟩
 ·refine⟨_,cap,rfl,⟨hc1,hc2⟩,fun j u hu=>⟨g,0,rfl,?_⟩⟩;have hx:=hc (g:=g) rfl j u hu
  have qu0:(⟨g,0,none⟩:Addr).add j=⟨g,0+j,none⟩:=by unfold Addr.add;split<;>simp_all
  rw[qu0]at hx;exact hx
theorem Reads.form(h:Reads w v size n xs)(hn:0<xs.length) :
  ∃g off cap,v=.slice (some ⟨g,off,none⟩) n cap/\g<w.heap.size/\∀j u,xs[j]?=some u->w.cell? ⟨g,off+j,none⟩=some u:=by
 obtain⟨_,hlt,a,cap,rfl,_,hc⟩:=h;obtain⟨g,off,rfl,_⟩:=hc 0 xs[0] (by simp[hn]);refine⟨g,off,cap,rfl,hlt g rfl,fun j u hu=>?_⟩;obtain⟨g',j0,he,zC⟩:=hc j u hu;cases he;exact zC
theorem Reads.shape{w:World}{v:Value}{size n:Nat}{xs:List Value}(h:Reads w v size n xs):∃a cap,v=.slice a n cap:=by
 obtain⟨_,_,a,cap,rfl,_⟩:=h;exact⟨a,cap,rfl⟩
theorem Reads.fits{a:Option Addr}{m cap:Nat}(h:Reads w (.slice a m cap) size n xs):m=n/\n<=cap/\cap<=maxLen:=by
 obtain⟨_,_,a,cap,he,hc,_⟩:=h;cases he;exact⟨rfl,hc⟩
theorem Reads.jI{w':World}(h:Reads w v size n xs)(hs:w.heap.size<=w'.heap.size)(hb:∀g,v.ownBlock=some g->w'.heap[g]?=w.heap[g]?):Reads w' v size n xs:=by
 obtain⟨h1,hlt,a,cap,rfl,qV,hc⟩:=h;refine⟨h1,fun g hg=>Nat.lt_of_lt_of_le (hlt g hg) hs,a,cap,rfl,qV,fun j u hu=>?_⟩;obtain⟨g,off,rfl,zC⟩:=hc j u hu;refine⟨g,off,rfl,?_⟩;rw[World.cell?_of_block (w:=w) (hb g rfl)];exact zC
theorem Reads.below{w':World}(h:Reads w v size n xs){B:Nat}(hb:Below B w w')(hB:∀g,v.ownBlock=some g->g<B):Reads w' v size n xs :=
 h.jI hb.size (fun g hg=>hb.block g (hB g hg))
namespace Sim
variable {B E V:List Nat}
def qag(P:Program)(B E V:List Nat)(m:Bool)(n:Nat)(f:Nat):Bool :=
 B.contains f || E.contains f || (decide (1000000<=f)&&V.contains (f-1000000)) || (m&&(f == P.funcs.size || f == 999999)) || (decide (P.funcs.size<f)&&decide (f<P.funcs.size+1+n))
theorem qvB{P:Program}{m:Bool}{n:Nat}(hs:P.funcs.size+1+n<=999999)(hB:(B.all fun f=>decide (f<P.funcs.size))=true)(hE:(E.all fun f=>decide (f<P.funcs.size))=true)(hV:(V.all fun f=>B.contains f)=true){f:Nat}(h:qag P B E V m n (1000000+f)=true):qag P B E V m n f=true:=by
 unfold qag at h;simp only[Bool.or_eq_true,Bool.and_eq_true,decide_eq_true_eq,beq_iff_eq]at h;rcases h with(((h|h)|h)|h)|h
 ·have:=List.all_eq_true.1 hB _ (by simpa using h);simp at this;omega
 ·have:=List.all_eq_true.1 hE _ (by simpa using h);simp at this;omega
 ·have h2:V.contains f=true:=by
   have:=h.2
   rwa [Nat.add_sub_cancel_left]at this
  have:=List.all_eq_true.1 hV f (by simpa using h2);unfold qag;rw[this];rfl
 ·have h2:1000000+f=P.funcs.size\/1000000+f=999999:=h.2;omega
 ·have h2:1000000+f<P.funcs.size+1+n:=h.2;omega
theorem qpk{P:Program}{m:Bool}{n:Nat}(hs:P.funcs.size+1+n<=999999){f:Nat}(hf:f<P.funcs.size)(h:qag P B E V m n f=true):B.contains f=true\/E.contains f=true:=by
 unfold qag at h;simp only[Bool.or_eq_true,Bool.and_eq_true,decide_eq_true_eq,beq_iff_eq]at h;rcases h with(((h|h)|h)|h)|h
 ·exact .inl h
 ·exact .inr h
 ·have h2:1000000<=f:=h.1;omega
 ·have h2:f=P.funcs.size\/f=999999:=h.2;omega
 ·have h2:P.funcs.size<f:=h.1;omega
theorem qpl(P:Program)(B E V:List Nat)(m:Bool)(n:Nat)(hs:P.funcs.size+1+n<=999999)(hBs:(B.all fun f=>decide (f<P.funcs.size))=true)(hEs:(E.all fun f=>decide (f<P.funcs.size))=true)(hV:(V.all fun f=>B.contains f)=true)
  (hz:(P.types.toList.all fun i=>match i.zero with|some v=>jX 9 v|none=>true)=true)
  (hu:((List.range P.types.size).all fun t=>match P.underlying t with|some (.slice e)=>decide (e<P.types.size)|some (.map _ e)=>decide (e<P.types.size)|_=>true)=true)
  (hn:(match P.info? 0 with|some i=>(i.methods.find? (·.name == "")).isNone|none=>false)=true)
  (hB:(B.all fun f=>match P.funcs[f]? with|some fn=>(match fn.body with|some c=>jG P (qag P B E V m n) c|none=>false)&&!(fn.name == "runtime.NumGoroutine")|none=>false)=true)
  (hE:(E.all fun f=>match P.funcs[f]? with|some fn=>fn.body.isNone&&!(fn.name == "runtime.NumGoroutine")&&(Extern.findNext fn).isNone|none=>false)=true)
  (hX:∀f fn,f∈E->P.funcs[f]?=some fn->Extern.find fn=some Extern.BytealgCompare.compare\/Extern.find fn=some (Extern.SlicesOverlaps.overlaps fn.params fn.resultTypes) \/
   Extern.find fn=some Extern.BytealgIndexByte.indexByte\/Extern.find fn=some Extern.BytealgCount.count \/
   (Extern.find fn=some Extern.BytealgIndex.index/\∃g,P.globals.findIdx? (·.name == "internal/bytealg.MaxLen")=some g/\(P.funcs.size+1+g<999999/\qag P B E V m n (P.funcs.size+1+g)=true))):Good P (qag P B E V m n):=by
 have hut:∀t,t<P.types.size->(match P.underlying t with|some (.slice e)=>decide (e<P.types.size)|some (.map _ e)=>decide (e<P.types.size)|_=>true)=true:=fun t ht=>List.all_eq_true.1 hu t (by simpa using ht);refine⟨⟨fun t i v ht h1 h2=>?_,fun t e ht h1=>by have:=hut t ht;rw[h1]at this;simpa using this,fun t k e ht h1=>by have:=hut t ht;rw[h1]at this;simpa using this,?_⟩,fun f h=>qvB hs hBs hEs hV h,fun f hlt hf=>?_,fun f fn c hf h1 h2=>?_⟩
 ·unfold Tables.info? at h1;rw[if_pos ht]at h1;have hm:i∈P.types.toList:=Array.mem_toList_iff.2 (Array.mem_of_getElem? h1);have:=List.all_eq_true.1 hz i hm;rw[h2]at this;exact this
 ·cases hi:P.info? 0 with
  | none=>rw[hi]at hn;cases hn
  | some i=>rw[hi]at hn;exact⟨i,rfl,by simpa using hn⟩
 ·rcases qpk hs hlt hf with h|h
  ·have:=List.all_eq_true.1 hB f (by simpa using h)
   cases hfn:P.funcs[f]? with
   | none=>rw[hfn]at this;cases this
   | some fn =>
    rw[hfn]at this;simp only[Bool.and_eq_true,Bool.not_eq_true']at this;refine⟨fn,rfl,this.2,.inl ?_⟩
    cases hb:fn.body with
    | none=>have h3:=this.1;rw[hb]at h3;cases h3
    | some c=>rfl
  ·have hx:=List.all_eq_true.1 hE f (by simpa using h)
   cases hfn:P.funcs[f]? with
   | none=>rw[hfn]at hx;cases hx
   | some fn =>
    rw[hfn]at hx;simp only[Bool.and_eq_true,Bool.not_eq_true',Option.isNone_iff_eq_none]at hx;exact⟨fn,rfl,hx.1.2,.inr ⟨by rw[hx.1.1];rfl,hx.2,hX f fn (by simpa using h) hfn⟩⟩
 ·have hlt:f<P.funcs.size:=(Array.getElem?_eq_some_iff.1 h1).1;rcases qpk hs hlt hf with h|h
  ·have:=List.all_eq_true.1 hB f (by simpa using h);rw[h1]at this;simp only[Bool.and_eq_true,h2]at this;exact this.1
  ·have hx:=List.all_eq_true.1 hE f (by simpa using h);rw[h1]at hx;simp only[Bool.and_eq_true,h2]at hx;cases hx.1.1
def fsV:List Nat:=[119,194,157,166,93,111,113,73]
def qlG:List Nat:=[18,55,24,104,34,77,119,120,152,176,187,198,200,201,211,153,177,188,202,212,213,218,203,204,178,154,189,205,215,190,160,179,191,164,180,192,206,207,216,219,220,221,182,162,183,193,208,194,121,155,122,157,156,181,158,123,159,56,105,84,86,129,130,166,135,169,165,184,195,196,209,217,45,92,85,125,126,127,161,128,163,132,167,168,133,134,91,93,65,109,149,40,57,33,76,74,66,110,111,150,173,117,151,175,186,197,25,21,61,69,113,112,62,108,63,58,106,147,19,59,20,107,148,60,30,73,27,29]
def qjB:List Nat:=[210,199,214,185,174]
def qlH:List Nat:=[76,65,84,92,86,129,164,130,160,166,135,169,165,184,195,196,209,217,85,125,126,158,182,162,183,127,161,128,163,132,167,168,133,134,109,149,73,74,66,110,111,150,173,117,151,175,186,197,33,27,21,61,69,113,112,62,108,63,29,119,194,157,93]
def qjC:List Nat:=[185,174]
noncomputable def fs1:FuncId->Bool:=qag Tryz.prog qlG qjB fsV true 3
noncomputable def fs2:FuncId->Bool:=qag Tryz.prog qlH qjC fsV false 0
theorem qvC:(qlG.all fun f=>match Tryz.prog.funcs[f]? with|some fn=>(match fn.body with|some c=>jG Tryz.prog (qag Tryz.prog qlG qjB fsV true 3) c|none=>false)&&!(fn.name == "runtime.NumGoroutine")|none=>false)=true:=by kernel_rfl
theorem qvD:(qlH.all fun f=>match Tryz.prog.funcs[f]? with|some fn=>(match fn.body with|some c=>jG Tryz.prog (qag Tryz.prog qlH qjC fsV false 0) c|none=>false)&&!(fn.name == "runtime.NumGoroutine")|none=>false)=true:=by kernel_rfl
theorem qk2:(Tryz.prog.types.toList.all fun i=>match i.zero with|some v=>jX 9 v|none=>true)=true:=by kernel_rfl
theorem qjz:((List.range Tryz.prog.types.size).all fun t=>match Tryz.prog.underlying t with|some (.slice e)=>decide (e<Tryz.prog.types.size)|some (.map _ e)=>decide (e<Tryz.prog.types.size)|_=>true)=true:=by kernel_rfl
theorem qwW:(qjB.all fun f=>match Tryz.prog.funcs[f]? with|some fn=>fn.body.isNone&&!(fn.name == "runtime.NumGoroutine")&&(Extern.findNext fn).isNone|none=>false)=true:=by kernel_rfl
theorem qwX:(qjC.all fun f=>match Tryz.prog.funcs[f]? with|some fn=>fn.body.isNone&&!(fn.name == "runtime.NumGoroutine")&&(Extern.findNext fn).isNone|none=>false)=true:=by kernel_rfl
theorem qpm:Extern.find Tryz.f185=some Extern.BytealgCompare.compare:=by rfl
theorem qnJ:Extern.find Tryz.f174=some (Extern.SlicesOverlaps.overlaps Tryz.f174.params Tryz.f174.resultTypes):=by rfl
theorem qvE:Extern.find Tryz.f210=some Extern.BytealgIndexByte.indexByte:=by rfl
theorem qtp:Extern.find Tryz.f214=some Extern.BytealgCount.count:=by rfl
theorem qtq:Extern.find Tryz.f199=some Extern.BytealgIndex.index:=by rfl
theorem qbE:Good Tryz.prog fs1:=qpl _ qlG qjB fsV true 3 (by decide +kernel) (by kernel_rfl) (by kernel_rfl) (by kernel_rfl) qk2 qjz (by kernel_rfl) qvC qwW (fun f fn hm hfn=>by
 have hm:f=210\/f=199\/f=214\/f=185\/f=174:=by simpa[qjB]using hm
 rcases hm with rfl|rfl|rfl|rfl|rfl
 ·rw[Tryz.func210]at hfn;cases hfn;exact .inr (.inr (.inl qvE))
 ·rw[Tryz.func199]at hfn;cases hfn;exact .inr (.inr (.inr (.inr ⟨qtq,0,by kernel_rfl,by decide +kernel,by kernel_rfl⟩)))
 ·rw[Tryz.func214]at hfn;cases hfn;exact .inr (.inr (.inr (.inl qtp)))
 ·rw[Tryz.func185]at hfn;cases hfn;exact .inl qpm
 ·rw[Tryz.func174]at hfn;cases hfn
  exact .inr (.inl qnJ))
theorem zn:Good Tryz.prog fs2:=qpl _ qlH qjC fsV false 0 (by decide +kernel) (by kernel_rfl) (by kernel_rfl) (by kernel_rfl) qk2 qjz (by kernel_rfl) qvD qwX (fun f fn hm hfn=>by
 have hm:f=185\/f=174:=by simpa[qjC]using hm
 rcases hm with rfl|rfl
 ·rw[Tryz.func185]at hfn;cases hfn;exact .inl qpm
 ·rw[Tryz.func174]at hfn;cases hfn
  exact .inr (.inl qnJ))
end Sim
namespace Sim
inductive Tr where
 | leaf
 | node (f:World->Tr)
inductive Tr.Sub:Tr->Tr->Prop
 | of (f:World->Tr) (W:World):Tr.Sub (f W) (.node f)
theorem Tr.wf:WellFounded Tr.Sub:=⟨fun t=>by
 induction t with
 | leaf=>exact⟨_,fun _ h=>by cases h⟩
 | node f ih=>exact⟨_,fun _ h=>by cases h;exact ih _⟩⟩
inductive Qwd{α β:Type}(r:α->α->Prop)(s:β->β->Prop):α×β->α×β->Prop
 | fst {a a':α} {b:β}:r a' a->Qwd r s (a',b) (a,b)
 | snd {a:α} {b b':β}:s b' b->Qwd r s (a,b') (a,b)
end Sim
namespace Sim
open Go.Conc
def vJ(w:World)(b:Nat):Prop:=∃o,w.heap[b]?=some o/\o.isChan=true
theorem vJ.no{w:World}{b:Nat}(h:vJ w b)(k:jZ w b):False:=by
 obtain⟨o,h1,h2⟩:=h;rw[k o h1]at h2;cases h2
def qpn:Loc->Option Nat
 | .cell a=>some a.block
 | .obj r=>some r
 | _=>none
def QAK(Ro:Nat->Prop)(w:World)(a:Touch)(b:Nat):Prop:=(Ro b/\a.write=false)\/(a.kind=.atomic/\vJ w b)
def Calm(t:Trace):Prop:=∀op∈t,op.act≠.mark .disable/\op.act≠.mark .enable
theorem Calm.append{t u:Trace}(ht:Calm t)(hu:Calm u):Calm (t++u):=fun op hop=>(Array.mem_append.1 hop).elim (ht op) (hu op)
theorem Calm.deaf{t:Trace}(h:Calm t)(g:Nat):∀i,t.deaf g i=0:=by
 intro i
 induction i with
 | zero=>rfl
 | succ i ih =>
  unfold Trace.deaf;split
  ·rename_i heq;exact absurd rfl (h _ (mem_of_getElem? heq)).1
  ·rename_i heq;exact absurd rfl (h _ (mem_of_getElem? heq)).2
  ·exact ih
theorem Calm.heard{t:Trace}(h:Calm t){i:Nat}{op:MemOp}(hi:t[i]?=some op):t.heard i:=⟨op.g,by simp[Trace.g?,hi],h.deaf _ _⟩
theorem xj{g:Nat}{fn:FuncId}{pos:String}{es:Array Event}{op:MemOp}(h:op∈MemOp.ofEvents g fn pos es):∃e∈es,op={g,fn,pos,act:=.ofEvent e}:=by
 rw[ofEvents_eq]at h;obtain⟨e,he,rfl⟩:=Array.mem_map.1 h;exact⟨e,he,rfl⟩
theorem Ev.touch{Ro:Nat->Prop}{W:World}{M:Nat->Prop}{e:Event}(h:Ev Ro W M e){x:Touch}(hx:(MemAct.ofEvent e).touch?=some x) :
  ∃b,qpn x.loc=some b/\M b/\(x.write=true->¬Ro b)/\((x.kind=.plain/\jZ W b)\/x.kind=.atomic):=by
 obtain⟨loc,wr,sy⟩:=e;unfold Ev at h
 cases loc with
 | cell a =>
  obtain⟨h1,h2,h3,h4⟩:=h;dsimp only at h1;subst h1;cases hx;exact⟨_,rfl,h2,h3,.inl ⟨rfl,h4⟩⟩
 | obj r =>
  obtain⟨h1,h2,h3,h4⟩:=h
  cases sy with
  | true =>
   have hw:=h3 rfl;dsimp only at hw;subst hw;cases hx;exact⟨_,rfl,h1,h2,.inr rfl⟩
  | false =>
   cases wr<;>cases hx<;>exact⟨_,rfl,h1,h2,.inl ⟨rfl,h4 rfl⟩⟩
 | mark m=>cases m<;>first|(exact h.elim)|(cases hx;done)
 | _=>exact h.elim
theorem Ev.calm{Ro:Nat->Prop}{W:World}{M:Nat->Prop}{e:Event}(h:Ev Ro W M e):MemAct.ofEvent e≠.mark .disable/\MemAct.ofEvent e≠.mark .enable:=by
 obtain⟨loc,wr,sy⟩:=e;unfold Ev at h
 cases loc with
 | cell a=>exact⟨nofun,nofun⟩
 | obj r=>cases wr<;>cases sy<;>exact⟨nofun,nofun⟩
 | mark m=>cases m<;>first|(exact h.elim)|exact⟨nofun,nofun⟩
 | _=>exact h.elim
def upd{α:Type}(f:Nat->α)(i:Nat)(x:α):Nat->α:=fun a=>if a=i then x else f a
theorem jh{α:Type}(f:Nat->α)(i:Nat)(x:α):upd f i x i=x:=if_pos rfl
theorem y9{α:Type}(f:Nat->α){i a:Nat}(x:α)(h:a≠i):upd f i x a=f a:=if_neg h
structure Env(Ro:Nat->Prop)(n:Nat)(Ms:Nat->Nat->Prop)(w:World)(t:Trace):Prop where
 lt:∀i,i<n->∀b,Ms i b->b<w.heap.size
 apart:∀i j,i<n->j<n->i≠j->∀b,Ms i b->Ms j b->Ro b\/vJ w b
 clean:∀said,¬Race said t
 known:∀i,i<n->∀p a b,touchAt t p=some a->qpn a.loc=some b->(Ms i b\/w.heap.size<=b)->Knows t i p\/QAK Ro w a b
 calm:Calm t
 gsn:∀op∈t,op.g<n
section
variable {Ro:Nat->Prop}{n:Nat}{Ms:Nat->Nat->Prop}{w w':World}{t:Trace}
variable {M':Nat->Prop}{es:Array Event}{i c:Nat}
theorem Env.at(h:Env Ro n Ms w t)(d:Nat):Env Ro n Ms (w.at d) t:=⟨h.lt,h.apart,h.clean,h.known,h.calm,h.gsn⟩
theorem YK.vJ{M:Nat->Prop}(k:YK Ro M w M' w' es){b:Nat}(h:vJ w b):vJ w' b:=by
 obtain⟨o,h1,h2⟩:=h;exact⟨o,k.chan b o h1 h2,h2⟩
theorem Env.rely(h:Env Ro n Ms w t){j:Nat}(hi:i<n)(hj:j<n)(hne:j≠i)(k:YK Ro (Ms i) w M' w' es):QK (Ms j) w w':=by
 refine⟨fun b hb hn=>?_,fun b o ho hc=>⟨o,k.chan b o ho hc,hc⟩,k.size⟩;by_cases hx:¬Ms i b\/Ro b
 ·exact k.same b (h.lt j hj b hb) hx
 ·have h1:Ms i b:=Classical.byContradiction fun x=>hx (.inl x);rcases h.apart i j hi hj (Ne.symm hne) b h1 hb with h2|h2
  ·exact absurd (.inr h2) hx
  ·exact(h2.no hn).elim
theorem Env.own(h:Env Ro n Ms w t)(hi:i<n)(k:YK Ro (Ms i) w M' w' es)(fn:FuncId)(pos:String) :
  Env Ro n (upd Ms i M') w' (t++MemOp.ofEvents i fn pos es):=by
 have hold:∀j,j<n->∀b,upd Ms i M' j b->b<w.heap.size->Ms j b:=fun j hj b hb hl=>by
  by_cases e:j=i
  ·subst e;rw[jh]at hb;exact(k.new b hb).elim id (fun x=>absurd hl (Nat.not_lt.2 x))
  ·rwa [y9 _ _ e]at hb
 refine⟨fun j hj b hb=>?_,fun j l hj hl hne b h1 h2=>?_,fun said=>?_,fun j hj p a b ha hb hm=>?_,h.calm.append fun op hop=>?_,fun op hop=>?_⟩
 ·by_cases e:j=i
  ·subst e;rw[jh]at hb;exact k.lt b hb
  ·rw[y9 _ _ e]at hb;exact Nat.lt_of_lt_of_le (h.lt j hj b hb) k.size
 ·have hlt:b<w.heap.size:=by
   by_cases e:j=i
   ·have e':l≠i:=fun x=>hne (e.trans x.symm);rw[y9 _ _ e']at h2;exact h.lt l hl b h2
   ·rw[y9 _ _ e]at h1;exact h.lt j hj b h1
  exact(h.apart j l hj hl hne b (hold j hj b h1 hlt) (hold l hl b h2 hlt)).imp id k.vJ
 ·refine noRace_append (g:=i) (h.clean said) (fun op hop=>?_) (fun p a ha op hop x hx hc=>?_)
  ·obtain⟨e,_,rfl⟩:=xj hop;rfl
  ·obtain⟨e,he,rfl⟩:=xj hop;obtain⟨b,hb,hM,hw,hk⟩:=(k.evs e he).touch hx;obtain⟨hl,_,hwr,qcT⟩:=hc;rcases h.known i hi p a b ha (by rw[hl];exact hb) (k.new b hM)with h1|⟨h1,h2⟩|⟨h1,h2⟩
   ·exact h1
   ·rw[h2]at hwr;exact absurd h1 (hw (hwr.elim (fun y=>by cases y) id))
   ·rcases hk with⟨_,h4⟩|h3
    ·exact(h2.no h4).elim
    ·rw[h1,h3]at qcT;rcases qcT with y|y|⟨_,y,_⟩<;>cases y
 ·obtain⟨op,hop,hxa⟩:=touch_of ha;rcases getElem?_append_cases hop with⟨_,hx'⟩|⟨_,hxu⟩
  ·have hm':Ms j b\/w.heap.size<=b:=by
    by_cases hl:b<w.heap.size
    ·rcases hm with hm|hm
     ·exact .inl (hold j hj b hm hl)
     ·exact absurd (Nat.lt_of_lt_of_le hl (Nat.le_trans k.size hm)) (Nat.lt_irrefl _)
    ·exact .inr (Nat.not_lt.1 hl)
   exact(h.known j hj p a b (by rw[touchAt_of hx'];exact hxa) hb hm').imp (·.app _) (Or.imp id fun y=>⟨y.1,k.vJ y.2⟩)
  ·obtain⟨e,he,rfl⟩:=xj hxu;by_cases e':j=i
   ·subst e';exact .inl (knows_own hop)
   ·right;obtain⟨b',hb',hM,hw,hk⟩:=(k.evs e he).touch hxa;rw[hb]at hb';cases hb';rw[y9 _ _ e']at hm;have hmj:Ms j b:=hm.elim id fun y=>absurd (k.lt b hM) (Nat.not_lt.2 y);have hlt:=h.lt j hj b hmj;have hMi:Ms i b:=(k.new b hM).elim id fun y=>absurd hlt (Nat.not_lt.2 y);rcases h.apart i j hi hj (Ne.symm e') b hMi hmj with h1|h1
    ·refine .inl ⟨h1,?_⟩
     cases hwr:a.write with
     | false=>rfl
     | true=>exact absurd h1 (hw hwr)
    ·rcases hk with⟨_,h4⟩|h3
     ·exact(h1.no h4).elim
     ·exact .inr ⟨h3,k.vJ h1⟩
 ·obtain⟨e,he,rfl⟩:=xj hop;exact(k.evs e he).calm
 ·rcases Array.mem_append.1 hop with h1|h1
  ·exact h.gsn op h1
  ·obtain⟨e,_,rfl⟩:=xj h1;exact hi
structure Qad(w w':World):Prop where
 size:w'.heap.size=w.heap.size
 same:∀b,jZ w b->w'.heap[b]?=w.heap[b]?
 chan:∀b,vJ w b->vJ w' b
theorem Qad.rely(h:Qad w w')(M:Nat->Prop):QK M w w':=⟨fun b _ hn=>h.same b hn,fun b o ho hc=>h.chan b ⟨o,ho,hc⟩,Nat.le_of_eq h.size.symm⟩
theorem Qad.at(w:World)(d:Nat):Qad w (w.at d):=⟨rfl,fun _ _=>rfl,fun _ h=>h⟩
theorem Qad.set{cap s r z8 s' r':Nat}{buf qAL:Array Value}{cl cl' tm tm':Bool}(hc:w.heap[c]?=some (.chan cap buf cl s r tm))(hh:w'.heap=w.heap.setIfInBounds c (.chan z8 qAL cl' s' r' tm')):Qad w w':=by
 refine⟨by rw[hh];simp,fun b hn=>?_,fun b hb=>?_⟩
 ·have:c≠b:=by
   rintro rfl;have:=hn _ hc;cases this
  rw[hh,Array.getElem?_setIfInBounds_ne this]
 ·by_cases e:c=b
  ·subst e;obtain⟨hlt,_⟩:=Array.getElem?_eq_some_iff.1 hc;exact⟨_,by rw[hh,Array.getElem?_setIfInBounds_self_of_lt hlt],rfl⟩
  ·obtain⟨o,h1,h2⟩:=hb;exact⟨o,by rw[hh,Array.getElem?_setIfInBounds_ne e];exact h1,h2⟩
theorem qhP{said:Bool}{t u:Trace}(h:¬Race said t)(hu:∀op∈u,op.act.touch?=none):¬Race said (t++u):=by
 rintro⟨i,j,hij,⟨a,b,ha,hb,hc⟩,n1,n2⟩;obtain⟨x,hx,hxa⟩:=touch_of ha;obtain⟨y,hy,hyb⟩:=touch_of hb;rcases getElem?_append_cases hy with⟨hj,hy'⟩|⟨hj,hyu⟩
 ·have hi:i<t.size:=Nat.lt_trans hij hj
  have hx':t[i]?=some x:=by rw[<-getElem?_append_old (u:=u) hi];exact hx
  exact h ⟨i,j,hij,⟨a,b,by simp[Trace.act?,hx',hxa],by simp[Trace.act?,hy',hyb],hc⟩,fun e=>n1 (hb_app u e),fun e=>n2 (hb_app u e)⟩
 ·rw[hu y hyu]at hyb;cases hyb
theorem Env.comm(h:Env Ro n Ms w t)(k:Qad w w'){u:Trace}(hu:∀op∈u,op.act.touch?=none/\op.g<n/\op.act≠.mark .disable/\op.act≠.mark .enable):Env Ro n Ms w' (t++u):=by
 refine⟨fun i hi b hb=>by rw[k.size];exact h.lt i hi b hb,fun i j hi hj hne b h1 h2=>(h.apart i j hi hj hne b h1 h2).imp id (k.chan b),fun said=>qhP (h.clean said) fun op hop=>(hu op hop).1,fun j hj p a b ha hb hm=>?_,h.calm.append fun op hop=>(hu op hop).2.2,fun op hop=>(Array.mem_append.1 hop).elim (h.gsn op) fun x=>(hu op x).2.1⟩;obtain⟨op,hop,hxa⟩:=touch_of ha;rcases getElem?_append_cases hop with⟨_,hx'⟩|⟨_,hxu⟩
 ·rw[k.size]at hm;exact(h.known j hj p a b (by rw[touchAt_of hx'];exact hxa) hb hm).imp (·.app _) (Or.imp id fun y=>⟨y.1,k.chan b y.2⟩)
 ·rw[(hu op hxu).1]at hxa;cases hxa
theorem Env.close(h:Env Ro n Ms w t)(k:Qad w w')(hi:i<n)(hc:vJ w c)(qrw:Ms i c)(fn:FuncId)(pos:String) :
  Env Ro n Ms w' (t++MemOp.ofEvents i fn pos #[⟨.obj c,false,true⟩,⟨.obj c,true,true⟩]):=by
 have e:MemOp.ofEvents i fn pos #[⟨.obj c,false,true⟩,⟨.obj c,true,true⟩]=MemOp.ofEvents i fn pos #[⟨.obj c,false,true⟩]++#[{g:=i,fn,pos,act:=.close c}]:=by
  rw[ofEvents_eq,ofEvents_eq];simp[MemAct.ofEvent]
 rw[e,<-Array.append_assoc]
 refine Env.comm (w:=w) ?_ k (fun op hop=>by
  simp only[List.mem_toArray,List.mem_singleton]at hop
  subst hop;exact⟨rfl,hi,nofun,nofun⟩)
 have mem:∀op∈MemOp.ofEvents i fn pos #[⟨.obj c,false,true⟩],op={g:=i,fn,pos,act:=.access ⟨.obj c,false,true⟩}:=fun op hop=>by
  obtain⟨e,he,rfl⟩:=xj hop;simp only[List.mem_toArray,List.mem_singleton]at he;subst he;rfl
 refine⟨h.lt,h.apart,fun said=>noRace_append (g:=i) (h.clean said) (fun op hop=>by rw[mem op hop]) (fun p a ha op hop x hx hc'=>?_),fun j hj p a b ha hb hm=>?_,h.calm.append fun op hop=>by rw[mem op hop];exact⟨nofun,nofun⟩,fun op hop=>(Array.mem_append.1 hop).elim (h.gsn op) fun y=>by rw[mem op y];exact hi⟩
 ·rw[mem op hop]at hx;cases hx;obtain⟨hl,_,hwr,qcT⟩:=hc';rcases h.known i hi p a c ha (by rw[hl];rfl) (.inl qrw)with h1|⟨_,h2⟩|⟨h1,_⟩
  ·exact h1
  ·rw[h2]at hwr;rcases hwr with y|y<;>cases y
  ·rw[h1]at qcT;rcases qcT with y|y|⟨_,y,_⟩<;>cases y
 ·obtain⟨op,hop,hxa⟩:=touch_of ha;rcases getElem?_append_cases hop with⟨_,hx'⟩|⟨_,hxu⟩
  ·exact(h.known j hj p a b (by rw[touchAt_of hx'];exact hxa) hb hm).imp (·.app _) id
  ·rw[mem op hxu]at hxa;cases hxa;cases hb;exact .inr (.inr ⟨rfl,hc⟩)
theorem Env.spawn(h:Env Ro n Ms w t)(hi:i<n){Mc:Nat->Prop}(hMc:∀b,Mc b->Ms i b/\(Ro b\/b=c))(hc:vJ w c)(fn fn':FuncId)(pos pos':String) :
  Env Ro (n+1) (upd Ms n Mc) w (t++#[{g:=i,fn:=fn,pos:=pos,act:=.go n},{g:=n,fn:=fn',pos:=pos',act:=.start}]):=by
 have qyu:∀b,Mc b->Ms i b/\(Ro b\/vJ w b):=fun b hb=>⟨(hMc b hb).1,(hMc b hb).2.imp id fun(e:b=c)=>by rw[e];exact hc⟩
 have mem:∀op∈(#[{g:=i,fn:=fn,pos:=pos,act:=.go n},{g:=n,fn:=fn',pos:=pos',act:=.start}]:Trace),op.act.touch?=none/\op.g<n+1/\op.act≠.mark .disable/\op.act≠.mark .enable:=fun op hop=>by
  simp only[List.mem_toArray,List.mem_cons,List.not_mem_nil,or_false]at hop;rcases hop with rfl|rfl
  ·exact⟨rfl,by show i<n+1;omega,nofun,nofun⟩
  ·exact⟨rfl,by show n<n+1;omega,nofun,nofun⟩
 refine⟨fun j hj b hb=>?_,fun j l hj hl hne b h1 h2=>?_,fun said=>qhP (h.clean said) fun op hop=>(mem op hop).1,fun j hj p a b ha hb hm=>?_,h.calm.append fun op hop=>(mem op hop).2.2,fun op hop=>(Array.mem_append.1 hop).elim (fun x=>Nat.lt_succ_of_lt (h.gsn op x)) fun x=>(mem op x).2.1⟩
 ·by_cases e:j=n
  ·subst e;rw[jh]at hb;exact h.lt i hi b (hMc b hb).1
  ·rw[y9 _ _ e]at hb;exact h.lt j (by omega) b hb
 ·by_cases e:j=n
  ·subst e;rw[jh]at h1;exact(qyu b h1).2
  ·by_cases e':l=n
   ·subst e';rw[jh]at h2;exact(qyu b h2).2
   ·rw[y9 _ _ e]at h1;rw[y9 _ _ e']at h2;exact h.apart j l (by omega) (by omega) hne b h1 h2
 ·obtain⟨op,hop,hxa⟩:=touch_of ha;rcases getElem?_append_cases hop with⟨_,hx'⟩|⟨_,hxu⟩
  ·have ha':touchAt t p=some a:=by rw[touchAt_of hx'];exact hxa
   by_cases e:j=n
   ·subst e;rw[jh]at hm;rcases h.known i hi p a b ha' hb (hm.imp (fun y=>(hMc b y).1) id)with h1|h1
    ·left;generalize hu:(#[{g:=i,fn:=fn,pos:=pos,act:=.go j},{g:=j,fn:=fn',pos:=pos',act:=.start}]:Trace)=u
     have g0:(t++u)[t.size]?=some {g:=i,fn:=fn,pos:=pos,act:=.go j}:=by rw[Array.getElem?_append_right (Nat.le_refl _),<-hu];simp
     have g1:(t++u)[t.size+1]?=some {g:=j,fn:=fn',pos:=pos',act:=.start}:=by rw[Array.getElem?_append_right (by omega),<-hu];simp
     have qcO:Calm (t++u):=h.calm.append (hu▸fun op hop=>(mem op hop).2.2);refine⟨t.size+1,_,g1,rfl,.inr ?_⟩;refine Before.hb (.inr (h1.hb_new (Nat.le_refl _) g0 rfl)) (.single (.inr ⟨.spawn (child:=j) (by rw[act?_of g0]) (by rw[act?_of g1]) (by simp[Trace.g?,g1]),qcO.heard g0,qcO.heard g1⟩))
    ·exact .inr h1
   ·rw[y9 _ _ e]at hm;exact(h.known j (by omega) p a b ha' hb hm).imp (·.app _) id
  ·rw[(mem op hxu).1]at hxa;cases hxa
end
end Sim
namespace Sim
open Go.Conc
def chain:Nat->Tr
 | 0=>.leaf
 | k+1=>.node fun _=>chain k
section
variable (P:Program)(Ro:Nat->Prop)
def SdT(c:Nat):Tr->List Value->(Nat->Prop)->Goroutine->World->Prop
 | .leaf,_,_,_,_=>False
 | .node f,vs,M,g,W=>g.status=.running /\
   ((∀W1,QK M W W1->∃x:Nx,(stepG P false g W1=.go x.g x.w x.es/\x.g.status=.running/\YK Ro M W1 x.M x.w x.es)/\SdT c (f W1) vs x.M x.g x.w) \/
   (∃v vs' z,vs=v::vs'/\M c/\∀W1,QK M W W1->stepG P false g W1=.comm g #[scase c v z] true .send W1 #[]/\SdT c (f W1) vs' M (Conc.served g undef) W1) \/
   (vs=[]/\M c/\mayWake P g=true/\∃g' k,QuitsIn P k g'/\g'.status=.running/\∀W1,QK M W W1->f W1=chain k/\∀cap buf s r tm,W1.heap[c]?=some (.chan cap buf false s r tm) ->
    stepG P false g W1=.go g' {W1 with heap:=W1.heap.setIfInBounds c (.chan cap buf true s r tm)} #[⟨.obj c,false,true⟩,⟨.obj c,true,true⟩]))
def Sd(c:Nat)(vs:List Value)(M:Nat->Prop)(g:Goroutine)(W:World):Prop:=∃t,SdT P Ro c t vs M g W
variable (Qk:Value->World->Prop)
def ScT:Tr->Option Nat->(Nat->List (Option Value))->(Nat->Prop)->Goroutine->World->Prop
 | .leaf,_,_,_,_,_=>False
 | .node f,made,rem,M,g,W=>g.status=.running /\
   ((∀W1,QK M W W1->∃x:Nx,(stepG P true g W1=.go x.g x.w x.es/\x.g.status=.running/\YK Ro M W1 x.M x.w x.es)/\ScT (f W1) made rem x.M x.g x.w) \/
   (∀W1,QK M W W1->∃(x:Nx) (c:Nat),(stepG P true g W1=.go x.g x.w x.es/\x.g.status=.running/\YK Ro M W1 x.M x.w x.es)/\W1.heap.size<=c/\(∃s r tm,x.w.heap[c]?=some (.chan 0 #[] false s r tm))/\ScT (f W1) (some c) rem x.M x.g x.w) \/
   (∃c vs,made=some c/\∀W1,QK M W W1->∃g' child Mc,stepG P true g W1=.spawn g' child W1 #[]/\(∀b,Mc b->M b/\(Ro b\/b=c))/\Sd P Ro c vs Mc child W1/\ScT (f W1) none (upd rem c (vs.map some++[none])) M g' W1) \/
   (∃c ok z o r,rem c=o::r/\M c/\∀W1,QK M W W1->stepG P true g W1=.comm g #[rcase c z] true (.recv ok) W1 #[]/\ScT (f W1) made (upd rem c r) M (Conc.served g (recvd ok (o.getD z) o.isSome)) W1) \/
   ((∀c,rem c=[])/\∀W1,QK M W W1->∃v W' M' es,stepG P true g W1=.ended (.done v) W' es/\YK Ro M W1 M' W' es/\Qk v W'))
def Sc(made:Option Nat)(rem:Nat->List (Option Value))(M:Nat->Prop)(g:Goroutine)(W:World):Prop:=∃t,ScT P Ro Qk t made rem M g W
end
section
variable {P:Program}{Ro:Nat->Prop}{Qk:Value->World->Prop}
variable {M:Nat->Prop}{g:Goroutine}
theorem SdT.rely{c:Nat}{t:Tr}{vs:List Value}{W W1:World}(h:SdT P Ro c t vs M g W)(r:QK M W W1):SdT P Ro c t vs M g W1:=by
 cases t with
 | leaf=>exact h
 | node f =>
  obtain⟨hr,h|⟨v,vs',z,e,hc,h⟩|⟨e,hc,hm,g',k,hq,hs,h⟩⟩:=h
  ·exact⟨hr,.inl fun W2 r2=>h W2 (r.after r2)⟩
  ·exact⟨hr,.inr (.inl ⟨v,vs',z,e,hc,fun W2 r2=>h W2 (r.after r2)⟩)⟩
  ·exact⟨hr,.inr (.inr ⟨e,hc,hm,g',k,hq,hs,fun W2 r2=>h W2 (r.after r2)⟩)⟩
theorem SdT.running{c:Nat}{t:Tr}{vs:List Value}{M:Nat->Prop}{g:Goroutine}{W:World}(h:SdT P Ro c t vs M g W):g.status=.running:=by
 cases t with
 | leaf=>exact h.elim
 | node f=>exact h.1
theorem ScT.rely{t:Tr}{made:Option Nat}{rem:Nat->List (Option Value)}{W W1:World}(h:ScT P Ro Qk t made rem M g W)(r:QK M W W1):ScT P Ro Qk t made rem M g W1:=by
 cases t with
 | leaf=>exact h
 | node f =>
  obtain⟨hr,h|h|⟨c,vs,e,h⟩|⟨c,ok,z,o,l,e,hc,h⟩|⟨e,h⟩⟩:=h
  ·exact⟨hr,.inl fun W2 r2=>h W2 (r.after r2)⟩
  ·exact⟨hr,.inr (.inl fun W2 r2=>h W2 (r.after r2))⟩
  ·exact⟨hr,.inr (.inr (.inl ⟨c,vs,e,fun W2 r2=>h W2 (r.after r2)⟩))⟩
  ·exact⟨hr,.inr (.inr (.inr (.inl ⟨c,ok,z,o,l,e,hc,fun W2 r2=>h W2 (r.after r2)⟩)))⟩
  ·exact⟨hr,.inr (.inr (.inr (.inr ⟨e,fun W2 r2=>h W2 (r.after r2)⟩)))⟩
theorem ScT.running{t:Tr}{made:Option Nat}{rem:Nat->List (Option Value)}{M:Nat->Prop}{g:Goroutine}{W:World}(h:ScT P Ro Qk t made rem M g W):g.status=.running:=by
 cases t with
 | leaf=>exact h.elim
 | node f=>exact h.1
theorem trees{R:World->Prop}{Q:Tr->World->Prop}(h:∀W1,R W1->∃t,Q t W1):∃f:World->Tr,∀W1,R W1->Q (f W1) W1:=by
 classical
 refine⟨fun W1=>if hx:R W1 then Classical.choose (h W1 hx)else .leaf,fun W1 hx=>?_⟩;dsimp only;rw[dif_pos hx];exact Classical.choose_spec (h W1 hx)
section
variable {c:Nat}{vs:List Value}{M:Nat->Prop}{g:Goroutine}{W:World}
theorem Sd.go(hr:g.status=.running)(h:∀W1,QK M W W1->∃x:Nx,(stepG P false g W1=.go x.g x.w x.es/\x.g.status=.running/\YK Ro M W1 x.M x.w x.es)/\Sd P Ro c vs x.M x.g x.w):Sd P Ro c vs M g W:=by
 obtain⟨f,hf⟩:=trees (R:=QK M W) (Q:=fun t W1=>∃x:Nx,(stepG P false g W1=.go x.g x.w x.es/\x.g.status=.running/\YK Ro M W1 x.M x.w x.es)/\SdT P Ro c t vs x.M x.g x.w) (fun W1 hx=>by
  obtain⟨x,h1,t,h2⟩:=h W1 hx
  exact⟨t,x,h1,h2⟩)
 exact⟨.node f,hr,.inl hf⟩
theorem Sd.send{v z:Value}(hr:g.status=.running)(hc:M c)(h:∀W1,QK M W W1->stepG P false g W1=.comm g #[scase c v z] true .send W1 #[]/\Sd P Ro c vs M (Conc.served g undef) W1):Sd P Ro c (v::vs) M g W:=by
 obtain⟨f,hf⟩:=trees (R:=QK M W) (Q:=fun t W1=>stepG P false g W1=.comm g #[scase c v z] true .send W1 #[]/\SdT P Ro c t vs M (Conc.served g undef) W1) (fun W1 hx=>by
  obtain⟨h1,t,h2⟩:=h W1 hx
  exact⟨t,h1,h2⟩)
 exact⟨.node f,hr,.inr (.inl ⟨v,vs,z,rfl,hc,hf⟩)⟩
theorem Sd.close{g':Goroutine}{k:Nat}(hr:g.status=.running)(hc:M c)(hm:mayWake P g=true)(hq:QuitsIn P k g')(hs:g'.status=.running)
  (h:∀W1,QK M W W1->∀cap buf s r tm,W1.heap[c]?=some (.chan cap buf false s r tm)->stepG P false g W1=.go g' {W1 with heap:=W1.heap.setIfInBounds c (.chan cap buf true s r tm)} #[⟨.obj c,false,true⟩,⟨.obj c,true,true⟩]):Sd P Ro c [] M g W :=
 ⟨.node fun _=>chain k,hr,.inr (.inr ⟨rfl,hc,hm,g',k,hq,hs,fun W1 hx=>⟨rfl,h W1 hx⟩⟩)⟩
theorem Sd.rely{W1:World}(h:Sd P Ro c vs M g W)(r:QK M W W1):Sd P Ro c vs M g W1:=h.imp fun _ x=>x.rely r
end
section
variable {made:Option Nat}{rem:Nat->List (Option Value)}{M:Nat->Prop}{g:Goroutine}{W:World}
theorem Sc.go(hr:g.status=.running)(h:∀W1,QK M W W1->∃x:Nx,(stepG P true g W1=.go x.g x.w x.es/\x.g.status=.running/\YK Ro M W1 x.M x.w x.es)/\Sc P Ro Qk made rem x.M x.g x.w):Sc P Ro Qk made rem M g W:=by
 obtain⟨f,hf⟩:=trees (R:=QK M W) (Q:=fun t W1=>∃x:Nx,(stepG P true g W1=.go x.g x.w x.es/\x.g.status=.running/\YK Ro M W1 x.M x.w x.es)/\ScT P Ro Qk t made rem x.M x.g x.w) (fun W1 hx=>by
  obtain⟨x,h1,t,h2⟩:=h W1 hx
  exact⟨t,x,h1,h2⟩)
 exact⟨.node f,hr,.inl hf⟩
theorem Sc.make(hr:g.status=.running)(h:∀W1,QK M W W1->∃(x:Nx) (c:Nat),(stepG P true g W1=.go x.g x.w x.es/\x.g.status=.running/\YK Ro M W1 x.M x.w x.es)/\W1.heap.size<=c/\(∃s r tm,x.w.heap[c]?=some (.chan 0 #[] false s r tm))/\Sc P Ro Qk (some c) rem x.M x.g x.w):Sc P Ro Qk made rem M g W:=by
 obtain⟨f,hf⟩:=trees (R:=QK M W) (Q:=fun t W1=>∃(x:Nx) (c:Nat),(stepG P true g W1=.go x.g x.w x.es/\x.g.status=.running/\YK Ro M W1 x.M x.w x.es)/\W1.heap.size<=c/\(∃s r tm,x.w.heap[c]?=some (.chan 0 #[] false s r tm))/\ScT P Ro Qk t (some c) rem x.M x.g x.w) (fun W1 hx=>by
  obtain⟨x,c,h1,h2,h3,t,h4⟩:=h W1 hx
  exact⟨t,x,c,h1,h2,h3,h4⟩)
 exact⟨.node f,hr,.inr (.inl hf)⟩
theorem Sc.start{c:Nat}{vs:List Value}(hr:g.status=.running)(h:∀W1,QK M W W1->∃g' child Mc,stepG P true g W1=.spawn g' child W1 #[]/\(∀b,Mc b->M b/\(Ro b\/b=c))/\Sd P Ro c vs Mc child W1/\Sc P Ro Qk none (upd rem c (vs.map some++[none])) M g' W1):Sc P Ro Qk (some c) rem M g W:=by
 obtain⟨f,hf⟩:=trees (R:=QK M W) (Q:=fun t W1=>∃g' child Mc,stepG P true g W1=.spawn g' child W1 #[]/\(∀b,Mc b->M b/\(Ro b\/b=c))/\Sd P Ro c vs Mc child W1/\ScT P Ro Qk t none (upd rem c (vs.map some++[none])) M g' W1) (fun W1 hx=>by
  obtain⟨g',child,Mc,h1,h2,h3,t,h4⟩:=h W1 hx
  exact⟨t,g',child,Mc,h1,h2,h3,h4⟩)
 exact⟨.node f,hr,.inr (.inr (.inl ⟨c,vs,rfl,hf⟩))⟩
theorem Sc.recv{c:Nat}{ok:Bool}{z:Value}{o:Option Value}{r:List (Option Value)}(hr:g.status=.running)(yp:rem c=o::r)(hc:M c)
  (h:∀W1,QK M W W1->stepG P true g W1=.comm g #[rcase c z] true (.recv ok) W1 #[]/\Sc P Ro Qk made (upd rem c r) M (Conc.served g (recvd ok (o.getD z) o.isSome)) W1):Sc P Ro Qk made rem M g W:=by
 obtain⟨f,hf⟩:=trees (R:=QK M W) (Q:=fun t W1=>stepG P true g W1=.comm g #[rcase c z] true (.recv ok) W1 #[]/\ScT P Ro Qk t made (upd rem c r) M (Conc.served g (recvd ok (o.getD z) o.isSome)) W1) (fun W1 hx=>by
  obtain⟨h1,t,h2⟩:=h W1 hx
  exact⟨t,h1,h2⟩)
 exact⟨.node f,hr,.inr (.inr (.inr (.inl ⟨c,ok,z,o,r,yp,hc,hf⟩)))⟩
theorem Sc.done(hr:g.status=.running)(yp:∀c,rem c=[])(h:∀W1,QK M W W1->∃v W' M' es,stepG P true g W1=.ended (.done v) W' es/\YK Ro M W1 M' W' es/\Qk v W'):Sc P Ro Qk made rem M g W :=
 ⟨.node fun _=>.leaf,hr,.inr (.inr (.inr (.inr ⟨yp,h⟩)))⟩
theorem Sc.rely{W1:World}(h:Sc P Ro Qk made rem M g W)(r:QK M W W1):Sc P Ro Qk made rem M g W1:=h.imp fun _ x=>x.rely r
theorem Co.sc{Stop:(Nat->Prop)->Goroutine->World->Prop}(h:Co P true Ro Stop M g W)(hs:∀M g W,Stop M g W->Sc P Ro Qk made rem M g W):Sc P Ro Qk made rem M g W:=by
 induction h with
 | stop h=>exact hs _ _ _ (h _ (QK.refl _ _))
 | next nx hr h1 _ ih=>exact Sc.go hr fun W1 hx=>⟨nx W1,h1 W1 hx,ih W1 hx⟩
end
end
inductive QbJ{α:Type}(r:α->α->Prop):List α->List α->Prop
 | here {a a':α} {l:List α}:r a' a->QbJ r (a'::l) (a::l)
 | there {a:α} {l l':List α}:QbJ r l' l->QbJ r (a::l') (a::l)
theorem QbJ.wf{α:Type}{r:α->α->Prop}(hr:WellFounded r):WellFounded (QbJ r):=⟨fun l=>by
 induction l with
 | nil=>exact⟨_,fun _ h=>by cases h⟩
 | cons a l ih =>
  induction hr.apply a generalizing l with
  | intro a _ iha =>
   induction ih with
   | intro l hl ihl =>
    exact⟨_,fun _ h=>by
     cases h with
     | here h=>exact iha _ h _ ⟨_,hl⟩
     | there h=>exact ihl _ h⟩⟩
theorem QbJ.set{α:Type}{r:α->α->Prop}{a a':α}:∀{l:List α} {j:Nat},l[j]?=some a->r a' a->QbJ r (l.set j a') l
 | [],j,h,_=>by simp at h
 | x::l,0,h,hr=>by
  simp only[List.getElem?_cons_zero,Option.some.injEq]at h;subst h;exact .here hr
 | x::l,j+1,h,hr=>.there (QbJ.set (by simpa using h) hr)
end Sim
namespace Sim
open Go.Conc
structure Way(P:Program)(main:Bool)(Ro:Nat->Prop)(S:(Nat->Prop)->Goroutine->World->Prop):Prop where
 go:∀{M:Nat->Prop} {g:Goroutine} {W:World},g.status=.running->(∀W1,QK M W W1->∃x:Nx,(stepG P main g W1=.go x.g x.w x.es/\x.g.status=.running/\YK Ro M W1 x.M x.w x.es)/\S x.M x.g x.w)->S M g W
 rely:∀{M:Nat->Prop} {g:Goroutine} {W W1:World},S M g W->QK M W W1->S M g W1
theorem z6(P:Program)(Ro:Nat->Prop)(c:Nat)(vs:List Value):Way P false Ro (Sd P Ro c vs):=⟨Sd.go,Sd.rely⟩
theorem yl(P:Program)(Ro:Nat->Prop)(Qk:Value->World->Prop)(made:Option Nat)(rem:Nat->List (Option Value)):Way P true Ro (Sc P Ro Qk made rem):=⟨Sc.go,Sc.rely⟩
theorem qrJ(P:Program)(main:Bool)(Ro:Nat->Prop)(Stop:(Nat->Prop)->Goroutine->World->Prop):Way P main Ro (Co P main Ro Stop):=⟨Co.step,Co.rely⟩
section
variable {P:Program}{main:Bool}{Ro:Nat->Prop}{S:(Nat->Prop)->Goroutine->World->Prop}
variable {M:Nat->Prop}{g:Goroutine}
theorem Way.co(h:Way P main Ro S){Stop:(Nat->Prop)->Goroutine->World->Prop}{W:World}(c:Co P main Ro Stop M g W)(hs:∀M g W,Stop M g W->S M g W):S M g W:=by
 induction c with
 | stop h1=>exact hs _ _ _ (h1 _ (QK.refl _ _))
 | next nx hr h1 _ ih=>exact h.go hr fun W1 hx=>⟨nx W1,h1 W1 hx,ih W1 hx⟩
theorem qtr{w:World}(hlt:∀b,M b->b<w.heap.size):YK Ro M w M w #[]:=⟨fun _ x=>x,fun _ x=>.inl x,hlt,Nat.le_refl _,fun _ _ _=>rfl,fun _ _ x _=>x,rfl,rfl,rfl,fun e he=>by cases he;rename_i x;cases x⟩
theorem Way.ctl(h:Way P main Ro S){g':Goroutine}{W:World}(hlt:∀b,M b->b<W.heap.size)(hr:g.status=.running)(hr':g'.status=.running)(hs:∀W1,stepG P main g W1=.go g' W1 #[])(k:S M g' W):S M g W :=
 h.go hr fun W1 hx=>⟨⟨M,g',W1,#[]⟩,⟨hs W1,hr',qtr fun b hb=>Nat.lt_of_lt_of_le (hlt b hb) hx.size⟩,h.rely k hx⟩
section
variable {M:Nat->Prop}{W:World}{b:Frame}{a:Act}{k:List Item}{cs:List Frame}(h:Way P main Ro S)(hlt:∀b,M b->b<W.heap.size)
variable {id:Nat}{c:Code}{ops:Array Oper}
include h hlt
theorem Way.skip(n:S M (G (b.at a k) cs) W):S M (G (b.at a (.code .skip::k)) cs) W:=h.ctl hlt rfl rfl (fun _=>stepG_skip) n
theorem Way.seq{x y:Code}(n:S M (G (b.at a (.code x::.code y::k)) cs) W):S M (G (b.at a (.code (.seq x y)::k)) cs) W:=h.ctl hlt rfl rfl (fun _=>stepG_seq) n
theorem Way.block(n:S M (G (b.at a (.code c::.inBlock id::k)) cs) W):S M (G (b.at a (.code (.block id c)::k)) cs) W:=h.ctl hlt rfl rfl (fun _=>stepG_block) n
theorem Way.inBlock(n:S M (G (b.at a k) cs) W):S M (G (b.at a (.inBlock id::k)) cs) W:=h.ctl hlt rfl rfl (fun _=>stepG_inBlock) n
theorem Way.loop(n:S M (G (b.at a (.code c::.inLoop c::k)) cs) W):S M (G (b.at a (.code (.loop c)::k)) cs) W:=h.ctl hlt rfl rfl (fun _=>stepG_loop) n
theorem Way.inLoop(n:S M (G (b.at a (.code c::.inLoop c::k)) cs) W):S M (G (b.at a (.inLoop c::k)) cs) W:=h.ctl hlt rfl rfl (fun _=>stepG_inLoop) n
theorem Way.cond{c:Operand}{x y:Code}{t:Bool}(hc:a.eval c=.bool t)(n:S M (G (b.at a (.code (if t then x else y)::k)) cs) W):S M (G (b.at a (.code (.cond c x y)::k)) cs) W:=h.ctl hlt rfl rfl (fun _=>stepG_cond hc) n
theorem Way.exit{k':List Item}(he:exitTo id k=some k')(n:S M (G (b.at a k') cs) W):S M (G (b.at a (.code (.exit id)::k)) cs) W:=h.ctl hlt rfl rfl (fun _=>stepG_exit he) n
theorem Way.region(n:S M (G (b.at a (.inRegion ops (List.range ops.size)::k)) cs) W):S M (G (b.at a (.code (.region id ops false)::k)) cs) W:=h.ctl hlt rfl rfl (fun _=>stepG_region) n
theorem Way.qx(n:S M (G (b.at a k) cs) W):S M (G (b.at a (.inRegion ops []::k)) cs) W:=h.ctl hlt rfl rfl (fun _=>stepG_region_end) n
theorem Way.finish(n:S M (G {b.at a []with mode:=.returning} cs) W):S M (G (b.at a []) cs) W:=h.ctl hlt rfl rfl (fun _=>stepG_end) n
theorem Way.pure{i:Nat}{rest:List Nat}{o:Oper}{v:Value}(ho:ops[i]?=some o)(hw:Region.wanted o (yielded ops a.tmps)=true)(hk:b.kind≠.early)(hr:∀W1,(execOp a.eval o).run P W1=.ok (.value v) W1)(he:∀W1,(execOp a.eval o).events P W1 #[]=#[])
  (n:S M (G (b.at (a.put o.dst v) (.inRegion ops rest::k)) cs) W):S M (G (b.at a (.inRegion ops (i::rest)::k)) cs) W :=
 h.ctl hlt rfl rfl (fun W1=>by rw[stepG_value ho hw hk (hr W1)];unfold listed;rw[he W1];rfl) n
end
structure Tie(P:Program)(Fs:FuncId->Bool)(Ro:Nat->Prop)(K:Kr)(M:Nat->Prop)(a a':Act)(w W:World):Prop where
 tm:AV K a.tmps a'.tmps
 wr:WR P Ro K w W
 km:∀x y,K.B x y->M y
 lt:∀b,M b->b<W.heap.size
 fs:K.Fs=fun f=>Fs f=true
theorem Tie.put{Fs:FuncId->Bool}{K K1:Kr}{M:Nat->Prop}{a a':Act}{w W:World}(T:Tie P Fs Ro K M a a' w W)(hle:K.le K1){v v':Value}(hv:VR K1 v v')(d:Option Tmp):AV K1 (a.put d v).tmps (a'.put d v').tmps:=by
 cases d with
 | none=>exact T.tm.mono hle
 | some d=>exact(T.tm.mono hle).set d hv
theorem Tie.eval{Fs:FuncId->Bool}{K:Kr}{M:Nat->Prop}{a a':Act}{w W:World}(T:Tie P Fs Ro K M a a' w W)(x:Operand)(hx:okX P Fs x=true):VR K (a.eval x) (a'.eval x):=by
 have hFs:∀f,Fs f=true->K.Fs f:=fun f h=>by rw[T.fs];exact h
 cases x with
 | tmp t=>exact T.tm.getD t (.tuple _ _ rfl (fun i x y h=>by simp at h))
 | const v=>exact jk K 9 v hx
 | global g =>
  simp only[okX,Bool.and_eq_true,decide_eq_true_eq]at hx;exact .ptr _ _ ⟨T.wr.qar g hx.1 (hFs _ hx.2),rfl,rfl⟩
 | func f=>exact .func _ _ _ _ _ _ (.func f (hFs _ hx)) rfl (fun i x y h=>by simp at h) rfl (fun i x y h=>by simp at h)
structure Grown(K:Kr)(M:Nat->Prop)(K':Kr)(M':Nat->Prop):Prop where
 le:K.le K'
 m:∀b,M b->M' b
 back:∀b,M' b->M b\/∃a,K'.B a b
theorem gone{fr:Frame}(hm:fr.mode≠.run)(hd:fr.defers=[])(hk:fr.kind=.normal)(hfn:∃fn,P.funcs[fr.fn]?=some fn){n:Nat}{w w':World}{fr':Frame}(h:runN P n (lone fr [c0 P] w)=.next (lone fr' [c0 P] w')):n=0:=by
 cases n with
 | zero=>rfl
 | succ k =>
  exfalso;obtain⟨fn,hfn⟩:=hfn
  have jM:∀(x:Frame) (w1:World),(∃o w',step P (lone x [] w1)=.ended o w')->step P (lone fr [c0 P] w)=.next (lone x [] w1)->False:=by
   intro x w1 ⟨o,w2,hx⟩ hs;have r:=qd2 h hs
   cases k with
   | zero =>
    injection r with r;have:=(qae r).2.1;cases this
   | succ k=>exact runN_ended r hx
  cases hmo:fr.mode with
  | run=>exact hm hmo
  | returning =>
   generalize hX:(results fn fr.tmps).runT P w #[]=X;obtain⟨r,es⟩:=X
   have e1:stepG P true {frame:=fr,callers:=[c0 P],status:=.running,dying:=none} w=GStep.after (seen P fr.fn es) (match r with
     | .ok v w=>doReturn P true fr [c0 P] none v w
     | .halt (.stuck q) w=>.ended (.stuck q (fr.pos P)) w
     | .halt _ w=>.ended (.stuck "return: the result variables cannot be read" (fr.pos P)) w):=by
    unfold stepG;simp only[hmo];unfold unwind;simp only[hd,hmo,hfn,hX]
    cases r with
    | ok v w1=>rfl
    | halt q w1=>cases q<;>rfl
   cases r with
   | ok v w1 =>
    refine jM (c0 P) w1 (qpd w1) (step_lone_go ?_);rw[e1];unfold doReturn;simp only[hk];rfl
   | halt q w1 =>
    have:∃o w2,(stepG P true {frame:=fr,callers:=[c0 P],status:=.running,dying:=none} w).bare=.ended o w2:=by
     rw[e1];cases q<;>exact⟨_,_,rfl⟩
    obtain⟨o,w2,e⟩:=this;exact runN_ended h (step_lone_ended e)
  | panicking chain =>
   have e1:stepG P true {frame:=fr,callers:=[c0 P],status:=.running,dying:=none} w=if fr.catches P then .ended (.unsupported (.noEntry "a panic or Goexit out of a method that fmt calls behind a cut's door") (fr.pos P)) w else .go {frame:=(c0 P).raise chain,callers:=[],status:=.running,dying:=none} w:=by
    unfold stepG;simp only[hmo];unfold unwind;simp only[hd,hmo]
   split at e1
   ·exact runN_ended h (step_lone_ended (by rw[e1];rfl))
   ·exact jM _ _ (qfO chain _) (step_lone_go (by rw[e1];rfl))
theorem Way.code(h:Way P main Ro S){Fs:FuncId->Bool}(HG:Good P Fs)(hnf:Fs 999999=false){K:Kr}{M:Nat->Prop}{b:Frame}{a a':Act}{w W:World}{c:Code}{k:List Item}{cs:List Frame}(T:Tie P Fs Ro K M a a' w W)(hdf:a.defers=[]/\a'.defers=[])(hfn:∃fn,P.funcs[b.fn]?=some fn)(hk:b.kind=.normal)(hok:jG P Fs c=true)
  {R:Act->World->Prop} (hwp:∀τ,c.wp P (fun e a w=>e=.normal/\R a w) a (qg w τ))
  (next:∀(K1:Kr) (M1:Nat->Prop) (a1 a1':Act) (w1 W1:World),Grown K M K1 M1->R a1 w1->Tie P Fs Ro K1 M1 a1 a1' w1 W1->a1.defers=[]/\a1'.defers=[]->S M1 (G (b.at a1' k) cs) W1):S M (G (b.at a' (.code c::k)) cs) W:=by
 let Z:Frame->World->Prop:=fun fr w=>∃a1,fr=b.at a1 []/\R a1 w
 let E:Frame->Prop:=fun fr=>fr.todo=[]\/fr.mode≠.run
 have hE:QgZ k E:=fun fr hn=>by
  have h1:fr.todo≠[]:=fun e=>hn (.inl e);have h2:fr.mode=.run:=Classical.byContradiction fun e=>hn (.inr e);exact .inl ⟨h2,.inl h1⟩
 have hI:Inv P Fs cs k Ro Z K M ⟨K,M,⟨b.at a [.code c],[c0 P],.running,none,none⟩,w,w.tape,G (b.at a' (.code c::k)) cs,W⟩:=by
  refine⟨⟨⟨k,[],[],⟨rfl,T.tm,rfl,⟨hok,rfl⟩,(fun ops i r k o t e=>by cases e),?_,.run,rfl,.inl hk,⟨rfl,rfl⟩,hfn,fun _=>hdf.1⟩,rfl,rfl,?_⟩,rfl,⟨rfl,rfl⟩,rfl,rfl⟩,rfl,T.wr,T.km,T.lt,T.fs,fun τ _=>?_,Kr.le.refl _,fun _ x=>x,fun _ x=>.inl x⟩
  ·show Two _ a.defers a'.defers;rw[hdf.1,hdf.2];exact .nil
  ·show Cas P Fs K k k b.kind [] [];rw[hk];exact .nil
  ·obtain⟨e,a1,w1,⟨rfl,hr⟩,⟨n,hn⟩⟩:=hwp τ b [] [c0 P];exact⟨n,w1,_,hn,a1,rfl,hr⟩
 refine h.co (qiz HG main hE (fun fr w ⟨a1,e,_⟩=>.inl (by rw[e];rfl)) hI) (fun M1 g1 W1 hs=>?_);obtain⟨s,rfl,rfl,rfl,h1,h2,h3⟩:=hs;obtain⟨κf,l,l',q1,q2,q3,q4⟩:=h1.gr.fr
 have hl0:l=[]:=by
  rw[h2]at q2;exact List.append_cancel_right (bs:=[c0 P]) (by simpa using q2.symm)
 subst hl0
 have q5:κf=k/\l'=[]/\s.g.frame.kind=.normal:=by
  revert q4
  generalize s.g.frame.kind=q;intro q4;cases q4;exact⟨rfl,rfl,rfl⟩
 obtain⟨rfl,rfl,q6⟩:=q5
 have hnK:¬s.K.Fs 999999:=by
  rw[h1.fs];intro(e:Fs 999999=true);rw[hnf]at e;cases e
 have hde:=q1.nd hnK;obtain⟨n,w',fr,r1,a1,rfl,r3⟩:=h1.run s.ρ (fun _ _=>rfl);rw[h2]at r1
 have hn0:n=0:=by
  by_cases hm:s.g.frame.mode=.run
  ·cases n with
   | zero=>rfl
   | succ n =>
    exfalso;have ht:s.g.frame.todo=[]:=h3.resolve_right fun x=>x hm
    have hst:step P (lone s.g.frame [c0 P] (qg s.w s.ρ))=.next (lone {s.g.frame with mode:=.returning} [c0 P] (qg s.w s.ρ)):=by
     have hrn:=q1.round.1
     revert hm ht hrn
     generalize s.g.frame=fr;intro hm ht hrn;obtain⟨fn,tm,td,df,md,kd,rd⟩:=fr;dsimp only at hm ht hrn⊢;subst hm;subst ht;subst hrn;exact step_lone_go rfl
    have r:=qd2 r1 hst;have hn:=gone (fr:={s.g.frame with mode:=.returning}) (by nofun) hde q6 q1.fs r;subst hn;injection r with r;have:=congrArg Frame.mode (qae r).1;cases this
  ·exact gone hm hde q6 q1.fs r1
 subst hn0;injection r1 with r1;obtain⟨e1,_,e3⟩:=qae r1
 have hGd:s.G.frame.defers=[]:=by
  have:=q1.defers;rw[hde]at this;generalize s.G.frame.defers=x at this⊢;cases this;rfl
 have hm:s.g.frame.mode=.run:=by rw[e1];rfl
 have hGm:s.G.frame.mode=.run:=by
  have:=q1.qiA hm;generalize s.G.frame.mode=x at this⊢;cases this;rfl
 have hG:s.G=G (b.at ⟨s.G.frame.tmps,s.G.frame.defers⟩ κf) cs:=by
  have t1:s.G.frame.fn=b.fn:=by rw[q1.fn,e1];rfl
  have t2:s.G.frame.todo=κf:=by rw[q1.todo,e1];rfl
  have t3:s.G.frame.kind=b.kind:=by rw[q1.kind,e1];rfl
  have t4:=q1.round.2
  have t5:s.G.callers=cs:=by simpa using q3
  have t6:s.G.status=.running:=h1.gr.st.trans h1.st;have t7:=h1.gr.dy.2;have t8:=h1.gr.off.2
  revert t1 t2 t3 t4 t5 t6 t7 t8 hGm
  generalize s.G=X;intro hGm t1 t2 t3 t4 t5 t6 t7 t8;obtain⟨⟨fn,tm,td,df,md,kd,rd⟩,c1,st,dy,off⟩:=X;dsimp only at hGm t1 t2 t3 t4 t5 t6 t7 t8⊢;subst t1;subst t2;subst t3;subst t4;subst t5;subst t6;subst t7;subst t8;subst hGm;rfl
 rw[hG];refine next s.K s.M a1 ⟨s.G.frame.tmps,s.G.frame.defers⟩ w' s.W ⟨h1.le,h1.m0,h1.mo⟩ r3 ⟨?_,?_,h1.km,h1.lt,h1.fs⟩ ⟨?_,hGd⟩
 ·have:=q1.tmps;rw[e1]at this;exact this
 ·rw[<-e3];exact h1.wr.qg _
 ·have:=hde;rw[e1]at this;exact this
theorem Way.call(h:Way P main Ro S){Fs:FuncId->Bool}(HG:Good P Fs){K:Kr}{M:Nat->Prop}{b:Frame}{a a':Act}{w W:World}{ops:Array Oper}{i:Nat}{rest:List Nat}{k:List Item}{cs:List Frame}{o:Oper}{f:FuncId}{xs ys:Array Value}(T:Tie P Fs Ro K M a a' w W)(hk:b.kind≠.early)
  (ho:ops[i]?=some o) (hwt:Region.wanted o (yielded ops a'.tmps)=true) (hr:∀W1,(execOp a'.eval o).run P W1=.ok (.enter f ys) W1) (he:∀W1,(execOp a'.eval o).events P W1 #[]=#[])
  (hf:Fs f=true) (hb:∃fn,P.funcs[f]?=some fn/\fn.body.isNone=false) (ha:AV K xs ys) {R:Value->World->Prop} (hC:∀τ,Calls P f xs (qg w τ) (fun e w'=>∃v,e=.returned v/\R v w'))
  (next:∀(K1:Kr) (M1:Nat->Prop) (v v':Value) (w1 W1:World),Grown K M K1 M1->R v w1->VR K1 v v'->Tie P Fs Ro K1 M1 (a.put o.dst v) (a'.put o.dst v') w1 W1->S M1 (G (b.at (a'.put o.dst v') (.inRegion ops rest::k)) cs) W1) :
  S M (G (b.at a' (.inRegion ops (i::rest)::k)) cs) W:=by
 have jq:∀W1,stepG P main (G (b.at a' (.inRegion ops (i::rest)::k)) cs) W1=.go ⟨Frame.enter P f ys .normal,b.at a' (.inRegion ops (i::rest)::k)::cs,.running,none,none⟩ W1 #[]:=fun W1=>by
  have hk':(b.kind == CallKind.early)=false:=by simpa using hk
  rw[stepG_oper ho hwt];simp[stepG.apply,hr W1,he W1,Frame.at,hk',GStep.after,seen]
 refine h.ctl (g':=⟨Frame.enter P f ys .normal,b.at a' (.inRegion ops (i::rest)::k)::cs,.running,none,none⟩) T.lt rfl rfl jq ?_;refine h.co (qwS HG main hf hb T.fs T.wr ha hC T.km T.lt _ _) (fun M1 g1 W1 hs=>?_);obtain⟨K1,w1,v,v',rfl,hv,hR,hw1,hle,hfs,hm0,hkm,hmo,hlt⟩:=hs
 have qbB:(b.at a' (.inRegion ops (i::rest)::k)).finish v'=b.at (a'.put o.dst v') (.inRegion ops rest::k):=by rw[Frame.finish_at,ho];rfl
 rw[qbB];refine next K1 M1 v v' w1 W1 ⟨hle,hm0,hmo⟩ hR hv ⟨T.put hle hv o.dst,hw1,hkm,hlt,hfs⟩
theorem Way.op(h:Way P main Ro S){Fs:FuncId->Bool}(HG:Good P Fs){K:Kr}{M:Nat->Prop}{b:Frame}{a a':Act}{w W:World}{ops:Array Oper}{i:Nat}{rest:List Nat}{k:List Item}{cs:List Frame}{o:Oper}(T:Tie P Fs Ro K M a a' w W)(hk:b.kind≠.early)
  (ho:ops[i]?=some o) (hwt:Region.wanted o (yielded ops a'.tmps)=true) (hok:xu P Fs o.op=true) (hcl:qaZ o.op=none) {R:Value->World->Prop}
  (hg:∀τ,∃v w1,((execOp a.eval o).run P (qg w τ)=.ok (.value v) w1\/((execOp a.eval o).run P (qg w τ)=.ok .skip w1/\v=undef))/\R v w1)
  (next:∀(K1:Kr) (M1:Nat->Prop) (v v':Value) (w1 W1:World),Grown K M K1 M1->R v w1->VR K1 v v'->Tie P Fs Ro K1 M1 (a.put o.dst v) (a'.put o.dst v') w1 W1->S M1 (G (b.at (a'.put o.dst v') (.inRegion ops rest::k)) cs) W1) :
  S M (G (b.at a' (.inRegion ops (i::rest)::k)) cs) W:=by
 refine h.go rfl fun W1 hx=>?_;have hw1:=T.wr.rely T.km hx;have qbd:∀b,M b->b<W1.heap.size:=fun b hb=>Nat.lt_of_lt_of_le (T.lt b hb) hx.size
 have hFs:∀f,Fs f=true->K.Fs f:=fun f h=>by rw[T.fs];exact h
 have hsr:SR P (fun K a a'=>NR P K a a') K (execOp a.eval o) (execOp a'.eval o) :=
  qkK (by rw[T.fs];exact HG.fs) hw1.qar (fun f h=>by rw[T.fs]at h⊢;exact HG.qfs f h) HG.qvb hFs (fun _=>⟨rfl,rfl⟩) (fun _=>⟨rfl,rfl⟩) (fun x hx=>T.eval x hx) o (fun q hq=>by rw[hcl]at hq;cases hq) hok
 obtain⟨n,τ,hr⟩:=hsr.runT w W1 hw1 #[] #[];obtain⟨v,w1,zk,hR⟩:=hg τ;have quF:∀K':Kr,VR K' undef undef:=fun K'=>.tuple _ _ rfl (fun i x y h=>by simp at h)
 have fin:∀(K':Kr) (v':Value) (w2 W2:World) (es:Array Event),w1=qg w2 τ->VR K' v v'->WR P Ro K' w2 W2->Did Ro K W1 K' W2->(∀e∈es,Qaq Ro W1 K' e)->stepG P main (G (b.at a' (.inRegion ops (i::rest)::k)) cs) W1=.go (G (b.at (a'.put o.dst v') (.inRegion ops rest::k)) cs) W2 es ->
   ∃x:Nx,(stepG P main (G (b.at a' (.inRegion ops (i::rest)::k)) cs) W1=.go x.g x.w x.es/\x.g.status=.running/\YK Ro M W1 x.M x.w x.es)/\S x.M x.g x.w:=by
  intro K' v' w2 W2 es e1 hv hw2 hd he hst;have qd5:=qew hw2 hd T.km qbd he;refine⟨⟨_,_,W2,es⟩,⟨hst,rfl,qd5⟩,?_⟩;subst e1;refine next K' _ v v' _ W2 ⟨hd.le,fun b hb=>.inl hb,fun b hb=>hb⟩ hR hv ⟨T.put hd.le hv o.dst,hw2.qg τ,fun x y hxy=>.inr ⟨x,hxy⟩,qd5.lt,by rw[hd.le.fs];exact T.fs⟩
 rcases hr with⟨r,es,h1,h2,h3⟩|hr
 ·have e0:=h1 τ (fun d _ _=>rfl);have e0':(execOp a.eval o).run P (qg w τ)=(((execOp a.eval o).runT P (qg w τ) #[]).1):=(Sem.runT_fst _ _ _ _).symm;dsimp only at e0;rw[e0]at e0'
  cases r with
  | halt q w2=>rw[e0']at zk;rcases zk with zk|⟨zk,_⟩<;>cases zk
  | ok x w2 =>
   obtain⟨K',x',W2,e1,hxx,hw2,hd,he⟩:=h3
   have hY:(execOp a'.eval o).run P W1=.ok x' W2:=by rw[<-Sem.runT_fst P _ W1 #[]];exact e1
   have hev:∀e∈listed P b.fn a' o W1,Qaq Ro W1 K' e:=qaf (P:=P) b.fn he;rw[e0']at zk;rcases zk with zk|⟨zk,rfl⟩
   ·injection zk with hx1 hw1';subst hx1
    cases hxx with
    | value _ v' hv=>exact fin K' v' w2 W2 _ hw1'.symm hv hw2 hd hev (stepG_value ho hwt hk hY)
   ·injection zk with hx1 hw1';subst hx1
    cases hxx with
    | skip=>exact fin K' undef w2 W2 _ hw1'.symm (quF K') hw2 hd hev (stepG_none ho hwt hk hY)
 ·obtain⟨q,w',e,_⟩:=hr τ (fun d _ _=>rfl);rw[Sem.runT_fst]at e;rw[e]at zk;rcases zk with zk|⟨zk,_⟩<;>cases zk
end
end Sim
namespace Sim
open Go.Conc
def qio(md:Region.Mode)(ops:Array Oper):Nat->Array Bool->List (List Nat)
 | 0,_=>[[]]
 | fuel+1,listed=>match Region.ready md ops listed with
  | []=>[[]]
  | rs=>rs.flatMap fun i=>(qio md ops fuel (listed.setIfInBounds i true)).map (i::·)
theorem qnK(md:Region.Mode)(ops:Array Oper):∀(fuel t:Nat) (listed:Array Bool),Region.linearise.go md ops fuel t listed []∈qio md ops fuel listed
 | 0,t,listed=>by simp[Region.linearise.go,qio]
 | fuel+1,t,listed=>by
  have e:Region.linearise.go md ops (fuel+1) t listed []=match (Region.ready md ops listed)[t % (Region.ready md ops listed).length]? with
    | some i=>Region.linearise.go md ops fuel (t / (Region.ready md ops listed).length) (listed.setIfInBounds i true) [i]
    | none=>[]:=by
   simp only[Region.linearise.go,Region.ready,List.reverse_nil];rfl
  rw[e];unfold qio
  cases hr:Region.ready md ops listed with
  | nil=>simp
  | cons r rs =>
   have hlt:t % (r::rs).length<(r::rs).length:=Nat.mod_lt _ (by simp);rw[List.getElem?_eq_getElem hlt];dsimp only;rw[linearise_go_acc];simp only[List.mem_flatMap];refine⟨(r::rs)[t % (r::rs).length],List.getElem_mem hlt,?_⟩;simp only[List.reverse_cons,List.reverse_nil,List.nil_append,List.singleton_append,List.mem_map,List.cons.injEq,true_and,exists_eq_right];exact qnK md ops fuel _ _
theorem qlw{mixed:Bool}{ops:Array Oper}(h:(mixed || !Region.departs ops)=true)(t:Nat):Region.schedule mixed ops t∈qio .any ops ops.size (Array.replicate ops.size false):=by
 unfold Region.schedule;rw[if_pos h];exact qnK .any ops ops.size t _
section
variable {P:Program}{main:Bool}{Ro:Nat->Prop}{S:(Nat->Prop)->Goroutine->World->Prop}
variable {M:Nat->Prop}{W w:World}{b:Frame}{a:Act}{k:List Item}{cs:List Frame}{ops:Array Oper}{Fs:FuncId->Bool}{K:Kr}
theorem Way.draw(h:Way P main Ro S){a:Act}{k:List Item}{cs:List Frame}(hlt:∀b,M b->b<W.heap.size){id:Nat}(hm:(P.follows .mixedOrders || !Region.departs ops)=true)
  (n:∀l∈qio .any ops ops.size (Array.replicate ops.size false),S M (G (b.at a (.inRegion ops l::k)) cs) W):S M (G (b.at a (.code (.region id ops true)::k)) cs) W:=by
 refine h.go rfl fun W1 hx=>?_;have hq:Question.forced (.order b.fn id)=false:=rfl
 have hst:stepG P main (G (b.at a (.code (.region id ops true)::k)) cs) W1=.go (G (b.at a (.inRegion ops (Region.schedule (P.follows .mixedOrders) ops (Question.cut (.order b.fn id) (W1.tape W1.drawn (.order b.fn id))))::k)) cs) {W1 with drawn:=W1.drawn+1} #[]:=by
  simp[G,stepG,stepG.exec,Frame.at,choose,Sem.run,hq]
 have hr:QK M W {W1 with drawn:=W1.drawn+1}:=⟨hx.same,hx.chan,hx.size⟩
 refine⟨⟨M,_,_,#[]⟩,⟨hst,rfl,⟨fun _ x=>x,fun _ x=>.inl x,fun b hb=>Nat.lt_of_lt_of_le (hlt b hb) hx.size,Nat.le_refl _,fun _ _ _=>rfl,fun _ _ x _=>x,rfl,rfl,rfl,fun e he=>by simp at he⟩⟩,h.rely (n _ (qlw hm _)) hr⟩
theorem Way.rest(h:Way P main Ro S)(HG:Good P Fs){a':Act}{c:Code}{fn:Func}{c1:Frame}{cs:List Frame}(T:Tie P Fs Ro K M a a' w W)(hdf:a.defers=[]/\a'.defers=[])(hfn:P.funcs[b.fn]?=some fn)(hk:b.kind=.normal)(hok:jG P Fs c=true)
  {R:Value->World->Prop} (hwp:∀τ,c.wp P (bodyPost P fn (fun e w'=>∃v,e=.returned v/\R v w')) a (qg w τ))
  (next:∀(K1:Kr) (M1:Nat->Prop) (v v':Value) (w1 W1:World),Grown K M K1 M1->R v w1->VR K1 v v'->WR P Ro K1 w1 W1->(∀x y,K1.B x y->M1 y)->(∀b,M1 b->b<W1.heap.size)->(K1.Fs=fun f=>Fs f=true)->S M1 (G (c1.finish v') cs) W1) :
  S M (G (b.at a' [.code c]) (c1::cs)) W:=by
 have hE:QgZ [] (fun fr:Frame=>fr.mode≠.run/\fr.defers=[]):=fun fr hn=>by
  by_cases hm:fr.mode=.run
  ·exact .inl ⟨hm,.inr rfl⟩
  ·exact .inr ⟨hm,fun e=>hn ⟨hm,e⟩,rfl⟩
 have hI:Inv P Fs (c1::cs) [] Ro (Zc P R) K M ⟨K,M,⟨b.at a [.code c],[c0 P],.running,none,none⟩,w,w.tape,G (b.at a' [.code c]) (c1::cs),W⟩:=by
  refine⟨⟨⟨[],[],[],⟨rfl,T.tm,rfl,⟨hok,rfl⟩,(fun ops i r k o t e=>by cases e),?_,.run,rfl,.inl hk,⟨rfl,rfl⟩,⟨fn,hfn⟩,fun _=>hdf.1⟩,rfl,rfl,?_⟩,rfl,⟨rfl,rfl⟩,rfl,rfl⟩,rfl,T.wr,T.km,T.lt,T.fs,fun τ _=>?_,Kr.le.refl _,fun _ x=>x,fun _ x=>.inl x⟩
  ·show Two _ a.defers a'.defers;rw[hdf.1,hdf.2];exact .nil
  ·show Cas P Fs K [] [] b.kind [] [];rw[hk];exact .nil
  ·obtain⟨e,a1,w1,hq,qlD⟩:=hwp τ b [] [c0 P]
   cases e with
   | normal =>
    obtain⟨hd,v,hr,_,⟨⟩,hR⟩:=hq;obtain⟨n,hn⟩:=Steps.trans qlD (.one step_end);exact⟨n,w1,_,hn,v,hR,rfl,hd,hk,fn,hfn,hr⟩
   | ret =>
    obtain⟨hd,v,hr,_,⟨⟩,hR⟩:=hq;obtain⟨todo,n,hn⟩:=qlD;exact⟨n,w1,_,hn,v,hR,rfl,hd,hk,fn,hfn,hr⟩
   | panic chain=>obtain⟨_,_,⟨⟩,_⟩:=hq
   | exit id=>exact hq.elim
   | goto l=>exact hq.elim
   | outgrown=>obtain⟨_,⟨⟩,_⟩:=hq
 have hco:=(qiz HG main hE (fun fr w ⟨v,_,hl⟩=>⟨by rw[hl.1];nofun,hl.2.1⟩) hI).bind (Qro:=Qvh P Fs c1 cs Ro R K M) (fun M' g' W' _ hs=>by
  obtain⟨s,rfl,rfl,rfl,h1,h2,h3⟩:=hs W' (QK.refl _ _)
  exact qpe main h1 h3.1 h3.2 h2)
 refine h.co hco (fun M1 g1 W1 hs=>?_);obtain⟨K1,w1,v,v',rfl,hv,hR,hw1,hle,hfs,hm0,hkm,hmo,hlt⟩:=hs;exact next K1 M1 v v' w1 W1 ⟨hle,hm0,hmo⟩ hR hv hw1 hkm hlt hfs
theorem WR.chan(h:WR P Ro K w W)(hn:¬K.Fs P.funcs.size)(o O:Obj)(ho:o.isChan=true)(hO:O.isChan=true) :
  ∃K',K.le K'/\K'.B w.heap.size W.heap.size/\WR P Ro K' {w with heap:=w.heap.push o} {W with heap:=W.heap.push O}/\∀x y,K'.B x y->K.B x y\/y=W.heap.size:=by
 have lt1:∀a b,K.B a b->a<w.heap.size/\b<W.heap.size:=fun a b hab=>by
  obtain⟨_,_,h1,h2,_⟩:=h.obj a b hab;exact⟨(Array.getElem?_eq_some_iff.1 h1).1,(Array.getElem?_eq_some_iff.1 h2).1⟩
 let K':Kr:=⟨fun a b=>K.B a b\/(a=w.heap.size/\b=W.heap.size),K.It,K.Own,K.Fs⟩
 have hle:K.le K':=⟨fun _ _ x=>.inl x,fun _ x=>x,fun _ x=>x,rfl,fun _ _ _ y=>y⟩
 have hOR:OR K' o O:=by
  cases o<;>first|(cases ho;done)|skip
  cases O<;>first|(cases hO;done)|exact .chan ..
 refine⟨K',hle,.inr ⟨rfl,rfl⟩,⟨?_,?_,?_,?_,?_,?_,?_,?_,h.it,h.own,?_,fun g s x=>.inl (h.qar g s x),fun x=>absurd x hn⟩,?_⟩
 ·rintro a b (x|⟨x1,x2⟩)
  ·exact h.gl a b x
  ·have:=h.gs;omega
 ·have:=h.gs;simp;omega
 ·rintro a b b' (x|⟨x1,x2⟩) (y|⟨y1,y2⟩)
  ·exact h.fn1 a b b' x y
  ·have:=lt1 _ _ x;omega
  ·have:=lt1 _ _ y;omega
  ·omega
 ·rintro a a' b (x|⟨x1,x2⟩) (y|⟨y1,y2⟩)
  ·exact h.fn2 a a' b x y
  ·have:=lt1 _ _ x;omega
  ·have:=lt1 _ _ y;omega
  ·omega
 ·rintro a b (x|⟨x1,x2⟩)
  ·obtain⟨p,q,h1,h2,h3⟩:=h.obj a b x;have:=lt1 _ _ x;refine⟨p,q,?_,?_,h3.mono hle⟩
   ·simp only[Array.getElem?_push];rw[if_neg (by omega)];exact h1
   ·simp only[Array.getElem?_push];rw[if_neg (by omega)];exact h2
  ·subst x1;subst x2;exact⟨o,O,by simp,by simp,hOR⟩
 ·rintro a b (x|⟨x1,x2⟩) hb c e f hw
  ·have:=lt1 _ _ x;simp only[Array.getElem?_push]at hw;rw[if_neg (by omega)]at hw;exact h.ro a b x hb c e f hw
  ·have:=h.qaE b hb;omega
 ·intro b hb;have:=h.qaE b hb;simp;omega
 ·intro b hb;have:=h.qbF b hb;simp;omega
 ·rintro a b (x|⟨x1,x2⟩) p hp
  ·have:=lt1 _ _ x;simp only[Array.getElem?_push]at hp;rw[if_neg (by omega)]at hp;exact h.itk a b x p hp
  ·subst x1;simp only[Array.getElem?_push_size,Option.some.injEq]at hp;subst hp;constructor
   ·intro y;cases o<;>first|(cases ho;done)|cases y
   ·intro y;have:=h.qbF b y;omega
 ·rintro x y (z|⟨_,z⟩)
  ·exact .inl z
  ·exact .inr z
theorem qwE{Qk:Value->World->Prop}{made:Option Nat}{rem:Nat->List (Option Value)}{a':Act}{ops:Array Oper}{i:Nat}{rest:List Nat}{k:List Item}{cs:List Frame}{o:Oper}(T:Tie P Fs Ro K M a a' w W)(hn:Fs P.funcs.size=false)(hk:b.kind≠.early)
  (ho:ops[i]?=some o) (hwt:Region.wanted o (yielded ops a'.tmps)=true) (hr:∀W1,(execOp a'.eval o).run P W1=.ok (.value (.chan (some W1.heap.size))) {W1 with heap:=W1.heap.push (.chan 0 #[] false 0 0 false)}) (he:∀W1,(execOp a'.eval o).events P W1 #[]=#[])
  (next:∀(K1:Kr) (M1:Nat->Prop) (c0 c:Nat) (w1 W1:World),Grown K M K1 M1->w1={w with heap:=w.heap.push (.chan 0 #[] false 0 0 false)}->c0=w.heap.size->K1.B c0 c->W.heap.size<=c->Tie P Fs Ro K1 M1 (a.put o.dst (.chan (some c0))) (a'.put o.dst (.chan (some c))) w1 W1->Sc P Ro Qk (some c) rem M1 (G (b.at (a'.put o.dst (.chan (some c))) (.inRegion ops rest::k)) cs) W1) :
  Sc P Ro Qk made rem M (G (b.at a' (.inRegion ops (i::rest)::k)) cs) W:=by
 refine Sc.make rfl fun W1 hx=>?_;have hw1:=T.wr.rely T.km hx
 have hnK:¬K.Fs P.funcs.size:=by
  rw[T.fs];intro(e:Fs P.funcs.size=true);rw[hn]at e;cases e
 obtain⟨K',hle,hB,hw2,qb0⟩:=WR.chan hw1 hnK (.chan 0 #[] false 0 0 false) (.chan 0 #[] false 0 0 false) rfl rfl
 have hM1:∀b,(M b\/∃x,K'.B x b)->b<W1.heap.size+1:=by
  rintro b (hb|⟨x,hb⟩)
  ·exact Nat.lt_succ_of_lt (Nat.lt_of_lt_of_le (T.lt b hb) hx.size)
  ·rcases qb0 x b hb with z|z
   ·exact Nat.lt_succ_of_lt (Nat.lt_of_lt_of_le (T.lt b (T.km x b z)) hx.size)
   ·omega
 refine⟨⟨fun b=>M b\/∃x,K'.B x b,_,{W1 with heap:=W1.heap.push (.chan 0 #[] false 0 0 false)},#[]⟩,W1.heap.size,⟨by rw[stepG_value ho hwt hk (hr W1)];unfold listed;rw[he W1];rfl,rfl,?_⟩,Nat.le_refl _,⟨0,0,false,by simp⟩,?_⟩
 ·refine⟨fun _ x=>.inl x,?_,fun b hb=>by simpa using hM1 b hb,by simp,fun b hb _=>?_,fun b o hb _=>?_,rfl,rfl,rfl,fun e he=>by simp at he⟩
  ·rintro b (hb|⟨x,hb⟩)
   ·exact .inl hb
   ·rcases qb0 x b hb with z|z
    ·exact .inl (T.km x b z)
    ·exact .inr (by omega)
  ·simp only[Array.getElem?_push];rw[if_neg (by omega)]
  ·have:=(Array.getElem?_eq_some_iff.1 hb).1;simp only[Array.getElem?_push];rw[if_neg (by omega)];exact hb
 ·exact next K' _ _ _ _ _ ⟨hle,fun b hb=>.inl hb,fun b hb=>hb⟩ rfl rfl hB hx.size ⟨T.put hle (.chan _ _ hB) o.dst,hw2,fun x y hxy=>.inr ⟨x,hxy⟩,fun b hb=>by simpa using hM1 b hb,by rw[hle.fs];exact T.fs⟩
end
end Sim
namespace Sim
open Go.Conc
section
variable {P:Program}{Ro:Nat->Prop}
variable {main:Bool}{S:(Nat->Prop)->Goroutine->World->Prop}{M:Nat->Prop}{W:World}{b:Frame}{a:Act}{k:List Item}{cs:List Frame}{ops:Array Oper}
def under(P:Program):Frame:={ (default:Frame)with fn:=P.funcs.size,defers:=[],mode:=.panicking [goexitEntry]}
theorem Way.begin   (h:Way P main Ro S)   (hlt:∀b,M b->b<W.heap.size) {f:FuncId} {fn:Func} {c:Code} {args:Array Value} (hf:P.funcs[f]?=some fn) (qc2:(fn.name == "runtime.NumGoroutine")=false) (hb:fn.body=some c)
  (n:S M (G ((baseD f).at {tmps:=args++Array.replicate (fn.ntmps-args.size) undef,defers:=[]} [.code c]) [under P]) W):S M (born P (dcall f args)) W:=by
 refine h.ctl hlt rfl rfl (fun W1=>?_) n
 have h1:¬fn.name= "runtime.NumGoroutine" :=by simpa using qc2
 rw[<-enter_atD args hf hb];simp[born,G,under,stepG,unwind,callDeferred,dcall,invoke,callFunc,hf,h1,hb,GStep.after,seen_none]
def closing(c:Nat)(ts:Array TypeId)(t:TypeId)(cs:Array Bool):Deferred:={target:=.builtin .close ts t cs,args:=#[.chan (some c)]}
theorem Way.qqQ(h:Way P main Ro S)(hlt:∀b,M b->b<W.heap.size){k:List Item}{cs:List Frame}{i:Nat}{rest:List Nat}{o:Oper}(ho:ops[i]?=some o)(hw:Region.wanted o (yielded ops a.tmps)=true)(hk:b.kind≠.early)
  {x:Tmp} {ats:Array TypeId} {c:Nat} (hop:o.op=.defer {callee:=.builtin .close,args:=#[.tmp x],argTypes:=ats}) (hx:a.eval (.tmp x)=.chan (some c)) (hd:o.dst=none)
  (n:S M (G (b.at ⟨a.tmps,closing c ats o.type #[false]::a.defers⟩ (.inRegion ops rest::k)) cs) W):S M (G (b.at a (.inRegion ops (i::rest)::k)) cs) W:=by
 have hr:∀W1,(execOp a.eval o).run P W1=.ok (.defer (closing c ats o.type #[false])) W1:=fun W1=>by
  unfold execOp;simp[hop,resolve,closing,hx]
 have he:∀W1,(execOp a.eval o).events P W1 #[]=#[]:=fun W1=>by unfold execOp;simp[hop,resolve]
 have hk':(b.kind == CallKind.early)=false:=by simpa using hk
 refine h.ctl hlt rfl rfl (fun W1=>?_) n
 have qbB:(b.at ⟨a.tmps,closing c ats o.type #[false]::a.defers⟩ (.inRegion ops (i::rest)::k)).finish undef=b.at ⟨a.tmps,closing c ats o.type #[false]::a.defers⟩ (.inRegion ops rest::k):=by
  rw[Frame.finish_at,ho];simp[hd,Act.put]
 rw[stepG_oper ho hw,<-qbB];simp[stepG.apply,hr W1,he W1,G,Frame.at,hk',GStep.after,seen_none]
theorem quE(hlt:∀b,M b->b<W.heap.size){c:Nat}{ts:Array TypeId}{t:TypeId}{cc:Array Bool}{fn:Func}(hM:M c)(hk:b.kind=.deferred)(hd:a.defers=[closing c ts t cc])(hf:P.funcs[b.fn]?=some fn)(qlF:fn.results=#[])(hq:(P.funcs[b.fn]?).any (·.norace)=false) :
  Sd P Ro c [] M (G (b.at a []) [under P]) W:=by
 have h:=z6 P Ro c [];refine h.finish hlt ?_;refine Sd.close (g':=G {b.at ⟨a.tmps,[]⟩ []with mode:=.returning} [under P]) (k:=2) rfl hM ?_ ?_ rfl (fun W1 hx cap buf s r tm hc=>?_)
 ·simp[mayWake,G,Frame.at]
 ·refine .inr ⟨rfl,G (under P) [],fun w=>?_,.inr ⟨rfl,⟨under P,[],.finished,none,none⟩,fun w=>?_,rfl⟩⟩
  ·simp[G,stepG,unwind,doReturn,Frame.at,hk,hf,results,qlF,under,GStep.after,seen,goexitEntry]
  ·simp[G,stepG,unwind,under,goexitEntry,Frame.catches];rfl
 ·have hinv:(invoke (closing c ts t cc).target (closing c ts t cc).args).runT P W1 #[]=(.ok (.value (.tuple #[])) {W1 with heap:=W1.heap.setIfInBounds c (.chan cap buf true s r tm)},#[⟨.obj c,false,true⟩,⟨.obj c,true,true⟩]):=by
   show(Sem.getObj c _).runT P W1 #[]=_;unfold Sem.runT;rw[hc];dsimp only;show(Sem.setObj c _ _).runT P W1 _=_;unfold Sem.runT;rw[hc];rfl
  have hu:stepG P false (G {b.at a []with mode:=.returning} [under P]) W1=callDeferred P {b.at ⟨a.tmps,[]⟩ []with mode:=.returning} [under P] none (closing c ts t cc) W1:=by
   simp only[G,stepG,Frame.at,unwind,hd];rfl
  rw[hu]
  have qy6:seen P b.fn #[⟨.obj c,false,true⟩,⟨.obj c,true,true⟩]=#[⟨.obj c,false,true⟩,⟨.obj c,true,true⟩]:=seen_eq hq (fun e he f=>by
   simp only[List.mem_toArray,List.mem_cons,List.not_mem_nil,or_false]at he
   rcases he with rfl|rfl<;>nofun)
  unfold callDeferred;rw[hinv];simp only[closing,GStep.after,Array.append_empty,Frame.at,Bool.false_and,Bool.false_eq_true,if_false,G];rw[qy6]
theorem qaY(a:Act)(d t:Nat)(v:Value)(hd:d<a.tmps.size):(a.put (some d) v).eval (.tmp t)=if t=d then v else a.eval (.tmp t):=by
 show(a.tmps.setIfInBounds d v).getD t undef=_;rw[Array.getD_eq_getD_getElem?,Array.getElem?_setIfInBounds];by_cases e:d=t
 ·subst e;rw[if_pos rfl,if_pos hd,if_pos rfl];rfl
 ·rw[if_neg e,if_neg (Ne.symm e)];show _=a.tmps.getD t undef;rw[Array.getD_eq_getD_getElem?]
theorem qmO(a:Act)(d:Nat)(v:Value):(a.put (some d) v).tmps.size=a.tmps.size:=by simp[Act.put]
theorem put_defers(a:Act)(d:Option Nat)(v:Value):(a.put d v).defers=a.defers:=by cases d<;>rfl
theorem QK.cell{W1:World}(h:QK M W W1){p:Addr}(hM:M p.block)(hn:jZ W p.block):W1.cell? p=W.cell? p:=by unfold World.cell?;rw[h.same p.block hM hn]
theorem Way.read(h:Way P main Ro S)(hlt:∀b,M b->b<W.heap.size){k:List Item}{cs:List Frame}{i:Nat}{rest:List Nat}{o:Oper}(ho:ops[i]?=some o)(hw:Region.wanted o (yielded ops a.tmps)=true)(hk:b.kind≠.early){v:Value}
  (hr:∀W1,QK M W W1->(execOp a.eval o).run P W1=.ok (.value v) W1) (he:∀W1,QK M W W1->∀e∈(execOp a.eval o).events P W1 #[],Ev Ro W1 M e)
  (n:S M (G (b.at (a.put o.dst v) (.inRegion ops rest::k)) cs) W):S M (G (b.at a (.inRegion ops (i::rest)::k)) cs) W :=
 h.go rfl fun W1 hx=>⟨⟨M,_,W1,_⟩,⟨stepG_value ho hw hk (hr W1 hx),rfl,⟨fun _ x=>x,fun _ x=>.inl x,fun b hb=>Nat.lt_of_lt_of_le (hlt b hb) hx.size,Nat.le_refl _,fun _ _ _=>rfl,fun _ _ x _=>x,rfl,rfl,rfl,fun e hm=>he W1 hx e (mem_listed hm)⟩⟩,h.rely n hx⟩
theorem WR.string{K:Kr}{w:World}(h:WR P Ro K w W){p q:Addr}(hp:AR K p q){s:ByteArray}(hc:w.cell? p=some (.string s)):W.cell? q=some (.string s)/\jZ W q.block:=by
 rcases h.cell hp with h0|⟨v,v',h1,h2,h3⟩
 ·rw[hc]at h0;cases h0
 ·rw[hc]at h1;cases h1;cases h3;exact⟨h2,h.qgS hp hc⟩
structure Pre(w w1:World):Prop where
 size:w.heap.size<=w1.heap.size
 block:∀k,k<w.heap.size->w1.heap[k]?=w.heap[k]?
theorem Pre.refl(w:World):Pre w w:=⟨Nat.le_refl _,fun _ _=>rfl⟩
theorem Pre.trans{a b c:World}(h:Pre a b)(k:Pre b c):Pre a c:=⟨Nat.le_trans h.size k.size,fun i hi=>(k.block i (Nat.lt_of_lt_of_le hi h.size)).trans (h.block i hi)⟩
end
end Sim
namespace Sim
open Go.Conc
section
variable {P:Program}{main:Bool}{Ro:Nat->Prop}{S:(Nat->Prop)->Goroutine->World->Prop}{Fs:FuncId->Bool}
variable {K:Kr}{M:Nat->Prop}
theorem Grown.refl(K:Kr)(M:Nat->Prop):Grown K M K M:=⟨Kr.le.refl _,fun _ h=>h,fun _ h=>.inl h⟩
theorem Grown.trans{K1 K2:Kr}{M1 M2:Nat->Prop}(h:Grown K M K1 M1)(k:Grown K1 M1 K2 M2):Grown K M K2 M2 :=
 ⟨h.le.trans k.le,fun b x=>k.m b (h.m b x),fun b x=>by
  rcases k.back b x with y|y
  ·rcases h.back b y with z|⟨a,z⟩
   ·exact .inl z
   ·exact .inr ⟨a,k.le.b _ _ z⟩
  ·exact .inr y⟩
theorem Tie.qg{a a':Act}{w W:World}(T:Tie P Fs Ro K M a a' w W)(τ:Tape):Tie P Fs Ro K M a a' (qg w τ) W:=⟨T.tm,T.wr.qg τ,T.km,T.lt,T.fs⟩
theorem Tie.back{K1:Kr}{M1:Nat->Prop}{a a':Act}{w W w1 W1:World}(T:Tie P Fs Ro K M a a' w W)(le:K.le K1){v v':Value}(hv:VR K1 v v')(hw:WR P Ro K1 w1 W1)(km:∀x y,K1.B x y->M1 y)(lt:∀b,M1 b->b<W1.heap.size)(d:Option Tmp):Tie P Fs Ro K1 M1 (a.put d v) (a'.put d v') w1 W1 :=
 ⟨T.put le hv d,hw,km,lt,by rw[le.fs];exact T.fs⟩
section
variable (h:Way P main Ro S){K:Kr}{M:Nat->Prop}{b:Frame}{a a':Act}{w W:World}{ops:Array Oper}{i:Nat}{rest:List Nat}{k:List Item}{cs:List Frame}{o:Oper}(T:Tie P Fs Ro K M a a' w W)(hk:b.kind≠.early)
  (ho:ops[i]?=some o) (hwt:Region.wanted o (yielded ops a'.tmps)=true)
include h T hk ho hwt
theorem Way.enter{f:FuncId}{xs ys:Array Value}(hr:∀W1,(execOp a'.eval o).run P W1=.ok (.enter f ys) W1)(he:∀W1,(execOp a'.eval o).events P W1 #[]=#[]){fn:Func}{c:Code}(hf:P.funcs[f]?=some fn)(hb:fn.body=some c)(ha:AV K xs ys)
  (next:Tie P Fs Ro K M ⟨xs++Array.replicate (fn.ntmps-xs.size) undef,[]⟩ ⟨ys++Array.replicate (fn.ntmps-ys.size) undef,[]⟩ w W->S M (G ((base f).at ⟨ys++Array.replicate (fn.ntmps-ys.size) undef,[]⟩ [.code c]) (b.at a' (.inRegion ops (i::rest)::k)::cs)) W) :
  S M (G (b.at a' (.inRegion ops (i::rest)::k)) cs) W:=by
 refine h.ctl T.lt rfl rfl (fun W1=>?_) (next ⟨?_,T.wr,T.km,T.lt,T.fs⟩)
 ·rw[stepG_enter ho hwt hk (hr W1),enter_at ys hf hb];unfold listed;rw[he W1];rfl
 ·show AV K (xs++Array.replicate (fn.ntmps-xs.size) undef) (ys++Array.replicate (fn.ntmps-ys.size) undef);rw[ha.size];exact ha.append (AV.replicate _ (.tuple _ _ rfl (fun i x y h=>by simp at h)))
theorem Way.qy7{v v':Value}(hv:VR K v v')(hT:∀W1,(execOp a'.eval o).runT P W1 #[]=(.ok (.value v') W1,#[]))
  (next:Tie P Fs Ro K M (a.put o.dst v) (a'.put o.dst v') w W->S M (G (b.at (a'.put o.dst v') (.inRegion ops rest::k)) cs) W):S M (G (b.at a' (.inRegion ops (i::rest)::k)) cs) W :=
 h.pure T.lt ho hwt hk (fun W1=>by rw[<-Sem.runT_fst _ _ W1 #[],hT W1]) (fun W1=>by show((execOp a'.eval o).runT _ W1 #[]).2=_;rw[hT W1]) (next (T.back (Kr.le.refl _) hv T.wr T.km T.lt o.dst))
theorem Way.move{x:Operand}(hop:o.op=.move x\/o.op=.assign x)(hx:okX P Fs x=true)
  (next:Tie P Fs Ro K M (a.put o.dst (a.eval x)) (a'.put o.dst (a'.eval x)) w W->S M (G (b.at (a'.put o.dst (a'.eval x)) (.inRegion ops rest::k)) cs) W):S M (G (b.at a' (.inRegion ops (i::rest)::k)) cs) W:=by
 refine Way.qy7 h T hk ho hwt (T.eval x hx) (fun W1=>?_) next;unfold execOp;rcases hop with e|e<;>rw[e]<;>rfl
end
end
end Sim
namespace Tm
variable {k:Int->Int}{l l' a b u v:List Int}
def Up(k:Int->Int)(l:List Int):Prop:=l.Pairwise fun a b=>k a<=k b
def Q9(k:Int->Int)(l l':List Int):Prop:=∀c,l.filter (fun x=>k x == c)=l'.filter (fun x=>k x == c)
theorem Q9.refl(k:Int->Int)(l:List Int):Q9 k l l:=fun _=>rfl
theorem Q9.symm(h:Q9 k l l'):Q9 k l' l:=fun c=>(h c).symm
theorem Q9.trans{c:List Int}(h:Q9 k a b)(h':Q9 k b c):Q9 k a c:=fun x=>(h x).trans (h' x)
theorem Q9.append{a' b':List Int}(h:Q9 k a a')(h':Q9 k b b'):Q9 k (a++b) (a'++b'):=fun c=>by
 rw[List.filter_append,List.filter_append,h c,h' c]
theorem Q9.count(h:Q9 k l l')(x:Int):l.count x=l'.count x:=by
 have e:∀m:List Int,m.count x=(m.filter fun y=>k y == k x).count x:=fun m=>by
  rw[List.count_filter (by simp)]
 rw[e l,e l',h]
theorem Q9.perm(h:Q9 k l l'):l.Perm l':=List.perm_iff_count.2 h.count
theorem Q9.length(h:Q9 k l l'):l.length=l'.length:=h.perm.length_eq
theorem Q9.mem(h:Q9 k l l'){x:Int}:x∈l↔x∈l':=h.perm.mem_iff
theorem Up.unique{k:Int->Int}:∀{l l':List Int},Up k l->Up k l'->Q9 k l l'->l=l'
 | [],l',_,_,h=>by
  have:=h.length
  cases l' with
  | nil=>rfl
  | cons b r=>simp at this
 | a::r,l',h1,h2,h=>by
  cases l' with
  | nil=>have:=h.length;simp at this
  | cons b r' =>
   have h1':=List.pairwise_cons.1 h1;have h2':=List.pairwise_cons.1 h2
   have hab:k a<=k b:=by
    rcases List.mem_cons.1 (h.mem.2 (List.mem_cons_self (a:=b) (l:=r')))with e|e
    ·rw[e];exact Int.le_refl _
    ·exact h1'.1 b e
   have hba:k b<=k a:=by
    rcases List.mem_cons.1 (h.mem.1 (List.mem_cons_self (a:=a) (l:=r)))with e|e
    ·rw[e];exact Int.le_refl _
    ·exact h2'.1 a e
   have hk:k a=k b:=by omega
   have hc:=h (k a);rw[List.filter_cons,List.filter_cons,if_pos (by simp),if_pos (by simp[hk])]at hc;have e:=(List.cons.inj hc).1;subst e
   congr 1
   refine Up.unique h1'.2 h2'.2 fun c=>?_;have hc':=h c;rw[List.filter_cons,List.filter_cons]at hc';split at hc'
   ·exact(List.cons.inj hc').2
   ·exact hc'
theorem Q9.comm(h:∀x∈u,∀y∈v,k x≠k y):Q9 k (u++v) (v++u):=fun c=>by
 rw[List.filter_append,List.filter_append];by_cases hu:u.filter (fun x=>k x == c)=[]
 ·rw[hu];simp
 ·have hv:v.filter (fun x=>k x == c)=[]:=by
   rw[List.filter_eq_nil_iff];intro y hy hyc;obtain⟨x,hx⟩:=List.exists_mem_of_ne_nil _ hu;obtain⟨hxu,hxc⟩:=List.mem_filter.1 hx;exact h x hxu y hy ((by simpa using hxc:k x=c).trans (by simpa using hyc:k y=c).symm)
  rw[hv];simp
theorem Up.append:Up k (u++v)↔Up k u/\Up k v/\∀x∈u,∀y∈v,k x<=k y:=by
 unfold Up;rw[List.pairwise_append]
theorem Up.same{u' v':List Int}(hu:Up k u')(hv:Up k v')(su:Q9 k u u')(sv:Q9 k v v')(h:∀x∈u,∀y∈v,k x<=k y):Up k (u'++v') :=
 Up.append.2 ⟨hu,hv,fun x hx y hy=>h x (su.mem.2 hx) y (sv.mem.2 hy)⟩
def Qu(k:Int->Int)(s s':List Int):Prop:=Up k s'/\Q9 k s s'
theorem Qu.yE{s:List Int}(h:Up k s):Qu k s s:=⟨h,Q9.refl _ _⟩
theorem Qu.merge{u1 u2 v1 v2 r:List Int}(hl:Qu k (u1++v1) l)(hr:Qu k (u2++v2) r)(hu:Up k (u1++u2))(hv:Up k (v1++v2))(h1:∀x∈v1,∀y∈u2,k x<k y)(h2:∀x∈u1,∀y∈v2,k x<=k y) :
  Qu k ((u1++u2)++(v1++v2)) (l++r):=by
 have hu':=Up.append.1 hu;have hv':=Up.append.1 hv;constructor
 ·refine Up.same hl.1 hr.1 hl.2 hr.2 ?_;intro x hx y hy;rcases List.mem_append.1 hx with hx|hx<;>rcases List.mem_append.1 hy with hy|hy
  ·exact hu'.2.2 x hx y hy
  ·exact h2 x hx y hy
  ·exact Int.le_of_lt (h1 x hx y hy)
  ·exact hv'.2.2 x hx y hy
 ·have e:Q9 k (u2++v1) (v1++u2):=Q9.comm fun x hx y hy=>by have:=h1 y hy x hx;omega
  have e2:Q9 k ((u1++u2)++(v1++v2)) ((u1++v1)++(u2++v2)):=by
   have:=Q9.append (Q9.append (Q9.refl k u1) e) (Q9.refl k v2);simpa[List.append_assoc]using this
  exact e2.trans (hl.2.append hr.2)
end Tm
namespace Tm
theorem Qu.insert{k:Int->Int}{t s q1 q2:List Int}{x:Int}(h:Qu k t s)(hs:s=q1++q2)(h1:∀y∈q1,k y<=k x)(h2:∀y∈q2,k x<k y):Qu k (t++[x]) (q1++x::q2):=by
 subst hs;have hu:=Up.append.1 h.1;constructor
 ·refine Up.append.2 ⟨hu.1,List.pairwise_cons.2 ⟨fun y hy=>Int.le_of_lt (h2 y hy),hu.2.1⟩,fun a ha b hb=>?_⟩;rcases List.mem_cons.1 hb with rfl|hb
  ·exact h1 a ha
  ·exact hu.2.2 a ha b hb
 ·have e:Q9 k (t++[x]) ((q1++q2)++[x]):=h.2.append (Q9.refl _ _)
  have e2:Q9 k (q2++[x]) ([x]++q2):=Q9.comm fun a ha b hb=>by
   simp at hb;subst hb;have:=h2 a ha;omega
  refine e.trans ?_;have:=Q9.append (Q9.refl k q1) e2;simpa[List.append_assoc]using this
theorem Up.qwt{k:Int->Int}{q:List Int}{y x:Int}(h:Up k (q++[y]))(hy:k y<=k x):∀z∈q++[y],k z<=k x:=by
 intro z hz;have hu:=Up.append.1 h;rcases List.mem_append.1 hz with hz|hz
 ·have:=hu.2.2 z hz y (by simp);omega
 ·simp at hz;subst hz;exact hy
end Tm
namespace Tm
variable {k:Int->Int}{v:List Int}{i:Nat}{x:Int}
theorem Up.qwu(h:Up k v)(hi:i<v.length)(hx:k v[i]<k x):∀y∈v.take (i+1),k y<k x:=by
 intro y hy;rw[List.take_succ_eq_append_getElem hi]at hy;rcases List.mem_append.1 hy with hy|hy
 ·have hu:Up k (v.take i++v.drop i):=by rw[List.take_append_drop];exact h
  have:=(Up.append.1 hu).2.2 y hy v[i] (by rw[List.drop_eq_getElem_cons hi];exact List.mem_cons_self);omega
 ·simp at hy;subst hy;exact hx
theorem Up.qjW(h:Up k v)(hi:i<v.length)(hx:k v[i]<=k x):∀y∈v.take (i+1),k y<=k x:=by
 intro y hy;rw[List.take_succ_eq_append_getElem hi]at hy;rcases List.mem_append.1 hy with hy|hy
 ·have hu:Up k (v.take i++v.drop i):=by rw[List.take_append_drop];exact h
  have:=(Up.append.1 hu).2.2 y hy v[i] (by rw[List.drop_eq_getElem_cons hi];exact List.mem_cons_self);omega
 ·simp at hy;subst hy;exact hx
theorem Up.qg4(h:Up k v)(hi:i<v.length)(hx:k x<=k v[i]):∀y∈v.drop i,k x<=k y:=by
 intro y hy;rw[List.drop_eq_getElem_cons hi]at hy;rcases List.mem_cons.1 hy with rfl|hy
 ·exact hx
 ·have hu:Up k (v.take i++v.drop i):=by rw[List.take_append_drop];exact h
  have hd:=(Up.append.1 hu).2.1;rw[List.drop_eq_getElem_cons hi]at hd;have:=(List.pairwise_cons.1 hd).1 y hy;omega
theorem Up.qwv(h:Up k v)(hi:i<v.length)(hx:k x<k v[i]):∀y∈v.drop i,k x<k y:=by
 intro y hy;have:=h.qg4 (x:=v[i]) hi (Int.le_refl _) y hy;omega
end Tm
namespace Tm
theorem Up.split{k:Int->Int}{u v:List Int}{T E:Nat}(hu:Up k u)(hv:Up k v)(h1:T<u.length->0<E->E<=v.length->k (v.getD (E-1) 0)<k (u.getD T 0))(h2:0<T->T<=u.length->E<v.length->k (u.getD (T-1) 0)<=k (v.getD E 0))(hT:T<=u.length)(hE:E<=v.length) :
  (∀x∈v.take E,∀y∈u.drop T,k x<k y)/\(∀x∈u.take T,∀y∈v.drop E,k x<=k y):=by
 constructor
 ·intro x hx y hy
  have hE0:0<E:=by
   cases E with
   | zero=>simp at hx
   | succ n=>omega
  have hTu:T<u.length:=by
   apply Classical.byContradiction;intro hn;rw[List.drop_eq_nil_of_le (by omega)]at hy;cases hy
  have h:=h1 hTu hE0 hE
  have hE1:E-1<v.length:=by omega
  rw[List.getD_eq_getElem?_getD,List.getD_eq_getElem?_getD,List.getElem?_eq_getElem hE1,List.getElem?_eq_getElem hTu]at h;simp only[Option.getD_some]at h;have a1:=hv.qjW (x:=v[E-1]) hE1 (Int.le_refl _) x (by rw[show E-1+1=E from by omega];exact hx);have a2:=hu.qg4 (x:=u[T]) hTu (Int.le_refl _) y hy;omega
 ·intro x hx y hy
  have hT0:0<T:=by
   cases T with
   | zero=>simp at hx
   | succ n=>omega
  have hEv:E<v.length:=by
   apply Classical.byContradiction;intro hn;rw[List.drop_eq_nil_of_le (by omega)]at hy;cases hy
  have h:=h2 hT0 hT hEv
  have hT1:T-1<u.length:=by omega
  rw[List.getD_eq_getElem?_getD,List.getD_eq_getElem?_getD,List.getElem?_eq_getElem hT1,List.getElem?_eq_getElem hEv]at h;simp only[Option.getD_some]at h;have a1:=hu.qjW (x:=u[T-1]) hT1 (Int.le_refl _) x (by rw[show T-1+1=T from by omega];exact hx);have a2:=hv.qg4 (x:=v[E]) hEv (Int.le_refl _) y hy;omega
