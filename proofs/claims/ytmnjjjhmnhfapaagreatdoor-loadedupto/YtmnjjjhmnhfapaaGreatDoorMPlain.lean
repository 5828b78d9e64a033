import Derived.Conc.Listed
import Derived.Calls
import Derived.Test.YtmnjjjhmnhfapaaGreatDoorMSimOpsK
namespace Go.Proofs.YtmnjjjhmnhfapaaGreatDoor
namespace Sim
variable {P:Program}
inductive TR(K:Kr):Target->Target->Prop
 | lost (c c':Array Value) (g:Fn):TR K (.fn (.method "") c) (.fn g c')
 | fn (f:FuncId) (c c':Array Value):K.Fs f->AV K c c'->TR K (.fn (.func f) c) (.fn (.func f) c')
 | nil:TR K .nil .nil
 | builtin (b:Builtin) (ts:Array TypeId) (t:TypeId) (cs:Array Bool):TR K (.builtin b ts t cs) (.builtin b ts t cs)
structure DR(K:Kr)(d d':Deferred):Prop where
 target:TR K d.target d'.target
 args:(∀c,d.target≠.fn (.method "") c)->AV K d.args d'.args
 head:∀c,d.target=.fn (.method "") c->d.args[0]?=some (.iface 0 (.tuple #[]))
theorem TR.mono{K K':Kr}(h:K.le K'){x y:Target}(v:TR K x y):TR K' x y:=by
 cases v with
 | fn f c c' e a=>exact .fn f c c' (by rw[h.fs];exact e) (a.mono h)
 | nil=>exact .nil
 | builtin b ts t cs=>exact .builtin b ts t cs
 | lost c c' g=>exact .lost c c' g
theorem DR.mono{K K':Kr}(h:K.le K'){x y:Deferred}(v:DR K x y):DR K' x y:=⟨v.target.mono h,fun e=>(v.args e).mono h,v.head⟩
theorem qgK{t:TypeId}{i:TypeInfo}(hd:P.info? t=some i)(w:World)(es:Array Event):(typeInfo t).runT P w es=(.ok i w,es):=by
 show(Sem.bind Go.program _).runT P w es=_;rw[Sem.runT_bind'];have e:(Go.program).runT P w es=(.ok P w,es):=rfl;rw[e];dsimp only;rw[hd];rfl
theorem qoy  (H:VI P) (n:Nat) (v:Value) (w:World) (es:Array Event):∃q w',((method n 0 v "").runT P w es).1=.halt q w'/\za q=true:=by
 obtain⟨i,h1,h2⟩:=H.none_
 cases n with
 | zero=>exact⟨_,_,rfl,rfl⟩
 | succ n =>
  unfold method;show ∃q w',((Sem.bind (typeInfo 0) _).runT P w es).1=.halt q w'/\za q=true;rw[Sem.runT_bind',qgK h1];dsimp only;rw[h2];exact⟨_,_,rfl,rfl⟩
theorem qq4  (H:VI P) (n:Nat) (v:Value) (w:World) (es:Array Event):(nilAhead n 0 v "").runT P w es=(.ok none w,es)\/∃q w',((nilAhead n 0 v "").runT P w es).1=.halt q w'/\za q=true:=by
 obtain⟨i,h1,h2⟩:=H.none_
 cases n with
 | zero=>exact .inl rfl
 | succ n =>
  refine .inr ?_;unfold nilAhead;show ∃q w',((Sem.bind (typeInfo 0) _).runT P w es).1=.halt q w'/\za q=true;rw[Sem.runT_bind',qgK h1];dsimp only;rw[h2];exact⟨_,_,rfl,rfl⟩
theorem qhD  (H:VI P) (c args:Array Value) (h:args[0]?=some (.iface 0 (.tuple #[]))) (w:World) (es:Array Event):∃q w',((invoke (.fn (.method "") c) args).runT P w es).1=.halt q w'/\za q=true:=by
 unfold invoke;dsimp only;rw[h];dsimp only;unfold callMethod;dsimp only;show ∃q w',((Sem.bind Go.program _).runT P w es).1=.halt q w'/\za q=true;rw[Sem.runT_bind'];have e:(Go.program).runT P w es=(.ok P w,es):=rfl;rw[e];dsimp only;obtain⟨q,w',e1,e2⟩:=qoy H (P.types.size+Made.depth) (.tuple #[]) w es;exact⟨q,w',yz _ w es e1,e2⟩
def _root_.Go.Deferred.qnb(d:Deferred):Prop:=∀b ts t cs,d.target≠.builtin b ts t cs
inductive NR(P:Program)(K:Kr):Next->Next->Prop
 | value (v v':Value):VR K v v'->NR P K (.value v) (.value v')
 | skip:NR P K .skip .skip
 | enter (f:FuncId) (a a':Array Value):K.Fs f->(∃fn,P.funcs[f]?=some fn/\fn.body.isNone=false)->AV K a a'->NR P K (.enter f a) (.enter f a')
 | defer (d d':Deferred):DR K d d'->d.qnb->K.Fs 999999->NR P K (.defer d) (.defer d')
 | recover:NR P K .recover .recover
def Qke(P:Program)(Fs:FuncId->Prop):Prop :=
 ∀f,f<P.funcs.size->Fs f->∃fn,P.funcs[f]?=some fn/\(fn.name == "runtime.NumGoroutine")=false /\
  (fn.body.isNone=false\/(fn.body.isNone=true/\Extern.findNext fn=none/\(Extern.find fn=some Extern.BytealgCompare.compare\/Extern.find fn=some (Extern.SlicesOverlaps.overlaps fn.params fn.resultTypes) \/
   Extern.find fn=some Extern.BytealgIndexByte.indexByte\/Extern.find fn=some Extern.BytealgCount.count \/
   (Extern.find fn=some Extern.BytealgIndex.index/\∃g,P.globals.findIdx? (·.name == "internal/bytealg.MaxLen")=some g/\(P.funcs.size+1+g<999999/\Fs (P.funcs.size+1+g))))))
def Qfv(P:Program)(K:Kr):Prop:=∀g,P.funcs.size+1+g<999999->K.Fs (P.funcs.size+1+g)->K.B g g
def Qx2(K:Kr):Prop:=∀f,K.Fs (1000000+f)->K.Fs f
theorem Qfv.mono{K K':Kr}(h:K.le K')(x:Qfv P K):Qfv P K':=fun g hs hg=>h.b _ _ (x g hs (by rw[<-h.fs];exact hg))
section
variable {P:Program}{K:Kr}
variable {xs ys:Array Value}{Fs:FuncId->Bool}{ρ ρ':Operand->Value}
theorem qD{s s':Sem Value}(h:SR P VT K s s'):SR P (fun K a a'=>NR P K a a') K (do pure (.value (<-s))) (do pure (.value (<-s'))):=h.bind' (fun _ _ _v _v' hv=>SR.pure (.value _ _ hv))
theorem qkJ{s s':Sem Unit}(h:SR P UT K s s'):SR P (fun K a a'=>NR P K a a') K (do s;pure .skip) (do s';pure .skip):=h.bind' (fun _ _ _ _ _=>SR.pure .skip)
theorem qoz(HF:Qke P K.Fs)(HGl:Qfv P K){f:FuncId}(hf:K.Fs f)(h:AV K xs ys):SR P (fun K a a'=>NR P K a a') K (callFunc f xs) (callFunc f ys):=by
 by_cases hlt:f<P.funcs.size
 ·obtain⟨fn,e1,e2,e3⟩:=HF f hlt hf;unfold callFunc;refine SR.yB ?_;rw[e1];dsimp only;rw[e2];rcases e3 with e3|⟨e3,e4,e5⟩
  ·rw[e3];exact SR.pure (.enter f _ _ hf ⟨fn,e1,e3⟩ h)
  ·rw[e3];refine SR.extern ?_;simp only[Sem.bind];rw[e4];rcases e5 with e5|e5|e5|e5|⟨e5,g,e6,e7⟩
   ·rw[e5];exact qD (qjh h)
   ·rw[e5];exact qD (qhE _ _ h)
   ·rw[e5];exact qD (qgL h)
   ·rw[e5];exact qD (qnc h)
   ·rw[e5];exact qD (qhF e6 (HGl g e7.1 e7.2) h)
 ·unfold callFunc;refine SR.yB ?_;rw[Array.getElem?_eq_none (Nat.not_lt.1 hlt)];exact SR.stuck
def qd1(P:Program)(b:Builtin)(ts:Array TypeId):Bool :=
 match b with
 | .len|.cap=>qnd P ts
 | .append=>(qu1 P ts || qu2 P ts)&&(match (ts[0]? :Option TypeId)with|some t=>decide (t<P.types.size)|none=>true)
 | .copy|.min=>true
 | .clear=>qne P ts
 | .recover=>true
 | _=>false
theorem qq5(H:VI P){b:Builtin}{ts:Array TypeId}(ho:qd1 P b ts=true)(t:TypeId)(cs:Array Bool)(h:AV K xs ys)(hm:b=.clear->∀x,xs[0]?=some x->∀r,x≠.map (some r)) :
  SR P (fun K a a'=>NR P K a a') K (builtin b ts t cs xs) (builtin b ts t cs ys):=by
 cases b<;>first|(cases ho;done)|skip
 ·simp only[qd1,Bool.or_eq_true,Bool.and_eq_true]at ho
  have h0:∀t,ts[0]?=some t->t<P.types.size:=fun t e=>by
   have:=ho.2;rw[e]at this;simpa using this
  exact ho.1.elim (fun ho=>qD (qs2 H ho h0 t h)) (fun ho=>qD (qq6 H ho h0 t h))
 ·exact qD (qx3 ho t h)
 ·exact qD (qu3 H ho t h (hm rfl))
 ·exact qD (qwQ ts t h)
 ·exact qD (qx4 ho t h)
 ·exact qD (qx5 ts t h)
 ·exact SR.pure .recover
def okX(P:Program)(Fs:FuncId->Bool):Operand->Bool
 | .tmp _=>true
 | .const v=>jX 9 v
 | .func f=>Fs (1000000+f)
 | .global g=>decide (P.funcs.size+1+g<999999)&&Fs (P.funcs.size+1+g)
def okC(P:Program)(Fs:FuncId->Bool):Operand->Bool
 | .func f=>Fs f
 | x=>okX P Fs x
def qkf(P:Program)(Fs:FuncId->Bool)(xs:Array Operand):Bool:=xs.toList.all (okX P Fs)
def okO(P:Program)(Fs:FuncId->Bool):Option Operand->Bool
 | none=>true
 | some x=>okX P Fs x
def qaZ:Op->Option Nat
 | .call {callee:=.builtin .clear,args,.. }=>match (args[0]? :Option Operand)with|some (.tmp k)=>some k|_=>none
 | .panic (.tmp k)=>some k
 | _=>none
def isSlice:Op->Bool
 | .slice .. =>true
 | .makeInterface .. =>true
 | _=>false
def qnf(P:Program)(o:BinOp)(t:TypeId)(y:Operand):Bool :=
 (match o with|.eql|.neq=>true|_=>false)&&(match P.underlying t,y with|some (.pointer _),.const (.pointer none)=>true|some (.interface _),.const .nilIface=>true|_,_=>false)
def xu(P:Program)(Fs:FuncId->Bool)(op:Op):Bool :=
 match op with
 | .move x|.assign x|.box _ x|.load _ x|.nilCheck x|.unOp _ _ x|.fieldAddr _ x _|.field _ x _|.next x true|.extract x _=>okX P Fs x
 | .pick c a b=>okX P Fs c&&okX P Fs a&&okX P Fs b
 | .alloc e=>decide (e<P.types.size)
 | .build t ps|.buildSlice t _ ps=>decide (t<P.types.size)&&ps.toList.all fun p=>okX P Fs p.2
 | .makeSlice t a x=>decide (t<P.types.size)&&okX P Fs a&&okX P Fs x
 | .store _ a x|.indexAddr _ a x|.index _ a x=>okX P Fs a&&okX P Fs x
 | .binOp o t x y _=>(qg8 P o t&&okX P Fs x&&okX P Fs y) || (qnf P o t y&&okX P Fs x)
 | .makeMap _ none=>true
 | .makeInterface _ x=>okX P Fs x
 | .panic (.tmp _)=>true
 | .typeAssert x _ a true=>okX P Fs x&&decide (a<P.types.size)&&(match P.underlying a with|some (.interface _)=>false|_=>true)
 | .mapUpdate t m k x=>Fs P.funcs.size&&(match P.underlying t with|some (.map k _)=>jT P k|_=>false)&&okX P Fs m&&okX P Fs k&&okX P Fs x
 | .defer c=>Fs 999999&&qkf P Fs c.args&&(match c.callee with|.value f=>okC P Fs f|_=>false)
 | .convert s d x=>qng P s d&&okX P Fs x
 | .makeFunc (.func f) xs ys=>Fs (1000000+f)&&qkf P Fs xs&&qkf P Fs ys
 | .slice _ x l h m=>okX P Fs x&&okO P Fs l&&okO P Fs h&&okO P Fs m
 | .lookup t x i _=>decide (t<P.types.size)&&(match P.underlying t with|some (.map k _)=>jT P k|_=>false)&&okX P Fs x&&okX P Fs i
 | .range t x=>(match P.underlying t with|some .string=>true|_=>false)&&okX P Fs x
 | .call c=>qkf P Fs c.args&&(match c.callee with
  | .builtin b=>qd1 P b c.argTypes&&(match b with|.clear=>(match (c.args[0]? :Option Operand)with|some (.tmp _)=>true|_=>false)|_=>true)
  | .value f=>okC P Fs f
  | .invoke .. =>false)
 | _=>false
theorem qji(hFs:∀f,Fs f=true->K.Fs f)(HV:Qx2 K)(hF:∀f,ρ (.func f)=.func (.func f) #[] #[]/\ρ' (.func f)=.func (.func f) #[] #[])(hρ:∀x,okX P Fs x=true->VR K (ρ x) (ρ' x))(c:Call)(t:TypeId)(ha:qkf P Fs c.args=true)(hc:(match c.callee with|.value f=>okC P Fs f|.builtin _=>true|_=>false)=true) :
  SR P (fun K d d'=>DR K d d'/\∀b ts t cs,d.target=.builtin b ts t cs->c.callee=.builtin b/\ts=c.argTypes/\d.args=c.args.map ρ) K (resolve ρ c t) (resolve ρ' c t):=by
 have qjg:AV K (c.args.map ρ) (c.args.map ρ'):=AV.map _ (fun x hx=>hρ x (List.all_eq_true.1 ha x (by simpa using hx)));unfold resolve
 cases hcal:c.callee with
 | builtin b=>exact SR.pure ⟨⟨.builtin ..,fun _=>qjg,fun c e=>by cases e⟩,fun b' ts t cs e=>by cases e;exact⟨rfl,rfl,rfl⟩⟩
 | invoke r n=>rw[hcal]at hc;cases hc
 | value f =>
  rw[hcal]at hc
  have key:∀hv:VR K (ρ f) (ρ' f),SR P (fun K d d'=>DR K d d'/\∀b ts t cs,d.target=.builtin b ts t cs->Callee.value f=.builtin b/\ts=c.argTypes/\d.args=c.args.map ρ) K (Deferred.ofValue (ρ f) (c.args.map ρ)) (Deferred.ofValue (ρ' f) (c.args.map ρ')):=by
   generalize ρ f=a;generalize ρ' f=b;intro hv
   cases hv with
   | func f g xs ys us vs e h1 h2 h3 h4 =>
    cases e with
    | func f hf=>exact SR.pure ⟨⟨.fn f _ _ (HV f hf) ⟨h3,h4⟩,fun _=>(AV.mk h1 h2:AV K xs ys).append qjg,fun c e=>by cases e⟩,fun b ts t cs e=>by cases e⟩
   | nilFunc=>exact SR.pure ⟨⟨.nil,fun _=>qjg,fun c e=>by cases e⟩,fun b ts t cs e=>by cases e⟩
   | junkF n ys vs=>exact SR.pure ⟨⟨.lost _ _ _,fun e=>absurd rfl (e _),fun c e=>by show(#[Value.iface 0 (Value.tuple #[])]++_)[0]?=_;rw[Array.getElem?_append_left (by simp)];rfl⟩,fun b ts t cs e=>by cases e⟩
   | _=>exact SR.stuck
  show SR P _ K (Deferred.ofValue (ρ f) _) (Deferred.ofValue (ρ' f) _)
  cases f with
  | func g =>
   rw[(hF g).1,(hF g).2];exact SR.pure ⟨⟨.fn g _ _ (hFs g hc) (AV.empty K),fun _=>(AV.empty K).append qjg,fun c e=>by cases e⟩,fun b ts t cs e=>by cases e⟩
  | tmp t=>exact key (hρ _ hc)
  | const v=>exact key (hρ _ hc)
  | global g=>exact key (hρ _ hc)
theorem qs3(HF:Qke P K.Fs)(HGl:Qfv P K)(H:VI P){d d':Deferred}(h:DR K d d')(hb:∀b ts t cs,d.target=.builtin b ts t cs->qd1 P b ts=true/\(b=.clear->∀x,d.args[0]?=some x->∀r,x≠.map (some r))) :
  SR P (fun K a a'=>NR P K a a') K (invoke d.target d.args) (invoke d'.target d'.args):=by
 obtain⟨t,xs⟩:=d;obtain⟨t',ys⟩:=d';obtain⟨ht,ha,hl⟩:=h;dsimp only at ht ha hl hb⊢
 cases ht with
 | lost c c' g=>exact SR.doomed (qhD H c xs (hl c rfl))
 | nil=>exact qb7
 | builtin b ts t cs=>exact qq5 H (hb b ts t cs rfl).1 t cs (ha (fun c e=>by cases e)) (hb b ts t cs rfl).2
 | fn f c c' hf hc=>exact qoz HF HGl hf ((ha (fun c e=>by cases e)).append hc)
theorem qpb(hρ:∀x,okX P Fs x=true->VR K (ρ x) (ρ' x)){xs:Array Operand}(h:qkf P Fs xs=true):AV K (xs.map ρ) (xs.map ρ'):=AV.map _ (fun x hx=>hρ x (List.all_eq_true.1 h x (by simpa using hx)))
theorem qnh(hρ:∀x,okX P Fs x=true->VR K (ρ x) (ρ' x)){x:Option Operand}(h:okO P Fs x=true):OV K (x.map ρ) (x.map ρ'):=by
 cases x with
 | none=>exact .none
 | some x=>exact .some _ _ (hρ x h)
theorem qpc(hρ:∀x,okX P Fs x=true->VR K (ρ x) (ρ' x)){ps:Array (Nat×Operand)}(h:(ps.toList.all fun p=>okX P Fs p.2)=true):PV K (ps.map fun p=>(p.1,ρ p.2)) (ps.map fun p=>(p.1,ρ' p.2)):=by
 refine⟨by simp,fun i x y h1 h2=>?_⟩;rw[Array.getElem?_map]at h1 h2
 cases hp:ps[i]? with
 | none=>rw[hp]at h1;cases h1
 | some p =>
  rw[hp]at h1 h2;cases h1;cases h2;exact⟨rfl,hρ _ (List.all_eq_true.1 h p (by simpa using Array.mem_of_getElem? hp))⟩
theorem qg9{s s':Sem Bool}(h:SR P EqT K s s')(f:Bool->Bool):SR P VT K (do pure (.bool (f (<-s)))) (do pure (.bool (f (<-s')))):=h.bind' (fun _ _ b b' e=>by subst e;exact SR.pure (.bool _))
theorem qs4(hC:∀v,ρ (.const v)=v/\ρ' (.const v)=v){o:BinOp}{t:TypeId}{y:Operand}(h:qnf P o t y=true)(x:Operand)(hx:VR K (ρ x) (ρ' x)) :
  SR P VT K (do eqGuard o t x y (ρ x) (ρ y);binOp o t (ρ x) (ρ y)) (do eqGuard o t x y (ρ' x) (ρ' y);binOp o t (ρ' x) (ρ' y)):=by
 unfold qnf at h;simp only[Bool.and_eq_true]at h;obtain⟨h1,h2⟩:=h
 cases hu:P.underlying t with
 | none=>rw[hu]at h2;cases h2
 | some u =>
  rw[hu]at h2
  cases y with
  | const v =>
   rw[(hC v).1,(hC v).2]
   revert hx
   generalize ρ x=p;generalize ρ' x=p';intro hx;by_cases hj:p=.tuple #[]
   ·subst hj;refine SR.doomed (fun w es=>?_)
    have hb:∃q w',((binOp o t (.tuple #[]) v).runT P w es).1=.halt q w'/\za q=true:=by
     have hq:∃q w',((Op.equal t (.tuple #[]) v).runT P w es).1=.halt q w'/\za q=true:=by
      unfold Op.equal Op.maxDepth Op.equalIn;show ∃q w',((Sem.bind (underlying t) _).runT P w es).1=.halt q w'/\za q=true;rw[Sem.runT_bind',vq hu];cases u<;>first|(cases v<;>cases h2;done)|(cases v<;>exact⟨_,_,rfl,rfl⟩)
     obtain⟨q,w',e1,e2⟩:=hq;cases o<;>first|(cases h1;done)|skip
     ·have e:binOp .eql t (.tuple #[]) v=(do pure (.bool (<-Op.equal t (.tuple #[]) v))):=by cases v<;>rfl
      rw[e];exact⟨q,w',yz _ w es e1,e2⟩
     ·have e:binOp .neq t (.tuple #[]) v=(do pure (.bool (!(<-Op.equal t (.tuple #[]) v)))):=by cases v<;>rfl
      rw[e];exact⟨q,w',yz _ w es e1,e2⟩
    show ∃q w',(((eqGuard o t x (.const v) (.tuple #[]) v).bind _).runT P w es).1=.halt q w'/\za q=true;rw[qgM x _ (.inl rfl)];exact hb
   cases v<;>first|(cases u<;>cases h2;done)|skip
   ·rename_i a
    cases a with
    | some a=>cases u<;>cases h2
    | none =>
     cases u<;>first|(cases h2;done)|skip
     have g:SR P UT K (eqGuard o t x (.const (.pointer none)) p (.pointer none)) (eqGuard o t x (.const (.pointer none)) p' (.pointer none)):=by
      unfold eqGuard;cases o<;>first|(cases h1;done)|(cases hx<;>first|exact absurd rfl hj|exact SR.pure trivial)
     refine g.bind' (fun K1 hle _ _ _=>?_);have hx1:=hx.mono hle;have eq:=qs5 (K:=K1) hu hx1;cases o<;>first|(cases h1;done)|skip
     ·revert eq
      cases hx1<;>first|exact absurd rfl hj|(intro eq;exact qg9 eq id)
     ·revert eq
      cases hx1<;>first|exact absurd rfl hj|(intro eq;exact qg9 eq not)
   ·cases u<;>first|(cases h2;done)|skip
    have g:SR P UT K (eqGuard o t x (.const .nilIface) p .nilIface) (eqGuard o t x (.const .nilIface) p' .nilIface):=by
     unfold eqGuard;cases o<;>first|(cases h1;done)|(cases hx<;>first|exact absurd rfl hj|exact SR.pure trivial|(cases x<;>exact SR.pure trivial))
    refine g.bind' (fun K1 hle _ _ _=>?_);have hx1:=hx.mono hle;have eq:=qs6 (K:=K1) hu hx1;cases o<;>first|(cases h1;done)|skip
    ·revert eq
     cases hx1<;>first|exact absurd rfl hj|(intro eq;exact qg9 eq id)
    ·revert eq
     cases hx1<;>first|exact absurd rfl hj|(intro eq;exact qg9 eq not)
  | _=>cases u<;>cases h2
theorem qq7(H:VI P)(w:World)(es:Array Event):∃q w',((do
    if(<-nilAhead ((<-program).types.size+Made.depth) 0 (.tuple #[]) "") != some false then
     unsupported (.noEntry "op/nilCheck.the method's receiver behind this interface value is a nil pointer, or cannot be seen to be none, and the arguments act or may panic (ledger 612)")
    pure (Next.value (.func (.method "") #[.iface 0 (.tuple #[])] #[])):Sem Next).runT P w es).1=.halt q w'/\za q=true:=by
 show ∃q w',((Sem.bind Go.program _).runT P w es).1=.halt q w'/\za q=true;rw[Sem.runT_bind'];have e:(Go.program).runT P w es=(.ok P w,es):=rfl;rw[e];dsimp only
 show ∃q w',((Sem.bind (nilAhead (P.types.size+Made.depth) 0 (.tuple #[]) "") _).runT P w es).1=.halt q w'/\za q=true
 rcases qq4 H (P.types.size+Made.depth) (.tuple #[]) w es with h|⟨q,w',e1,e2⟩
 ·rw[Sem.runT_bind',h];exact⟨_,_,rfl,rfl⟩
 ·exact⟨q,w',yz _ w es e1,e2⟩
theorem qkK(HF:Qke P K.Fs)(HGl:Qfv P K)(HV:Qx2 K)(H:VI P)(hFs:∀f,Fs f=true->K.Fs f)(hC:∀v,ρ (.const v)=v/\ρ' (.const v)=v)(hF:∀f,ρ (.func f)=.func (.func f) #[] #[]/\ρ' (.func f)=.func (.func f) #[] #[])(hρ:∀x,okX P Fs x=true->VR K (ρ x) (ρ' x))
  (o:Oper) (hS:∀k,qaZ o.op=some k->(∀r,ρ (.tmp k)≠.map (some r))/\ρ (.tmp k)≠.nilIface) (ho:xu P Fs o.op=true):SR P (fun K a a'=>NR P K a a') K (execOp ρ o) (execOp ρ' o):=by
 obtain⟨dst,op,ty,pos,after,guard⟩:=o;dsimp only at ho hS;unfold execOp
 cases op with
 | move x=>exact SR.pure (.value _ _ (hρ x ho))
 | assign x=>exact SR.pure (.value _ _ (hρ x ho))
 | pick c a b =>
  simp only[xu,Bool.and_eq_true]at ho;obtain⟨⟨h1,h2⟩,h3⟩:=ho;refine(qkL (hρ c h1)).bind' (fun K1 hle q q' e=>?_);subst e
  cases q with
  | true=>exact SR.pure (.value _ _ ((hρ a h2).mono hle))
  | false=>exact SR.pure (.value _ _ ((hρ b h3).mono hle))
 | alloc e=>exact qD (qu4 H (by simpa[xu]using ho))
 | box e x=>exact qD (qx6 e (hρ x ho))
 | build t ps =>
  simp only[xu,Bool.and_eq_true,decide_eq_true_eq]at ho;exact qD (qu5 H ho.1 (qpc hρ ho.2))
 | buildSlice t n ps =>
  simp only[xu,Bool.and_eq_true,decide_eq_true_eq]at ho;exact qD (qln H ho.1 n (qpc hρ ho.2))
 | load t a=>exact qD (qs7 t (hρ a ho))
 | store t a x =>
  simp only[xu,Bool.and_eq_true]at ho;exact qkJ (qq8 t (hρ a ho.1) (hρ x ho.2))
 | nilCheck x =>
  have hv:=hρ x ho;dsimp only
  revert hv
  generalize ρ x=a;generalize ρ' x=b;intro hv
  cases hv with
  | ptr0=>exact qb7
  | nilIface=>exact qb7
  | nilFunc=>exact qb7
  | func f g xs ys us vs e h1 h2 h3 h4=>cases e with|func f hf=>exact SR.pure (.value _ _ (.func _ _ _ _ _ _ (.func f hf) h1 h2 h3 h4))
  | bool b=>exact SR.pure (.value _ _ (.bool b))
  | int k n=>exact SR.pure (.value _ _ (.int k n))
  | string s=>exact SR.pure (.value _ _ (.string s))
  | ptr a b e=>exact SR.pure (.value _ _ (.ptr a b e))
  | slice0 n c=>exact SR.pure (.value _ _ (.slice0 n c))
  | slice a b n c e=>exact SR.pure (.value _ _ (.slice a b n c e))
  | map0=>exact SR.pure (.value _ _ .map0)
  | map a b e=>exact SR.pure (.value _ _ (.map a b e))
  | chan0=>exact SR.pure (.value _ _ .chan0)
  | chan a b e=>exact SR.pure (.value _ _ (.chan a b e))
  | iface t x y e=>exact SR.pure (.value _ _ (.iface t x y e))
  | agg xs ys h1 h2=>exact SR.pure (.value _ _ (.agg xs ys h1 h2))
  | tuple xs ys h1 h2=>exact SR.pure (.value _ _ (.tuple xs ys h1 h2))
  | junk _ e =>
   have hr:NR P K (.value (.tuple #[])) (.value b):=.value _ _ (.junk _ e)
   cases b with
   | func g ys vs=>cases g<;>first|(cases e;done)|exact SR.pure hr
   | pointer a=>cases a<;>first|(cases e;done)|exact SR.pure hr
   | _=>first|(cases e;done)|exact SR.pure hr
  | junkF n ys vs=>exact SR.doomed (fun w es=>qq7 H w es)
 | binOp op t x y yt =>
  simp only[xu,Bool.or_eq_true,Bool.and_eq_true]at ho;rcases ho with ho|ho
  ·obtain⟨⟨h1,h2⟩,h3⟩:=ho
   have hg:P.eqGuardType P.depth t=false:=by
    unfold qg8 at h1;simp only[Bool.and_eq_true,Bool.not_eq_true']at h1;exact h1.2
   by_cases hj:ρ x=.tuple #[]\/ρ y=.tuple #[]
   ·refine SR.doomed (fun w es=>?_);obtain⟨q,w',e1,e2⟩:=qjj h1 hj w es;refine⟨q,w',?_,e2⟩;refine yz _ w es ?_;show(((eqGuard op t x y (ρ x) (ρ y)).bind _).runT P w es).1=_;rw[qgM x y hj];exact e1
   ·refine qD ((qq9 hg x y (hρ x h2) (hρ y h3) (fun e=>hj (.inl e)) (fun e=>hj (.inr e))).bind' (fun K1 hle _ _ _=>qu6 h1 ((hρ x h2).mono hle) ((hρ y h3).mono hle)))
  ·exact qD (qs4 hC ho.1 x (hρ x ho.2))
 | makeMap t r =>
  cases r with
  | none=>exact qD (qra t)
  | some r=>cases ho
 | makeInterface t x=>exact qD (qir t (hρ x ho))
 | panic x =>
  cases x with
  | tmp k=>exact qD (qrb (hρ _ rfl) (hS k rfl).2)
  | _=>cases ho
 | typeAssert x t a c =>
  cases c with
  | false=>cases ho
  | true =>
   simp only[xu,Bool.and_eq_true,decide_eq_true_eq]at ho;exact qD (qlo H (hρ x ho.1.1) t a ho.1.2 ho.2)
 | mapUpdate t m k x =>
  simp only[xu,Bool.and_eq_true]at ho;obtain⟨⟨⟨⟨h0,h1⟩,h2⟩,h3⟩,h4⟩:=ho
  cases hu:P.underlying t with
  | none=>rw[hu]at h1;cases h1
  | some u =>
   rw[hu]at h1;cases u<;>first|(cases h1;done)|exact qkJ (qni hu h1 (hFs _ h0) (hρ m h2) (hρ k h3) (hρ x h4))
 | defer c =>
  simp only[xu,Bool.and_eq_true]at ho;obtain⟨⟨h0,h1⟩,h2⟩:=ho;refine(qji hFs HV hF hρ c ty h1 (by revert h2;cases c.callee<;>intro h2<;>first|exact h2|cases h2)).bind' (fun K1 hle d d' hd=>SR.pure (.defer _ _ hd.1 (fun b ts t cs e=>?_) (by rw[hle.fs];exact hFs _ h0)))
  obtain⟨e1,_⟩:=hd.2 b ts t cs e;rw[e1]at h2;cases h2
 | unOp op t x=>exact qD (qu7 op (hρ x ho))
 | convert s d x =>
  simp only[xu,Bool.and_eq_true]at ho;exact qD (qrc ho.1 (hρ x ho.2))
 | makeFunc fn xs ys =>
  cases fn with
  | func f =>
   simp only[xu,Bool.and_eq_true]at ho;exact qD (qoA (hFs _ ho.1.1) (qpb hρ ho.1.2) (qpb hρ ho.2))
  | _=>cases ho
 | makeSlice t l c =>
  simp only[xu,Bool.and_eq_true,decide_eq_true_eq]at ho;exact qD (qnj H ho.1.1 (hρ l ho.1.2) (hρ c ho.2))
 | slice t x l h m =>
  simp only[xu,Bool.and_eq_true]at ho;exact qD (qrd t (hρ x ho.1.1.1) (qnh hρ ho.1.1.2) (qnh hρ ho.1.2) (qnh hρ ho.2))
 | fieldAddr s x f=>exact qD (qre s (hρ x ho) f)
 | field t x f=>exact qD (qu8 t (hρ x ho) f)
 | indexAddr t x i =>
  simp only[xu,Bool.and_eq_true]at ho;exact qD (qrf t (hρ x ho.1) (hρ i ho.2))
 | index t x i =>
  simp only[xu,Bool.and_eq_true]at ho;exact qD (qu9 t (hρ x ho.1) (hρ i ho.2))
 | lookup t x i ok =>
  simp only[xu,Bool.and_eq_true,decide_eq_true_eq]at ho;obtain⟨⟨⟨h0,h1⟩,h2⟩,h3⟩:=ho
  cases hu:P.underlying t with
  | none=>rw[hu]at h1;cases h1
  | some u =>
   rw[hu]at h1;cases u<;>first|(cases h1;done)|exact qD (qs8 H h0 hu h1 (hρ x h2) (hρ i h3) ok)
 | range t x =>
  simp only[xu,Bool.and_eq_true]at ho;obtain⟨h1,h2⟩:=ho
  cases hu:P.underlying t with
  | none=>rw[hu]at h1;cases h1
  | some u =>
   rw[hu]at h1;cases u<;>first|(cases h1;done)|exact qD (qs9 t hu (hρ x h2))
 | next x b =>
  cases b with
  | true=>exact qD (qva _ (hρ x ho))
  | false=>cases ho
 | extract x i=>exact qD (qrg (hρ x ho) i)
 | call c =>
  simp only[xu,Bool.and_eq_true]at ho;obtain⟨h1,h2⟩:=ho;refine(qji hFs HV hF hρ c ty h1 (by revert h2;cases c.callee<;>intro h2<;>first|exact h2|rfl|cases h2)).bind' (fun K1 hle d d' hd=>?_)
  refine qs3 (by rw[hle.fs];exact HF) (HGl.mono hle) H hd.1 (fun b ts t cs e=>?_);obtain⟨e1,e2,e3⟩:=hd.2 b ts t cs e;rw[e1]at h2;simp only[Bool.and_eq_true]at h2;refine⟨by rw[e2];exact h2.1,fun eb x hx r=>?_⟩;subst eb;have h3:=h2.2;rw[e3,Array.getElem?_map]at hx
  cases hz:c.args[0]? with
  | none=>rw[hz]at hx;cases hx
  | some z =>
   rw[hz]at hx h3;cases hx
   cases z with
   | tmp k =>
    refine(hS k ?_).1 r;obtain⟨cal,as,ats⟩:=c;dsimp only at e1 hz;subst e1;show(match (as[0]? :Option Operand)with|some (.tmp k)=>some k|_=>none)=_;rw[hz]
   | _=>cases h3
 | _=>cases ho
end
end Sim
namespace Sim
variable {P:Program}{Fs:FuncId->Bool}{K:Kr}{κ:List Item}
def qeO(ops:Array Oper):Bool:=ops.toList.all fun o=>(qaZ o.op).isNone
def qrh(ops:Array Oper):Bool:=(List.range ops.size).all fun j=>match (ops[j]? :Option Oper)with
 | some o=>match qaZ o.op with
  | none=>true
  | some t=>match j with
   | 0=>false
   | i+1=>match (ops[i]? :Option Oper)with
    | some p=>p.dst == some t&&isSlice p.op
    | none=>false
 | none=>true
def qri(P:Program)(Fs:FuncId->Bool)(ops:Array Oper):Bool:=ops.toList.all fun o=>xu P Fs o.op
def jG(P:Program)(Fs:FuncId->Bool):Code->Bool
 | .skip|.exit _|.ret=>true
 | .region _ ops draw=>qri P Fs ops&&(qeO ops || (!draw&&qrh ops))
 | .seq a b=>jG P Fs a&&jG P Fs b
 | .cond c a b=>okX P Fs c&&jG P Fs a&&jG P Fs b
 | .block _ c|.loop c|.scope c=>jG P Fs c
 | _=>false
def qaK(P:Program)(Fs:FuncId->Bool):Item->Bool
 | .code c|.inLoop c|.inScope c=>jG P Fs c
 | .inBlock _=>true
 | .inRegion ops _=>qri P Fs ops&&qeO ops
 | _=>false
def qnk(P:Program)(Fs:FuncId->Bool):List Item->Prop
 | []=>True
 | .inRegion ops l::k=>qri P Fs ops=true/\(qeO ops=true\/(qrh ops=true/\∃i,l=(List.range ops.size).drop i))/\k.all (qaK P Fs)=true
 | a::k=>qaK P Fs a=true/\k.all (qaK P Fs)=true
theorem qta{l:List Item}(h:l.all (qaK P Fs)=true):qnk P Fs l:=by
 cases l with
 | nil=>trivial
 | cons a k =>
  simp only[List.all_cons,Bool.and_eq_true]at h;cases a<;>first|exact h|skip
  have h1:=h.1;simp only[qaK,Bool.and_eq_true]at h1;exact⟨h1.1,.inl h1.2,h.2⟩
structure Good(P:Program)(Fs:FuncId->Bool):Prop where
 qvb:VI P
 qfs:∀f,Fs (1000000+f)=true->Fs f=true
 fs:Qke P (fun f=>Fs f=true)
 code:∀f fn c,Fs f=true->P.funcs[f]?=some fn->fn.body=some c->jG P Fs c=true
inductive Two{α β:Type}(R:α->β->Prop):List α->List β->Prop
 | nil:Two R [] []
 | cons {a:α} {b:β} {l:List α} {l':List β}:R a b->Two R l l'->Two R (a::l) (b::l')
structure PR(K:Kr)(x y:PanicEntry):Prop where
 v:VR K x.v y.v
 r:y.recovered=x.recovered
 g:y.goexit=x.goexit
inductive MR(K:Kr):FrameMode->FrameMode->Prop
 | run:MR K .run .run
 | returning:MR K .returning .returning
 | panicking (l l':List PanicEntry):Two (PR K) l l'->MR K (.panicking l) (.panicking l')
theorem qgN{α β:Type}{R R':α->β->Prop}(h:∀a b,R a b->R' a b){l:List α}{l':List β}(x:Two R l l'):Two R' l l':=by
 induction x with
 | nil=>exact .nil
 | cons a _ ih=>exact .cons (h _ _ a) ih
theorem MR.mono{K K':Kr}(h:K.le K'){m m':FrameMode}(x:MR K m m'):MR K' m m':=by
 cases x with
 | run=>exact .run
 | returning=>exact .returning
 | panicking l l' e=>exact .panicking l l' (qgN (fun a b p=>⟨p.v.mono h,p.r,p.g⟩) e)
def qcm(v:Value):Prop:=(∀r,v≠.map (some r))/\v≠.nilIface
theorem qcn:qcm undef:=⟨(fun r hr=>by cases hr),fun hr=>by cases hr⟩
structure DrR(K:Kr)(d d':Deferred):Prop where
 r:DR K d d'
 o:d.qnb
theorem DrR.mono{K':Kr}(h:K.le K'){d d':Deferred}(x:DrR K d d'):DrR K' d d':=⟨x.r.mono h,x.o⟩
structure FrR(P:Program)(Fs:FuncId->Bool)(K:Kr)(κ:List Item)(fr fr':Frame):Prop where
 fn:fr'.fn=fr.fn
 tmps:AV K fr.tmps fr'.tmps
 todo:fr'.todo=fr.todo++κ
 ok:qnk P Fs fr.todo
 clr:∀ops i r k o t,fr.todo=.inRegion ops (i::r)::k->ops[i]?=some o->qaZ o.op=some t->qcm (fr.tmps.getD t undef)
 defers:Two (DrR K) fr.defers fr'.defers
 mode:MR K fr.mode fr'.mode
 kind:fr'.kind=fr.kind
 kindOk:fr.kind=.normal\/fr.kind=.deferred
 round:fr.roundOf=none/\fr'.roundOf=none
 fs:∃fn,P.funcs[fr.fn]?=some fn
 nd:¬K.Fs 999999->fr.defers=[]
theorem FrR.mono{K':Kr}(h:K.le K'){fr fr':Frame}(x:FrR P Fs K κ fr fr'):FrR P Fs K' κ fr fr' :=
 ⟨x.fn,x.tmps.mono h,x.todo,x.ok,x.clr,qgN (fun _ _ p=>p.mono h) x.defers,x.mode.mono h,x.kind,x.kindOk,x.round,x.fs,by rw[h.fs];exact x.nd⟩
structure CaR(P:Program)(Fs:FuncId->Bool)(K:Kr)(κ:List Item)(fr fr':Frame):Prop where
 f:FrR P Fs K κ fr fr'
 at_:fr.mode=.run->∀ops i r k o,fr.todo=.inRegion ops (i::r)::k->ops[i]?=some o->isSlice o.op=false
 ne:fr.todo≠[]\/κ=[]
theorem CaR.mono{K':Kr}(h:K.le K'){fr fr':Frame}(x:CaR P Fs K κ fr fr'):CaR P Fs K' κ fr fr':=⟨x.f.mono h,x.at_,x.ne⟩
inductive Cas(P:Program)(Fs:FuncId->Bool)(K:Kr)(κ:List Item):List Item->CallKind->List Frame->List Frame->Prop
 | nil:Cas P Fs K κ κ .normal [] []
 | cons {κ1:List Item} {q:CallKind} {a b:Frame} {r r':List Frame}:CaR P Fs K κ1 a b->(q=.normal->a.mode=.run)->Cas P Fs K κ κ1 a.kind r r'->Cas P Fs K κ [] q (a::r) (b::r')
theorem Cas.mono{P:Program}{Fs:FuncId->Bool}{K K':Kr}{κ κf:List Item}{q:CallKind}(h:K.le K'){l l':List Frame}(x:Cas P Fs K κ κf q l l'):Cas P Fs K' κ κf q l l':=by
 induction x with
 | nil=>exact .nil
 | cons a b _ ih=>exact .cons (a.mono h) b ih
structure GR(P:Program)(Fs:FuncId->Bool)(bl bs:List Frame)(κ:List Item)(K:Kr)(g G:Goroutine):Prop where
 fr:∃κf l l',FrR P Fs K κf g.frame G.frame/\g.callers=l++bl/\G.callers=l'++bs/\Cas P Fs K κ κf g.frame.kind l l'
 st:G.status=g.status
 dy:g.dying=none/\G.dying=none
 off:g.offers=none/\G.offers=none
section
variable {P:Program}{Fs:FuncId->Bool}{bl bs:List Frame}{κ κf:List Item}{K:Kr}{Ro:Nat->Prop}
variable {W w w1:World}{es:Array Event}{fr:Frame}{cs cs':List Frame}
theorem FrR.eval(hFs:∀f,Fs f=true->K.Fs f)(HGl:Qfv P K){fr fr':Frame}(h:FrR P Fs K κf fr fr')(x:Operand)(hx:okX P Fs x=true):VR K (fr.eval x) (fr'.eval x):=by
 cases x with
 | tmp t=>exact h.tmps.getD t (.tuple _ _ rfl (fun i x y h=>by simp at h))
 | const v=>exact jk K 9 v hx
 | global g =>
  simp only[okX,Bool.and_eq_true,decide_eq_true_eq]at hx;exact .ptr _ _ ⟨HGl g hx.1 (hFs _ hx.2),rfl,rfl⟩
 | func f=>exact .func _ _ _ _ _ _ (.func f (hFs _ hx)) rfl (fun i x y h=>by simp at h) rfl (fun i x y h=>by simp at h)
theorem FrR.finish{fr fr':Frame}(h:FrR P Fs K κf fr fr')(hne:fr.todo≠[]\/κf=[]){v v':Value}(hv:VR K v v')(hs:∀ops i r k o,fr.todo=.inRegion ops (i::r)::k->ops[i]?=some o->isSlice o.op=true->qcm v):FrR P Fs K κf (fr.finish v) (fr'.finish v'):=by
 have hok:=h.ok;by_cases hr:∃ops i r k,fr.todo=.inRegion ops (i::r)::k
 ·obtain⟨ops,i,r,k,e⟩:=hr
  have e':fr'.todo=.inRegion ops (i::r)::(k++κf):=by rw[h.todo,e];rfl
  have f1:fr.finish v={fr with tmps:=match (ops[i]?).bind (·.dst)with|some d=>fr.tmps.setIfInBounds d v|none=>fr.tmps,todo:=.inRegion ops r::k}:=by unfold Frame.finish;rw[e];dsimp only;cases(ops[i]?).bind (fun x:Oper=>x.dst)<;>rfl
  have f2:fr'.finish v'={fr' with tmps:=match (ops[i]?).bind (·.dst)with|some d=>fr'.tmps.setIfInBounds d v'|none=>fr'.tmps,todo:=.inRegion ops r::(k++κf)}:=by unfold Frame.finish;rw[e'];dsimp only;cases(ops[i]?).bind (fun x:Oper=>x.dst)<;>rfl
  rw[e]at hok;obtain⟨h1,h2,h3⟩:=hok;rw[f1,f2];refine⟨h.fn,?_,rfl,⟨h1,?_,h3⟩,?_,h.defers,h.mode,h.kind,h.kindOk,h.round,h.fs,h.nd⟩
  ·cases(ops[i]?).bind (·.dst)with
   | none=>exact h.tmps
   | some d=>exact h.tmps.set d hv
  ·refine h2.imp id (fun⟨x,n,hn⟩=>⟨x,n+1,?_⟩);rw[<-List.tail_drop,<-hn,List.tail_cons]
  ·intro qx7 i2 r2 k2 o t e2 ho ht;injection e2 with e3 e4;injection e3 with e5 e6;subst e5;rcases h2 with h2|⟨hc,n,hn⟩
   ·have:=List.all_eq_true.1 h2 o (by simpa using Array.mem_of_getElem? ho);rw[ht]at this;cases this
   ·have hlt:i2<ops.size:=(Array.getElem?_eq_some_iff.1 ho).1
    have hdr:(i::i2::r2:List Nat)=(List.range ops.size).drop n:=by rw[<-e6];exact hn
    have g0:((List.range ops.size).drop n)[0]?=some i:=by rw[<-hdr];rfl
    have g1:((List.range ops.size).drop n)[1]?=some i2:=by rw[<-hdr];rfl
    rw[List.getElem?_drop]at g0 g1;have z0:=(List.getElem?_eq_some_iff.1 g0).2;have z1:=(List.getElem?_eq_some_iff.1 g1).2;simp only[List.getElem_range]at z0 z1
    have hi2:i2=i+1:=by omega
    subst hi2;have qQ:=List.all_eq_true.1 hc (i+1) (by simpa using hlt);simp only[ho,ht]at qQ
    cases hp:ops[i]? with
    | none=>simp only[hp]at qQ;cases qQ
    | some p =>
     simp only[hp,Bool.and_eq_true,beq_iff_eq]at qQ;have hd:(some p).bind (fun x:Oper=>x.dst)=some t:=qQ.1;have hnm:=hs ops i r k p e hp qQ.2;dsimp only;rw[hd];by_cases hl:t<fr.tmps.size
     ·have:(fr.tmps.setIfInBounds t v).getD t undef=v:=by simp[Array.getD_eq_getD_getElem?,hl]
      dsimp only;rw[this];exact hnm
     ·have:(fr.tmps.setIfInBounds t v).getD t undef=undef:=by simp[Array.getD_eq_getD_getElem?,hl]
      dsimp only;rw[this];exact qcn
 ·have hn:∀ops i r k,fr.todo≠.inRegion ops (i::r)::k:=fun ops i r k e=>hr ⟨ops,i,r,k,e⟩
  have same:fr.finish v=fr/\fr'.finish v'=fr':=by
   unfold Frame.finish;rw[h.todo]
   revert hn hok hne
   generalize fr.todo=todo;intro hne hok hn
   cases todo with
   | nil =>
    rcases hne with hne|hne
    ·exact absurd rfl hne
    ·subst hne;exact⟨rfl,rfl⟩
   | cons a r =>
    cases a with
    | inRegion ops l =>
     cases l with
     | nil=>exact⟨rfl,rfl⟩
     | cons i r'=>exact absurd rfl (hn ops i r' r)
    | inRangeFunc l=>cases hok.1
    | beginRound=>cases hok.1
    | call d w r s=>cases hok.1
    | extern r a=>cases hok.1
    | _=>exact⟨rfl,rfl⟩
  rw[same.1,same.2];exact h
theorem FrR.enter(HG:Good P Fs){f:FuncId}(hf:Fs f=true){xs ys:Array Value}(h:AV K xs ys)(hb:∃fn,P.funcs[f]?=some fn/\fn.body.isNone=false){q:CallKind}(hq:q=.normal\/q=.deferred):FrR P Fs K [] (Frame.enter P f xs q) (Frame.enter P f ys q):=by
 obtain⟨fn,e1,e2⟩:=hb
 cases hbo:fn.body with
 | none=>rw[hbo]at e2;cases e2
 | some c =>
  have hu:VR K undef undef:=.tuple _ _ rfl (fun i x y h=>by simp at h);unfold Frame.enter;rw[e1];dsimp only;refine⟨rfl,?_,rfl,?_,?_,.nil,.run,rfl,hq,⟨rfl,rfl⟩,⟨fn,e1⟩,fun _=>rfl⟩
  ·have:=h.append (AV.replicate (fn.ntmps-xs.size) hu);rw[<-h.size];exact this
  ·simp only[Option.bind_some,hbo,Option.getD_some];exact⟨HG.code f fn c hf e1 hbo,rfl⟩
  ·intro ops i r k o t e;cases e
theorem qaf{K':Kr}(fn:FuncId)(h:∀e∈es,e∈(#[]:Array Event)\/Qaq Ro W K' e):∀e∈seen P fn es,Qaq Ro W K' e:=fun e he=>by
 rcases h e (Conc.mem_seen he)with x|x
 ·simp at x
 ·exact x
theorem qnl{α β:Type}{R:α->β->Prop}{a:α}{l:List α}{l':List β}(h:Two R (a::l) l'):∃b r,l'=b::r/\R a b/\Two R l r:=by
 cases h with
 | cons h1 h2=>exact⟨_,_,rfl,h1,h2⟩
theorem qrj{α β:Type}{R:α->β->Prop}{l1 l2:List α}{l1' l2':List β}(h:Two R l1 l1')(k:Two R l2 l2'):Two R (l1++l2) (l1'++l2'):=by
 induction h with
 | nil=>exact k
 | cons a _ ih=>exact .cons a ih
theorem FrR.raise{fr fr':Frame}(h:FrR P Fs K κf fr fr'){vs vs':List PanicEntry}(hv:Two (PR K) vs vs'):FrR P Fs K κf (fr.raise vs) (fr'.raise vs'):=by
 unfold Frame.raise;have hm:=h.mode
 cases hm1:fr.mode with
 | run =>
  rw[hm1]at hm;generalize hm2:fr'.mode=m at hm⊢;cases hm;exact⟨h.fn,h.tmps,h.todo,h.ok,h.clr,h.defers,.panicking _ _ hv,h.kind,h.kindOk,h.round,h.fs,h.nd⟩
 | returning =>
  rw[hm1]at hm;generalize hm2:fr'.mode=m at hm⊢;cases hm;exact⟨h.fn,h.tmps,h.todo,h.ok,h.clr,h.defers,.panicking _ _ hv,h.kind,h.kindOk,h.round,h.fs,h.nd⟩
 | panicking l =>
  rw[hm1]at hm;generalize hm2:fr'.mode=m at hm⊢
  cases hm with
  | panicking l l' e=>exact⟨h.fn,h.tmps,h.todo,h.ok,h.clr,h.defers,.panicking _ _ (qrj hv e),h.kind,h.kindOk,h.round,h.fs,h.nd⟩
def qjk(X:GStep):Prop:=∃o w es,X=.ended o w es/\∀v,o≠.done v
def Qa0(P:Program)(Fs:FuncId->Bool)(bl bs:List Frame)(κ:List Item)(Ro:Nat->Prop)(K:Kr)(W:World)(Y:GStep)(d:Nat)(run:(Nat->Question->Nat)->GStep):Prop :=
 ∃(n:Nat) (τ:Nat->Question->Nat),(∃g w1 es K' G W' es',(∀τ',Alike τ τ' d (d+n)->run τ'=.go g (qg w1 τ') es)/\g.status=.running/\w1.drawn=d+n/\Y=.go G W' es'/\GR P Fs bl bs κ K' g G/\WR P Ro K' w1 W'/\Did Ro K W K' W'/\∀e∈es',Qaq Ro W K' e)\/(∀τ',Alike τ τ' d (d+n)->qjk (run τ'))
theorem Qa0.lost{Y:GStep}{d:Nat}{W:World}{run:(Nat->Question->Nat)->GStep}(h:∀τ',qjk (run τ')):Qa0 P Fs bl bs κ Ro K W Y d run:=⟨0,fun _ _=>0,.inr (fun τ' _=>h τ')⟩
theorem Qa0.still{Y:GStep}{run:(Nat->Question->Nat)->GStep}{g G:Goroutine}(hw:WR P Ro K w W)(h:∀τ',run τ'=.go g (qg w τ'))(hY:Y=.go G W)(hr:g.status=.running)(hg:GR P Fs bl bs κ K g G):Qa0 P Fs bl bs κ Ro K W Y w.drawn run :=
 ⟨0,fun _ _=>0,.inl ⟨g,w,#[],K,G,W,#[],fun τ' _=>h τ',hr,rfl,hY,hg,hw,Did.refl _ _ _,fun e he=>by simp at he⟩⟩
def apN(P:Program)(fr:Frame)(cs:List Frame):Next->Goroutine
 | .value v=>⟨fr.finish v,cs,.running,none,none⟩
 | .enter f a=>⟨Frame.enter P f a .normal,fr::cs,.running,none,none⟩
 | .defer d=>⟨{fr with defers:=d::fr.defers}.finish undef,cs,.running,none,none⟩
 | .recover=>match tryRecover fr cs with
  | some (v,cs)=>⟨fr.finish v,cs,.running,none,none⟩
  | none=>⟨fr.finish .nilIface,cs,.running,none,none⟩
 | _=>⟨fr.finish undef,cs,.running,none,none⟩
theorem qnm{cs:List Frame}{s:Sem Next}{x x':Next}{K':Kr}(hx:NR P K' x x'\/NR P K' x' x)(hk:(fr.kind == CallKind.early)=false)(hr:fr.roundOf=none)(hn:∀d b r sv k,fr.todo≠.call d b r sv::k)(h:s.runT P w #[]=(.ok x w1,es)) :
  stepG.apply P true fr cs none s w=.go (apN P fr cs x) w1 (seen P fr.fn es):=by
 unfold stepG.apply;simp only[if_true,h,hk,Bool.false_eq_true,if_false]
 have hf:(∃v,x=.value v)\/x=.skip\/(∃f a,x=.enter f a)\/(∃d,x=.defer d)\/x=.recover:=by
  rcases hx with hx|hx<;>cases hx<;>simp
 rcases hf with⟨v,rfl⟩|rfl|⟨f,a,rfl⟩|⟨d,rfl⟩|rfl
 ·simp[GStep.after,apN]
 ·simp[GStep.after,apN]
 ·simp only[GStep.after,apN]
  congr 1
  ·congr 2
   split
   ·rename_i e;exact absurd e (hn _ _ _ _ _)
   ·rfl
 ·simp[GStep.after,apN]
 ·simp only[apN,hr]
  cases tryRecover fr cs with
  | none=>simp[GStep.after]
  | some p=>simp[GStep.after]
theorem qhG{cs:List Frame}{s:Sem Next}{v:Value}(hk:(fr.kind == CallKind.early)=false)(h:s.runT P w #[]=(.halt (.panic v) w1,es)) :
  stepG.apply P true fr cs none s w=.go ⟨fr.raise [{v,recovered:=false}],cs,.running,none,none⟩ w1 (seen P fr.fn es):=by
 unfold stepG.apply;simp only[if_true,h,hk,Bool.false_eq_true,if_false,GStep.after,Array.append_empty]
theorem qrk{s:Sem Next}{q:Halt}(hl:za q=true)(h:(s.runT P w #[]).1=.halt q w1):qjk (stepG.apply P true fr cs none s w):=by
 unfold stepG.apply;simp only[if_true];generalize s.runT P w #[]=X at h⊢;obtain⟨r,es⟩:=X;simp only at h;subst h;cases q<;>first|(cases hl;done)|skip
 ·rename_i u;cases u<;>first|(cases hl;done)|exact⟨_,_,_,rfl,fun v e=>by cases e⟩
 ·exact⟨_,_,_,rfl,fun v e=>by cases e⟩
theorem qfw(fr:Frame)(l:List PanicEntry):(fr.raise l).kind=fr.kind:=by unfold Frame.raise;split<;>rfl
theorem qaL(fr:Frame)(v:Value):(fr.finish v).kind=fr.kind:=by unfold Frame.finish;split<;>rfl
theorem qvc(h:fr.kind=.normal\/fr.kind=.deferred):(fr.kind == CallKind.early)=false:=by
 rcases h with h|h<;>rw[h]<;>rfl
theorem qoB{fr':Frame}(hf:FrR P Fs K κf fr fr')(hc:Cas P Fs K κ κf fr.kind cs cs') :
  (tryRecover fr (cs++bl)=none/\tryRecover fr' (cs'++bs)=none)\/∃v v' r r',VR K v v'/\tryRecover fr (cs++bl)=some (v,r++bl)/\tryRecover fr' (cs'++bs)=some (v',r'++bs)/\Cas P Fs K κ κf fr.kind r r':=by
 rcases hf.kindOk with hk|hk
 ·left;have hk':=hf.kind.trans hk;constructor
  ·cases cs++bl<;>simp[tryRecover,hk]
  ·cases cs'++bs<;>simp[tryRecover,hk']
 ·have hk':=hf.kind.trans hk;rw[hk]at hc⊢
  cases hc with
  | @cons κ1 q a b r r' ha hn hr =>
   have hm:=ha.f.mode;simp only[List.cons_append,tryRecover,hk,hk']
   revert hm
   cases ham:a.mode with
   | run=>intro hm;left;generalize b.mode=q at hm;cases hm;exact⟨rfl,rfl⟩
   | returning=>intro hm;left;generalize b.mode=q at hm;cases hm;exact⟨rfl,rfl⟩
   | panicking l =>
    intro hm;generalize hbm:b.mode=q at hm
    cases hm with
    | panicking l l' hl =>
     cases hl with
     | nil=>exact .inl ⟨rfl,rfl⟩
     | @cons x y xs ys hxy qfd =>
      obtain⟨xv,xr,xg⟩:=x;obtain⟨yv,yr,yg⟩:=y;have e1:=hxy.r;have e2:=hxy.g;dsimp only at e1 e2;subst e1;subst e2;cases yr<;>cases yg<;>first|exact .inl ⟨rfl,rfl⟩|skip
      refine .inr ⟨xv,yv,{a with mode:=.panicking ({v:=xv,recovered:=true}::xs)}::r,{b with mode:=.panicking ({v:=yv,recovered:=true}::ys)}::r',hxy.v,rfl,rfl,.cons ⟨⟨ha.f.fn,ha.f.tmps,ha.f.todo,ha.f.ok,ha.f.clr,ha.f.defers,.panicking _ _ (.cons ⟨hxy.v,rfl,rfl⟩ qfd),ha.f.kind,ha.f.kindOk,ha.f.round,ha.f.fs,ha.f.nd⟩,(fun e=>by cases e),ha.ne⟩ (fun e=>by cases e) hr⟩
theorem qtb(HG:Good P Fs)(hK:K.Fs=fun f=>Fs f=true)(hw:WR P Ro K w W){fr':Frame}(hf:FrR P Fs K κf fr fr')(zk:fr.mode=.run)(hin:∃ops i r k,fr.todo=.inRegion ops (i::r)::k)(hc:Cas P Fs K κ κf fr.kind cs cs'){s s':Sem Next}(hs:SR P (fun K a a'=>NR P K a a') K s s')
  (hm:∀ops i r k o,fr.todo=.inRegion ops (i::r)::k->ops[i]?=some o->isSlice o.op=true->∀w0 x w' es,s.runT P w0 #[]=(.ok x w',es)->∃v,x=.value v/\qcm v) :
  Qa0 P Fs bl bs κ Ro K W (stepG.apply P true fr' (cs'++bs) none s' W) w.drawn (fun τ'=>stepG.apply P true fr (cs++bl) none s (qg w τ')):=by
 have hki:(fr.kind == CallKind.early)=false:=qvc hf.kindOk
 have qx8:(fr'.kind == CallKind.early)=false:=by rw[hf.kind];exact hki
 have hne:fr.todo≠[]\/κf=[]:=by obtain⟨ops,i,r,k,e⟩:=hin;left;rw[e];nofun
 have hnc:∀d b r sv k,fr.todo≠.call d b r sv::k:=fun d b r sv k e=>by
  have:=hf.ok;rw[e]at this;cases this.1
 have qAw:∀d b r sv k,fr'.todo≠.call d b r sv::k:=fun d b r sv k e=>by
  obtain⟨ops,i,r,k,e2⟩:=hin;rw[hf.todo,e2]at e;cases e
 have qtc:∀K':Kr,VR K' undef undef:=fun K'=>.tuple _ _ rfl (fun i x y h=>by simp at h);obtain⟨m,τ,h⟩:=hs.runT w W hw #[] #[];refine⟨m,τ,?_⟩;rcases h with⟨r,es,h1,h2,h3⟩|h
 ·cases r with
  | ok x w1 =>
   obtain⟨K',x',W1,e1,hx,hw1,hd,he⟩:=h3
   have hY:s'.runT P W #[]=(.ok x' W1,(s'.runT P W #[]).2):=by rw[<-e1]
   have eY:=qnm (fr:=fr') (cs:=cs'++bs) (.inr hx) qx8 hf.round.2 qAw hY;have m1:=fun ops i r k o a1 a2 a3=>hm ops i r k o a1 a2 a3 _ _ _ _ (h1 τ (fun d _ _=>rfl));have hle:=hd.le;have hf':=hf.mono hle;have hc':=hc.mono hle;have hev:=qaf (P:=P) fr'.fn he;refine .inl ⟨apN P fr (cs++bl) x,w1,seen P fr.fn es,K',apN P fr' (cs'++bs) x',W1,_,fun τ' ha=>?_,?_,h2,eY,?_,hw1,hd,hev⟩
   ·show stepG.apply P true fr (cs++bl) none s (qg w τ')=_;rw[qnm (fr:=fr) (cs:=cs++bl) (.inl hx) hki hf.round.1 hnc (h1 τ' ha)]
   ·cases hx<;>first|rfl|skip
    simp only[apN];cases tryRecover fr (cs++bl)<;>rfl
   ·have hcF:∀v,Cas P Fs K' κ κf (fr.finish v).kind cs cs':=fun v=>by rw[qaL];exact hc'
    cases hx with
    | value v v' hv=>exact⟨⟨κf,cs,cs',hf'.finish hne hv (fun ops i r k o e1 e2 e3=>by obtain⟨u,eu,hu⟩:=m1 ops i r k o e1 e2 e3;cases eu;exact hu),rfl,rfl,hcF v⟩,rfl,⟨rfl,rfl⟩,rfl,rfl⟩
    | skip=>exact⟨⟨κf,cs,cs',hf'.finish hne (qtc K') (fun ops i r k o e1 e2 e3=>qcn),rfl,rfl,hcF undef⟩,rfl,⟨rfl,rfl⟩,rfl,rfl⟩
    | enter f a a' hfs hbody ha =>
     have hFf:Fs f=true:=by rw[hle.fs,hK]at hfs;exact hfs
     have hat:∀ops i r k o,fr.todo=.inRegion ops (i::r)::k->ops[i]?=some o->isSlice o.op=false:=fun ops i r k o e1 e2=>by
      cases hsl:isSlice o.op with
      | false=>rfl
      | true=>obtain⟨u,eu,_⟩:=m1 ops i r k o e1 e2 hsl;cases eu
     exact⟨⟨[],fr::cs,fr'::cs',FrR.enter HG hFf ha hbody (.inl rfl),rfl,rfl,.cons ⟨hf',fun _=>hat,hne⟩ (fun _=>zk) hc'⟩,rfl,⟨rfl,rfl⟩,rfl,rfl⟩
    | defer d d' hdd ho hfl =>
     have hcD:Cas P Fs K' κ κf (Frame.finish {fr with defers:=d::fr.defers} undef).kind cs cs':=by rw[qaL];exact hc'
     have hfd:FrR P Fs K' κf {fr with defers:=d::fr.defers} {fr' with defers:=d'::fr'.defers}:=⟨hf'.fn,hf'.tmps,hf'.todo,hf'.ok,hf'.clr,.cons ⟨hdd,ho⟩ hf'.defers,hf'.mode,hf'.kind,hf'.kindOk,hf'.round,hf'.fs,fun x=>absurd hfl x⟩
     exact⟨⟨κf,cs,cs',hfd.finish hne (qtc K') (fun ops i r k o e1 e2 e3=>qcn),rfl,rfl,hcD⟩,rfl,⟨rfl,rfl⟩,rfl,rfl⟩
    | recover =>
     have qx9:∀ops i r k o,fr.todo=.inRegion ops (i::r)::k->ops[i]?=some o->isSlice o.op=true->False:=fun ops i r k o e1 e2 e3=>by obtain⟨u,eu,_⟩:=m1 ops i r k o e1 e2 e3;cases eu
     simp only[apN];rcases qoB (bl:=bl) (bs:=bs) hf' hc' with⟨q1,q2⟩|⟨v,v',r,r',hv,q1,q2,q3⟩
     ·rw[q1,q2];exact⟨⟨κf,cs,cs',hf'.finish hne .nilIface (fun ops i r k o e1 e2 e3=>(qx9 ops i r k o e1 e2 e3).elim),rfl,rfl,hcF _⟩,rfl,⟨rfl,rfl⟩,rfl,rfl⟩
     ·rw[q1,q2];exact⟨⟨κf,r,r',hf'.finish hne hv (fun ops i r k o e1 e2 e3=>(qx9 ops i r k o e1 e2 e3).elim),rfl,rfl,by rw[qaL];exact q3⟩,rfl,⟨rfl,rfl⟩,rfl,rfl⟩
  | halt q w1 =>
   cases q with
   | panic v =>
    obtain⟨K',v',W1,e1,hv,hw1,hd,he⟩:=h3
    have hY:s'.runT P W #[]=(.halt (.panic v') W1,(s'.runT P W #[]).2):=by rw[<-e1]
    have hle:=hd.le;have hev:=qaf (P:=P) fr'.fn he;refine .inl ⟨⟨fr.raise [{v,recovered:=false}],cs++bl,.running,none,none⟩,w1,seen P fr.fn es,K',_,W1,_,fun τ' ha=>?_,rfl,h2,qhG qx8 hY,?_,hw1,hd,hev⟩
    ·show stepG.apply P true fr (cs++bl) none s (qg w τ')=_;rw[qhG hki (h1 τ' ha)]
    ·exact⟨⟨κf,cs,cs',(hf.mono hle).raise (.cons ⟨hv,rfl,rfl⟩ .nil),rfl,rfl,by rw[qfw];exact hc.mono hle⟩,rfl,⟨rfl,rfl⟩,rfl,rfl⟩
   | _=>cases h3
 ·refine .inr (fun τ' ha=>?_);obtain⟨q,w',e,hl⟩:=h τ' ha;exact qrk hl e
end
end Sim
namespace Sim
variable {P:Program}
def Yields{α:Type}(P:Program)(s:Sem α)(Q:α->Prop):Prop:=∀w es a w' es',s.runT P w es=(.ok a w',es')->Q a
theorem Yields.bind{α β:Type}{P:Program}{s:Sem α}{f:α->Sem β}{Q:β->Prop}(h:∀a,Yields P (f a) Q):Yields P (s >>= f) Q:=by
 intro w es b w' es' e
 change (s.bind f).runT P w es=_ at e
 rw[Sem.runT_bind']at e;generalize s.runT P w es=X at e;obtain⟨r,es1⟩:=X
 cases r with
 | ok a w1=>exact h a _ _ _ _ _ e
 | halt q w1=>cases e
theorem Yields.pure{α:Type}{a:α}{Q:α->Prop}(h:Q a):Yields P (Pure.pure a:Sem α) Q:=by
 intro w es b w' es' e;cases e;exact h
theorem Yields.halt{α:Type}{q:Halt}{Q:α->Prop}:Yields P (Sem.halt q:Sem α) Q:=by
 intro w es b w' es' e;cases e
theorem qoC(t:TypeId)(x:Value)(l h m:Option Value):Yields P (Instr.slice t x l h m) qcm:=by
 unfold Instr.slice;refine Yields.bind (fun u=>?_);split
 ·split
  ·exact Yields.bind (fun _=>Yields.bind (fun _=>Yields.pure ⟨(fun r e=>by cases e),fun e=>by cases e⟩))
  ·exact Yields.bind (fun _=>Yields.pure ⟨(fun r e=>by cases e),fun e=>by cases e⟩)
 ·exact Yields.bind (fun _=>Yields.bind (fun _=>Yields.pure ⟨(fun r e=>by cases e),fun e=>by cases e⟩))
 ·refine Yields.bind (fun _=>Yields.bind (fun _=>?_));split
  ·exact Yields.bind (fun _=>Yields.bind (fun _=>Yields.pure ⟨(fun r e=>by cases e),fun e=>by cases e⟩))
  ·exact Yields.halt
 ·exact Yields.halt
theorem qlp(t:TypeId)(x:Value)(l h m:Option Value):Yields P (Instr.sliceAt t x l h m) qcm:=by
 unfold Instr.sliceAt;refine Yields.bind (fun u=>?_);split
 ·exact Yields.bind (fun _=>Yields.bind (fun _=>Yields.bind (fun _=>Yields.pure ⟨(fun r e=>by cases e),fun e=>by cases e⟩)))
 ·exact qoC _ _ _ _ _
theorem qfV(t:TypeId)(x:Value):Yields P (Instr.makeInterface t x) qcm:=by
 unfold Instr.makeInterface;refine Yields.bind (fun u=>?_);cases u<;>first|exact Yields.halt|exact Yields.pure ⟨(fun r e=>by cases e),fun e=>by cases e⟩
theorem Yields.value{P:Program}{s:Sem Value}(h:Yields P s qcm):Yields P (s.bind (fun v=>Sem.pure (Next.value v))) (fun x=>∃v,x=.value v/\qcm v):=by
 intro w es b w' es' e;rw[Sem.runT_bind']at e;generalize hX:s.runT P w es=X at e;obtain⟨r,es1⟩:=X
 cases r with
 | ok a w1 =>
  cases e;exact⟨a,rfl,h _ _ _ _ _ hX⟩
 | halt q w1=>cases e
theorem qnn{ρ:Operand->Value}{o:Oper}(h:isSlice o.op=true):Yields P (execOp ρ o) (fun x=>∃v,x=.value v/\qcm v):=by
 obtain⟨dst,op,ty,pos,after,guard⟩:=o;cases op<;>first|(cases h;done)|skip
 ·exact Yields.value (qfV _ _)
 ·exact Yields.value (qlp _ _ _ _ _)
section
variable {P:Program}{Fs:FuncId->Bool}{bl bs:List Frame}{κ κf:List Item}{K:Kr}{Ro:Nat->Prop}
variable {fr fr':Frame}{l:List Item}{xs ys:Array Value}
theorem FrR.to(h:FrR P Fs K κf fr fr')(hl:qnk P Fs l)(hc:∀ops i r k o t,l=.inRegion ops (i::r)::k->ops[i]?=some o->qaZ o.op=some t->False):FrR P Fs K κf {fr with todo:=l} {fr' with todo:=l++κf} :=
 ⟨h.fn,h.tmps,rfl,hl,fun ops i r k o t e1 e2 e3=>(hc ops i r k o t e1 e2 e3).elim,h.defers,h.mode,h.kind,h.kindOk,h.round,h.fs,h.nd⟩
theorem FrR.qyZ(h:FrR P Fs K κf fr fr')(hl:l.all (qaK P Fs)=true):FrR P Fs K κf {fr with todo:=l} {fr' with todo:=l++κf} :=
 h.to (qta hl) (fun ops i r k o t e1 e2 e3=>by
  subst e1;simp only[List.all_cons,Bool.and_eq_true,qaK]at hl;have:=List.all_eq_true.1 hl.1.2 o (by simpa using Array.mem_of_getElem? e2);rw[e3]at this
  cases this)
theorem qfx{id:Nat}:∀{k k':List Item},exitTo id k=some k'->k.all (qaK P Fs)=true->k'.all (qaK P Fs)=true
 | [],_,h,_=>by cases h
 | a::k,k',h,hk=>by
  simp only[List.all_cons,Bool.and_eq_true]at hk
  cases a with
  | inBlock id' =>
   simp only[exitTo]at h;split at h
   ·cases h;exact hk.2
   ·exact qfx h hk.2
  | _=>exact qfx (by simpa[exitTo]using h) hk.2
theorem qlq{id:Nat}(κ:List Item)(k:List Item):∀{k':List Item},exitTo id k=some k'->exitTo id (k++κ)=some (k'++κ):=by
 induction k with
 | nil=>intro k' h;cases h
 | cons a k ih =>
  intro k' h
  cases a with
  | inBlock id' =>
   simp only[List.cons_append,exitTo]at h⊢;split at h
   ·cases h;rw[if_pos ‹_›]
   ·rw[if_neg ‹_›];exact ih h
  | _=>exact ih (by simpa[exitTo]using h)
theorem qkG{ops:Array Oper}(h:AV K xs ys)(j:Nat):yielded ops ys j=yielded ops xs j:=by
 unfold yielded
 cases((ops[j]?).bind (fun x:Oper=>x.dst))with
 | none=>rfl
 | some d =>
  rcases h.get? d with⟨e1,e2⟩|⟨x,y,e1,e2,hx⟩
  ·simp only[Option.bind_some,e1,e2]
  ·simp only[Option.bind_some,e1,e2]
   cases hx with
   | junk _ e =>
    cases y with
    | bool b=>cases e
    | _=>rfl
   | _=>rfl
theorem qvd(HG:Good P Fs)(hK:K.Fs=fun f=>Fs f=true)(xw main:Bool){w W:World}(hw:WR P Ro K w W)(hf:FrR P Fs K κf fr fr')(zk:fr.mode=.run)(hne:fr.todo≠[]\/κf=[]){cs cs':List Frame}(hc:Cas P Fs K κ κf fr.kind cs cs') :
  Qa0 P Fs bl bs κ Ro K W (stepG.exec P main true fr' (cs'++bs) none W) w.drawn (fun τ'=>stepG.exec P xw true fr (cs++bl) none (qg w τ')):=by
 have quiet:∀{gr gr':Frame} {run:(Nat->Question->Nat)->GStep} {Y:GStep},FrR P Fs K κf gr gr'->gr.kind=fr.kind->(∀τ',run τ'=.go {frame:=gr,callers:=cs++bl,status:=.running,dying:=none} (qg w τ'))->Y=.go {frame:=gr',callers:=cs'++bs,status:=.running,dying:=none} W->Qa0 P Fs bl bs κ Ro K W Y w.drawn run:=by
  intro gr gr' run Y h hkd h1 h2;exact Qa0.still hw h1 h2 rfl ⟨⟨κf,cs,cs',h,rfl,rfl,by rw[show({frame:=gr,callers:=cs++bl,status:=.running,dying:=none}:Goroutine).frame.kind=fr.kind from hkd];exact hc⟩,rfl,⟨rfl,rfl⟩,rfl,rfl⟩
 obtain⟨fn,tm,td,df,md,kd,rd⟩:=fr;obtain⟨fn',tm',td',df',md',kd',rd'⟩:=fr';have q1:=hf.fn.symm;have q2:=hf.todo;have q3:=hf.kind.symm;have q4:=hf.round;dsimp only at q1 q2 q3 q4;subst q1;subst q2;subst q3;obtain⟨rfl,rfl⟩:=q4;have leave:=@quiet ⟨fn,tm,td,df,.returning,kd,none⟩ ⟨fn,tm',td++κf,df',.returning,kd,none⟩ (fun τ'=>.go {frame:=⟨fn,tm,td,df,.returning,kd,none⟩,callers:=cs++bl,status:=.running,dying:=none} (qg w τ')) _ ⟨rfl,hf.tmps,rfl,hf.ok,hf.clr,hf.defers,.returning,rfl,hf.kindOk,⟨rfl,rfl⟩,hf.fs,hf.nd⟩ rfl (fun _=>rfl) rfl;have qdD:∀{l:List Item} {run:(Nat->Question->Nat)->GStep} {Y:GStep},l.all (qaK P Fs)=true->(∀τ',run τ'=.go {frame:=⟨fn,tm,l,df,md,kd,none⟩,callers:=cs++bl,status:=.running,dying:=none} (qg w τ'))->Y=.go {frame:=⟨fn,tm',l++κf,df',md',kd,none⟩,callers:=cs'++bs,status:=.running,dying:=none} W->Qa0 P Fs bl bs κ Ro K W Y w.drawn run:=fun hl=>quiet (hf.qyZ hl) rfl;have hok:=hf.ok;dsimp only at hok
 have hFs:∀f,Fs f=true->K.Fs f:=fun f h=>by rw[hK];exact h
 cases td with
 | nil =>
  rcases hne with hne|hne
  ·exact absurd rfl hne
  ·subst hne;exact leave
 | cons a k =>
  simp only[List.cons_append]at hf leave⊢
  cases a with
  | inBlock id=>exact qdD hok.2 (fun _=>rfl) rfl
  | inScope c=>exact qdD hok.2 (fun _=>rfl) rfl
  | inLoop c=>exact qdD (l:=.code c::.inLoop c::k) (by simp only[List.all_cons,Bool.and_eq_true];exact⟨hok.1,hok.1,hok.2⟩) (fun _=>rfl) rfl
  | inRegion ops l =>
   cases l with
   | nil=>exact qdD hok.2.2 (fun _=>rfl) rfl
   | cons i r =>
    have hwt:((ops[i]?).map (Region.wanted · (yielded ops tm'))).getD false=((ops[i]?).map (Region.wanted · (yielded ops tm))).getD false:=by
     cases ops[i]? with
     | none=>rfl
     | some o =>
      simp only[Option.map_some,Option.getD_some];unfold Region.wanted
      cases o.guard with
      | none=>rfl
      | some g=>simp only[qkG hf.tmps]
    by_cases hwn:((ops[i]?).map (Region.wanted · (yielded ops tm))).getD false=true
    ·cases ho:ops[i]? with
     | none=>rw[ho]at hwn;cases hwn
     | some o =>
      have hoo:xu P Fs o.op=true:=List.all_eq_true.1 hok.1 o (by simpa using Array.mem_of_getElem? ho)
      have hsr:SR P (fun K a a'=>NR P K a a') K (execOp (Frame.eval ⟨fn,tm,.inRegion ops (i::r)::k,df,md,kd,none⟩) o) (execOp (Frame.eval ⟨fn,tm',.inRegion ops (i::r)::(k++κf),df',md',kd,none⟩) o) :=
       qkK (by rw[hK];exact HG.fs) hw.qar (fun f h=>by rw[hK]at h⊢;exact HG.qfs f h) HG.qvb hFs (fun _=>⟨rfl,rfl⟩) (fun _=>⟨rfl,rfl⟩) (fun x hx=>hf.eval hFs hw.qar x hx) o (fun q hq=>hf.clr ops i r k o q rfl ho hq) hoo
      have key:=qtb (bl:=bl) (bs:=bs) HG hK hw hf zk ⟨_,_,_,_,rfl⟩ hc hsr (fun qx7 i2 r2 k2 o2 e1 e2 e3 w0 x w' es e=>by
       injection e1 with e4 e5;injection e4 with e6 e7;injection e7 with e8 e9;subst e6;subst e8;rw[ho]at e2;cases e2
       exact qnn e3 _ _ _ _ _ e)
      have h1:∀τ',stepG.exec P xw true ⟨fn,tm,.inRegion ops (i::r)::k,df,md,kd,none⟩ (cs++bl) none (qg w τ')=stepG.apply P true ⟨fn,tm,.inRegion ops (i::r)::k,df,md,kd,none⟩ (cs++bl) none (execOp (Frame.eval ⟨fn,tm,.inRegion ops (i::r)::k,df,md,kd,none⟩) o) (qg w τ'):=fun τ'=>by
       simp only[stepG.exec,stepG.oper,Frame.oper?,ho];rw[if_pos (by rw[ho]at hwn;exact hwn)]
      have h2:stepG.exec P main true ⟨fn,tm',.inRegion ops (i::r)::(k++κf),df',md',kd,none⟩ (cs'++bs) none W=stepG.apply P true ⟨fn,tm',.inRegion ops (i::r)::(k++κf),df',md',kd,none⟩ (cs'++bs) none (execOp (Frame.eval ⟨fn,tm',.inRegion ops (i::r)::(k++κf),df',md',kd,none⟩) o) W:=by
       simp only[stepG.exec,stepG.oper,Frame.oper?,ho];rw[if_pos (by have x:=hwt.trans hwn;rw[ho]at x;exact x)]
      simp only[h1,h2];exact key
    ·have h1:∀τ',stepG.exec P xw true ⟨fn,tm,.inRegion ops (i::r)::k,df,md,kd,none⟩ (cs++bl) none (qg w τ')=.go {frame:=Frame.finish ⟨fn,tm,.inRegion ops (i::r)::k,df,md,kd,none⟩ undef,callers:=cs++bl,status:=.running,dying:=none} (qg w τ'):=fun τ'=>by
      simp only[stepG.exec,hwn,Bool.false_eq_true,if_false]
     have h2:stepG.exec P main true ⟨fn,tm',.inRegion ops (i::r)::(k++κf),df',md',kd,none⟩ (cs'++bs) none W=.go {frame:=Frame.finish ⟨fn,tm',.inRegion ops (i::r)::(k++κf),df',md',kd,none⟩ undef,callers:=cs'++bs,status:=.running,dying:=none} W:=by
      simp only[stepG.exec,hwt,hwn,Bool.false_eq_true,if_false]
     exact quiet (hf.finish (.inl (by nofun)) (.tuple _ _ rfl (fun i x y h=>by simp at h)) (fun ops i r k o e1 e2 e3=>qcn)) (qaL _ _) h1 h2
  | code c =>
   have hk:=hok.2;have xM:jG P Fs c=true:=hok.1
   cases c with
   | skip=>exact qdD hk (fun _=>rfl) rfl
   | ret=>exact leave
   | seq a b =>
    simp only[jG,Bool.and_eq_true]at xM;exact qdD (l:=.code a::.code b::k) (by simp only[List.all_cons,Bool.and_eq_true];exact⟨xM.1,xM.2,hk⟩) (fun _=>rfl) rfl
   | block id b=>exact qdD (l:=.code b::.inBlock id::k) (by simp only[List.all_cons,Bool.and_eq_true];exact⟨xM,rfl,hk⟩) (fun _=>rfl) rfl
   | loop b=>exact qdD (l:=.code b::.inLoop b::k) (by simp only[List.all_cons,Bool.and_eq_true];exact⟨xM,xM,hk⟩) (fun _=>rfl) rfl
   | scope b=>exact qdD (l:=.code b::.inScope b::k) (by simp only[List.all_cons,Bool.and_eq_true];exact⟨xM,xM,hk⟩) (fun _=>rfl) rfl
   | exit id =>
    cases he:exitTo id k with
    | none=>exact Qa0.lost (fun τ'=>⟨_,_,_,by simp only[stepG.exec,he,Option.elim_none];rfl,fun v e=>by cases e⟩)
    | some k'=>exact qdD (qfx he hk) (fun τ'=>by simp only[stepG.exec,he,Option.elim_some]) (by simp only[stepG.exec,qlq κf k he,Option.elim_some])
   | cond x a b =>
    simp only[jG,Bool.and_eq_true]at xM;have hv:=hf.eval hFs hw.qar x xM.1.1
    have hx1:∀τ',stepG.exec P xw true ⟨fn,tm,.code (.cond x a b)::k,df,md,kd,none⟩ (cs++bl) none (qg w τ')=match Frame.eval ⟨fn,tm,.code (.cond x a b)::k,df,md,kd,none⟩ x with
      | .bool q=>.go {frame:=⟨fn,tm,.code (if q then a else b)::k,df,md,kd,none⟩,callers:=cs++bl,status:=.running,dying:=none} (qg w τ')
      | _=>.ended (.stuck "cond: bool expected" (Frame.pos P ⟨fn,tm,.code (.cond x a b)::k,df,md,kd,none⟩)) (qg w τ'):=fun τ'=>by
     unfold stepG.exec;dsimp only;cases Frame.eval ⟨fn,tm,.code (.cond x a b)::k,df,md,kd,none⟩ x<;>rfl
    have hx2:stepG.exec P main true ⟨fn,tm',.code (.cond x a b)::(k++κf),df',md',kd,none⟩ (cs'++bs) none W=match Frame.eval ⟨fn,tm',.code (.cond x a b)::(k++κf),df',md',kd,none⟩ x with
      | .bool q=>.go {frame:=⟨fn,tm',.code (if q then a else b)::(k++κf),df',md',kd,none⟩,callers:=cs'++bs,status:=.running,dying:=none} W
      | _=>.ended (.stuck "cond: bool expected" (Frame.pos P ⟨fn,tm',.code (.cond x a b)::(k++κf),df',md',kd,none⟩)) W:=by
     unfold stepG.exec;dsimp only;cases Frame.eval ⟨fn,tm',.code (.cond x a b)::(k++κf),df',md',kd,none⟩ x<;>rfl
    simp only[hx1,hx2]
    revert hv
    generalize Frame.eval ⟨fn,tm,.code (.cond x a b)::k,df,md,kd,none⟩ x=u;generalize Frame.eval ⟨fn,tm',.code (.cond x a b)::(k++κf),df',md',kd,none⟩ x=u';intro hv
    cases hv with
    | bool q=>exact qdD (by simp only[List.all_cons,Bool.and_eq_true];exact⟨by cases q with|true=>exact xM.1.2|false=>exact xM.2,hk⟩) (fun _=>rfl) rfl
    | _=>exact Qa0.lost (fun τ'=>⟨_,_,_,rfl,fun v e=>by cases e⟩)
   | region id ops draw =>
    simp only[jG,Bool.and_eq_true,Bool.or_eq_true]at xM
    have enter:∀(l:List Nat),(qeO ops=true\/(qrh ops=true/\l=List.range ops.size))->FrR P Fs K κf ⟨fn,tm,.inRegion ops l::k,df,md,kd,none⟩ ⟨fn,tm',.inRegion ops l::(k++κf),df',md',kd,none⟩:=by
     intro l hl;refine hf.to (l:=.inRegion ops l::k) ⟨xM.1,hl.imp (fun x=>x) (fun x=>⟨x.1,0,by rw[List.drop_zero];exact x.2⟩),hk⟩ (fun qx7 i r k2 o t e1 e2 e3=>?_);injection e1 with e4 e5;injection e4 with e6 e7;subst e6;rcases hl with h|⟨h,h2⟩
     ·have:=List.all_eq_true.1 h o (by simpa using Array.mem_of_getElem? e2);rw[e3]at this;cases this
     ·have hlt:i<ops.size:=(Array.getElem?_eq_some_iff.1 e2).1
      have g0:(List.range ops.size)[0]?=some i:=by rw[<-h2,e7];rfl
      have z0:=(List.getElem?_eq_some_iff.1 g0).2;simp only[List.getElem_range]at z0;subst z0;have qQ:=List.all_eq_true.1 h 0 (by simpa using hlt);simp only[e2,e3]at qQ;cases qQ
    cases draw with
    | false =>
     refine quiet (enter (List.range ops.size) ?_) rfl (fun _=>rfl) rfl;rcases xM.2 with h|h
     ·exact .inl h
     ·exact .inr ⟨h.2,rfl⟩
    | true =>
     have hno:qeO ops=true:=by
      rcases xM.2 with h|h
      ·exact h
      ·cases h.1
     have hq:Question.forced (.order fn id)=false:=rfl;refine⟨1,fun _ q=>W.tape W.drawn q,.inl ⟨{frame:=⟨fn,tm,.inRegion ops (Region.schedule (P.follows .mixedOrders) ops (Question.cut (.order fn id) (W.tape W.drawn (.order fn id))))::k,df,md,kd,none⟩,callers:=cs++bl,status:=.running,dying:=none},{w with drawn:=w.drawn+1},#[],K,{frame:=⟨fn,tm',.inRegion ops (Region.schedule (P.follows .mixedOrders) ops (Question.cut (.order fn id) (W.tape W.drawn (.order fn id))))::(k++κf),df',md',kd,none⟩,callers:=cs'++bs,status:=.running,dying:=none},{W with drawn:=W.drawn+1},#[],fun τ' ha=>?_,rfl,rfl,?_,⟨⟨κf,cs,cs',enter _ (.inl hno),rfl,rfl,hc⟩,rfl,⟨rfl,rfl⟩,rfl,rfl⟩,⟨hw.gl,hw.gs,hw.fn1,hw.fn2,hw.obj,hw.ro,hw.qaE,hw.qbF,hw.it,hw.own,hw.itk,hw.qar,hw.wm⟩,Did.draw _ _ _ _,fun e he=>by simp at he⟩⟩
     ·have ht:=ha w.drawn (Nat.le_refl _) (by omega);show stepG.exec P xw true ⟨fn,tm,.code (.region id ops true)::k,df,md,kd,none⟩ (cs++bl) none (qg w τ')=_;simp only[stepG.exec,Bool.not_true,Bool.false_eq_true,if_false,choose,Sem.run,hq]
      have:(qg w τ').tape (qg w τ').drawn (.order fn id)=W.tape W.drawn (.order fn id):=by
       show τ' w.drawn _=_;rw[ht]
      rw[this];rfl
     ·simp only[stepG.exec,Bool.not_true,Bool.false_eq_true,if_false,choose,Sem.run,hq]
   | _=>cases xM
  | _=>cases hok.1
theorem qve{α:Type}{f f':α->Sem Value}(xs:List α):∀(K:Kr),(∀K',K.le K'->∀a,SR P VT K' (f a) (f' a))->SR P (fun K l l'=>Two (VR K) l l') K (xs.mapM f) (xs.mapM f'):=by
 induction xs with
 | nil=>intro K _;simp only[List.mapM_nil];exact SR.pure .nil
 | cons x xs ih =>
  intro K h;simp only[List.mapM_cons];refine(h K (Kr.le.refl _) x).bind' (fun K1 h1 a a' e=>?_);exact(ih K1 (fun K' hK a=>h K' (h1.trans hK) a)).bind' (fun K2 h2 b b' e2=>SR.pure (.cons (e.mono h2) e2))
theorem qya{l l':List Value}(h:Two (VR K) l l'):AV K l.toArray l'.toArray:=by
 induction h with
 | nil=>exact AV.empty K
 | @cons a b r r' h1 h2 ih =>
  have:=(AV.one h1).append ih;simpa using this
theorem qeU(fn:Func)(h:AV K xs ys):SR P VT K (results fn xs) (results fn ys):=by
 unfold results;rw[Array.mapM_eq_mapM_toList,Array.mapM_eq_mapM_toList];have hu:∀K':Kr,VR K' undef undef:=fun K'=>.tuple _ _ rfl (fun i x y h=>by simp at h);refine SR.bind' (T:=fun K a a'=>AV K a a') ?_ (fun K1 h1 vs vs' hv=>?_)
 ·refine SR.bind (qve fn.results.toList K (fun K' hK q=>?_)) (fun K2 _ l l' hl=>SR.pure (qya hl))
  cases q with
  | tmp t=>exact SR.pure ((h.mono hK).getD t (hu K'))
  | cell a t=>exact(qkM ((h.mono hK).getD a (hu K'))).bind' (fun K3 _ x x' hx=>qjl t hx)
 ·by_cases hs:vs.size=1
  ·have hs':vs'.size=1:=hv.size.symm.trans hs;simp only[hs,hs',dite_true];exact SR.pure (hv.el 0 _ _ (Array.getElem?_eq_getElem (by omega)) (Array.getElem?_eq_getElem (by omega)))
  ·have hs':¬vs'.size=1:=fun e=>hs (hv.size.trans e);simp only[hs,hs',dite_false];exact SR.pure (.tuple _ _ hv.size hv.el)
end
end Sim
namespace Sim
section
variable {P:Program}{Fs:FuncId->Bool}{bl bs:List Frame}{κ κf:List Item}{K:Kr}{Ro:Nat->Prop}
variable {fr fr':Frame}
inductive NV(P:Program)(K:Kr):Next->Next->Prop
 | value (v v':Value):NV P K (.value v) (.value v')
 | enter (f:FuncId) (a a':Array Value):K.Fs f->(∃fn,P.funcs[f]?=some fn/\fn.body.isNone=false)->AV K a a'->NV P K (.enter f a) (.enter f a')
theorem qcy{s s':Sem Value}(h:SR P VT K s s'):SR P (fun K a a'=>NV P K a a') K (do pure (.value (<-s))) (do pure (.value (<-s'))):=h.bind' (fun _ _ _v _v' _=>SR.pure (.value _ _))
theorem qvf(HF:Qke P K.Fs)(HGl:Qfv P K){f:FuncId}(hf:K.Fs f){xs ys:Array Value}(h:AV K xs ys):SR P (fun K a a'=>NV P K a a') K (callFunc f xs) (callFunc f ys):=by
 by_cases hlt:f<P.funcs.size
 ·obtain⟨fn,e1,e2,e3⟩:=HF f hlt hf;unfold callFunc;refine SR.yB ?_;rw[e1];dsimp only;rw[e2];rcases e3 with e3|⟨e3,e4,e5⟩
  ·rw[e3];exact SR.pure (.enter f _ _ hf ⟨fn,e1,e3⟩ h)
  ·rw[e3];refine SR.extern ?_;simp only[Sem.bind];rw[e4];rcases e5 with e5|e5|e5|e5|⟨e5,g,e6,e7⟩
   ·rw[e5];exact qcy (qjh h)
   ·rw[e5];exact qcy (qhE _ _ h)
   ·rw[e5];exact qcy (qgL h)
   ·rw[e5];exact qcy (qnc h)
   ·rw[e5];exact qcy (qhF e6 (HGl g e7.1 e7.2) h)
 ·unfold callFunc;refine SR.yB ?_;rw[Array.getElem?_eq_none (Nat.not_lt.1 hlt)];exact SR.stuck
theorem qrl(HF:Qke P K.Fs)(HGl:Qfv P K)(H:VI P){d d':Deferred}(h:DrR K d d'):SR P (fun K a a'=>NV P K a a') K (invoke d.target d.args) (invoke d'.target d'.args):=by
 obtain⟨t,xs⟩:=d;obtain⟨t',ys⟩:=d';obtain⟨⟨ht,ha,hl⟩,ho⟩:=h;dsimp only at ht ha hl⊢
 cases ht with
 | nil=>exact qb7
 | builtin b ts t cs=>exact absurd rfl (ho b ts t cs)
 | lost c c' g=>exact SR.doomed (qhD H c xs (hl c rfl))
 | fn f c c' hf hc=>exact qvf HF HGl hf ((ha (fun c e=>by cases e)).append hc)
theorem FrR.defs(h:FrR P Fs K κf fr fr'){ds ds':List Deferred}(hd:Two (DrR K) ds ds')(hn:¬K.Fs 999999->ds=[]):FrR P Fs K κf {fr with defers:=ds} {fr' with defers:=ds'} :=
 ⟨h.fn,h.tmps,h.todo,h.ok,h.clr,hd,h.mode,h.kind,h.kindOk,h.round,h.fs,hn⟩
theorem FrR.qyb(h:FrR P Fs K κf fr fr'){m m':FrameMode}(hm:MR K m m'):FrR P Fs K κf {fr with mode:=m} {fr' with mode:=m'} :=
 ⟨h.fn,h.tmps,h.todo,h.ok,h.clr,h.defers,hm,h.kind,h.kindOk,h.round,h.fs,h.nd⟩
theorem qlr{l l':List PanicEntry}(h:Two (PR K) l l'):Two (PR K) (l.dropWhile (!·.goexit)) (l'.dropWhile (!·.goexit)):=by
 induction h with
 | nil=>exact .nil
 | @cons a b r r' hab hr ih =>
  simp only[List.dropWhile_cons,hab.g];split
  ·exact ih
  ·exact .cons hab hr
def qa1:FrameMode->FrameMode
 | .panicking ({recovered:=true,.. }::older)=>match older.dropWhile (!·.goexit)with
  | []=>.returning
  | rest=>.panicking rest
 | m=>m
theorem qrm{m m':FrameMode}(h:MR K m m'):MR K (qa1 m) (qa1 m'):=by
 cases h with
 | run=>exact .run
 | returning=>exact .returning
 | panicking l l' hl =>
  cases hl with
  | nil=>exact .panicking _ _ .nil
  | @cons x y xs ys hxy qfd =>
   obtain⟨xv,xr,xg⟩:=x;obtain⟨yv,yr,yg⟩:=y;have e1:=hxy.r;dsimp only at e1;subst e1
   cases yr with
   | false=>exact .panicking _ _ (.cons hxy qfd)
   | true =>
    simp only[qa1];have:=qlr qfd
    revert this
    generalize xs.dropWhile (!·.goexit)=a;generalize ys.dropWhile (!·.goexit)=b;intro h
    cases h with
    | nil=>exact .returning
    | cons h1 h2=>exact .panicking _ _ (.cons h1 h2)
theorem qcN(p:Program)(main:Bool){a:Frame}(hk:fr.kind=.deferred)(r:List Frame)(v:Value)(w:World):doReturn p main fr (a::r) none v w=.go ⟨{a with mode:=qa1 a.mode},r,.running,none,none⟩ w:=by
 unfold doReturn;simp only[hk]
 congr 2
 obtain⟨fn,tm,td,df,md,kd,rd⟩:=a
 cases md with
 | run=>rfl
 | returning=>rfl
 | panicking l =>
  cases l with
  | nil=>rfl
  | cons x xs =>
   obtain⟨xv,xr,xg⟩:=x
   cases xr with
   | false=>rfl
   | true =>
    simp only[qa1];cases xs.dropWhile (!·.goexit)<;>rfl
theorem FrR.qiA(h:FrR P Fs K κf fr fr'){m:FrameMode}(hm:fr.mode=m):MR K m fr'.mode:=by rw[<-hm];exact h.mode
section
variable {fr:Frame}{cs:List Frame}{d:Deferred}{w w1:World}{es:Array Event}
theorem qno(hg:d.target≠.nil\/∀l,fr.mode≠.panicking l){v:Value}(h:(invoke d.target d.args).runT P w #[]=(.ok (.value v) w1,es)):callDeferred P fr cs none d w=.go ⟨fr,cs,.running,none,none⟩ w1 (seen P fr.fn es):=by
 unfold callDeferred;simp only[h,GStep.after,Array.append_empty];refine if_neg ?_;intro e;simp only[Bool.and_eq_true]at e;obtain⟨e1,e2⟩:=e;rcases hg with hg|hg
 ·cases ht:d.target<;>rw[ht]at e1 hg<;>first|exact hg rfl|cases e1
 ·cases hm:fr.mode<;>rw[hm]at e2<;>first|exact hg _ hm|cases e2
theorem qnp(hg:d.target≠.nil\/∀l,fr.mode≠.panicking l){f:FuncId}{a:Array Value}(h:(invoke d.target d.args).runT P w #[]=(.ok (.enter f a) w1,es)):callDeferred P fr cs none d w=.go ⟨Frame.enter P f a .deferred,fr::cs,.running,none,none⟩ w1 (seen P fr.fn es):=by
 unfold callDeferred;simp only[h,GStep.after,Array.append_empty];refine if_neg ?_;intro e;simp only[Bool.and_eq_true]at e;obtain⟨e1,e2⟩:=e;rcases hg with hg|hg
 ·cases ht:d.target<;>rw[ht]at e1 hg<;>first|exact hg rfl|cases e1
 ·cases hm:fr.mode<;>rw[hm]at e2<;>first|exact hg _ hm|cases e2
theorem qnq(hg:d.target≠.nil\/∀l,fr.mode≠.panicking l){v:Value}(h:(invoke d.target d.args).runT P w #[]=(.halt (.panic v) w1,es)):callDeferred P fr cs none d w=.go ⟨fr.raise [{v,recovered:=false}],cs,.running,none,none⟩ w1 (seen P fr.fn es):=by
 unfold callDeferred;simp only[h,GStep.after,Array.append_empty];refine if_neg ?_;intro e;simp only[Bool.and_eq_true]at e;obtain⟨e1,e2⟩:=e;rcases hg with hg|hg
 ·cases ht:d.target<;>rw[ht]at e1 hg<;>first|exact hg rfl|cases e1
 ·cases hm:fr.mode<;>rw[hm]at e2<;>first|exact hg _ hm|cases e2
theorem qwR(hg:d.target≠.nil\/∀l,fr.mode≠.panicking l){q:Halt}(hl:za q=true)(h:((invoke d.target d.args).runT P w #[]).1=.halt q w1):qjk (callDeferred P fr cs none d w):=by
 unfold callDeferred;rw[if_neg]
 ·generalize (invoke d.target d.args).runT P w #[]=X at h⊢;obtain⟨r,es⟩:=X;dsimp only at h;subst h;cases q<;>first|(cases hl;done)|exact⟨_,_,_,rfl,fun v e=>by cases e⟩
 ·intro e;simp only[Bool.and_eq_true]at e;obtain⟨e1,e2⟩:=e;rcases hg with hg|hg
  ·cases ht:d.target<;>rw[ht]at e1 hg<;>first|exact hg rfl|cases e1
  ·cases hm:fr.mode<;>rw[hm]at e2<;>first|exact hg _ hm|cases e2
theorem qyc(h1:d.target=.nil){l:List PanicEntry}(h2:fr.mode=.panicking l):qjk (callDeferred P fr cs none d w):=by
 unfold callDeferred;rw[h1,h2];exact⟨_,_,_,rfl,fun v e=>by cases e⟩
end
theorem qnr(HG:Good P Fs)(hK:K.Fs=fun f=>Fs f=true){w W:World}(hw:WR P Ro K w W){fr fr':Frame}(hf:FrR P Fs K [] fr fr')(hnr:fr.mode≠.run){cs cs':List Frame}(hc:Cas P Fs K κ [] fr.kind cs cs'){d d':Deferred}(hd:DrR K d d') :
  Qa0 P Fs bl bs κ Ro K W (callDeferred P fr' (cs'++bs) none d' W) w.drawn (fun τ'=>callDeferred P fr (cs++bl) none d (qg w τ')):=by
 by_cases hx:d.target=.nil/\∃l,fr.mode=.panicking l
 ·obtain⟨h1,l,h2⟩:=hx;exact Qa0.lost (fun τ'=>qyc h1 h2)
 have hg:d.target≠.nil\/∀l,fr.mode≠.panicking l:=by
  by_cases h1:d.target=.nil
  ·exact .inr fun l h2=>hx ⟨h1,l,h2⟩
  ·exact .inl h1
 have hg':d'.target≠.nil\/∀l,fr'.mode≠.panicking l:=by
  rcases hg with h|h
  ·refine .inl fun e=>h ?_;have:=hd.r.target;rw[e]at this;generalize d.target=t at this⊢;cases this;rfl
  ·refine .inr fun l e=>?_;have:=hf.mode;rw[e]at this
   revert h
   generalize fr.mode=m at this⊢;cases this;exact fun h=>h _ rfl
 obtain⟨n1,τ,h⟩:=(qrl (by rw[hK];exact HG.fs) hw.qar HG.qvb hd).runT w W hw #[] #[];refine⟨n1,τ,?_⟩;rcases h with⟨r,es,h1,h2,h3⟩|h
 ·cases r with
  | ok x w1 =>
   obtain⟨K',x',W1,e1,hxx,hw1,hdd,he⟩:=h3;have hle:=hdd.le;have hev:=qaf (P:=P) fr'.fn he
   have hY:(invoke d'.target d'.args).runT P W #[]=(.ok x' W1,((invoke d'.target d'.args).runT P W #[]).2):=by rw[<-e1]
   cases hxx with
   | value v v'=>exact .inl ⟨⟨fr,cs++bl,.running,none,none⟩,w1,seen P fr.fn es,K',⟨fr',cs'++bs,.running,none,none⟩,W1,_,fun τ' ha=>qno hg (h1 τ' ha),rfl,h2,qno hg' hY,⟨⟨[],cs,cs',hf.mono hle,rfl,rfl,hc.mono hle⟩,rfl,⟨rfl,rfl⟩,rfl,rfl⟩,hw1,hdd,hev⟩
   | enter f a a' hfs hbody ha =>
    have hFf:Fs f=true:=by rw[hle.fs,hK]at hfs;exact hfs
    exact .inl ⟨⟨Frame.enter P f a .deferred,fr::cs++bl,.running,none,none⟩,w1,seen P fr.fn es,K',⟨Frame.enter P f a' .deferred,fr'::cs'++bs,.running,none,none⟩,W1,_,fun τ' hal=>qnp hg (h1 τ' hal),rfl,h2,qnp hg' hY,⟨⟨[],fr::cs,fr'::cs',FrR.enter HG hFf ha hbody (.inr rfl),rfl,rfl,.cons ⟨hf.mono hle,fun e=>absurd e hnr,.inr rfl⟩ (fun e=>by cases e) (hc.mono hle)⟩,rfl,⟨rfl,rfl⟩,rfl,rfl⟩,hw1,hdd,hev⟩
  | halt q w1 =>
   cases q with
   | panic v =>
    obtain⟨K',v',W1,e1,hv,hw1,hdd,he⟩:=h3;have hle:=hdd.le;have hev:=qaf (P:=P) fr'.fn he
    have hY:(invoke d'.target d'.args).runT P W #[]=(.halt (.panic v') W1,((invoke d'.target d'.args).runT P W #[]).2):=by rw[<-e1]
    exact .inl ⟨⟨fr.raise [{v,recovered:=false}],cs++bl,.running,none,none⟩,w1,seen P fr.fn es,K',⟨fr'.raise [{v:=v',recovered:=false}],cs'++bs,.running,none,none⟩,W1,_,fun τ' ha=>qnq hg (h1 τ' ha),rfl,h2,qnq hg' hY,⟨⟨[],cs,cs',(hf.mono hle).raise (.cons ⟨hv,rfl,rfl⟩ .nil),rfl,rfl,by rw[qfw];exact hc.mono hle⟩,rfl,⟨rfl,rfl⟩,rfl,rfl⟩,hw1,hdd,hev⟩
   | _=>cases h3
 ·refine .inr (fun τ' ha=>?_);obtain⟨q,w',e,hl⟩:=h τ' ha;exact qwR hg hl e
theorem qvg(HG:Good P Fs)(hK:K.Fs=fun f=>Fs f=true)(xw main:Bool){w W:World}(hw:WR P Ro K w W){g G:Goroutine}{l l':List Frame}(hf:FrR P Fs K κf g.frame G.frame)(hcl:g.callers=l++bl)(hCl:G.callers=l'++bs)(hc:Cas P Fs K κ κf g.frame.kind l l')(hdy:g.dying=none/\G.dying=none)
  (hl:(g.frame.mode=.run/\(g.frame.todo≠[]\/κf=[]))\/(g.frame.mode≠.run/\(l≠[]\/(g.frame.defers≠[]/\κf=[])))) :
  Qa0 P Fs bl bs κ Ro K W (stepG P main G W) w.drawn (fun τ'=>stepG P xw g (qg w τ')):=by
 obtain⟨fr,csl,st,dy,off⟩:=g;obtain⟨fr',cs0,st',dy',j0⟩:=G;dsimp only at hf hcl hCl hc hdy hl;subst hcl;subst hCl;obtain⟨rfl,rfl⟩:=hdy;rcases hl with⟨hm,hne⟩|⟨hm,hl⟩
 ·have hm':fr'.mode=.run:=by
   have:=hf.qiA hm;generalize fr'.mode=m at this⊢;cases this;rfl
  have h1:∀τ',stepG P xw ⟨fr,l++bl,st,none,off⟩ (qg w τ')=stepG.exec P xw true fr (l++bl) none (qg w τ'):=fun τ'=>by
   unfold stepG;simp only[hm]
  have h2:stepG P main ⟨fr',l'++bs,st',none,j0⟩ W=stepG.exec P main true fr' (l'++bs) none W:=by
   unfold stepG;simp only[hm']
  simp only[h1,h2];exact qvd (bl:=bl) (bs:=bs) HG hK xw main hw hf hm hne hc
 ·have hm':fr'.mode≠.run:=fun e=>by
   have:=hf.mode;rw[e]at this;generalize fr.mode=m at this hm;cases this;exact hm rfl
  have u1:∀τ',stepG P xw ⟨fr,l++bl,st,none,off⟩ (qg w τ')=unwind P xw fr (l++bl) none (qg w τ'):=fun τ'=>by
   unfold stepG;cases hmo:fr.mode<;>first|exact absurd hmo hm|(simp only[hmo])
  have u2:stepG P main ⟨fr',l'++bs,st',none,j0⟩ W=unwind P main fr' (l'++bs) none W:=by
   unfold stepG;cases hmo:fr'.mode<;>first|exact absurd hmo hm'|(simp only[hmo])
  simp only[u1,u2]
  have hκ:κf=[]:=by
   rcases hl with hl|⟨_,h⟩
   ·generalize fr.kind=q at hc
    cases hc with
    | nil=>exact absurd rfl hl
    | cons=>rfl
   ·exact h
  subst hκ;have hds:=hf.defers
  cases hde:fr.defers with
  | cons d ds =>
   rw[hde]at hds;obtain⟨d',ds',qrn,hd,hr⟩:=qnl hds
   have nc:∀(b:Nat),d.target≠.collected b:=fun b e=>by
    have:=hd.r.target;rw[e]at this;cases this
   have nc':∀(b:Nat),d'.target≠.collected b:=fun b e=>by
    have:=hd.r.target;rw[e]at this;generalize d.target=t at this;cases this
   have v1:∀τ',unwind P xw fr (l++bl) none (qg w τ')=callDeferred P {fr with defers:=ds} (l++bl) none d (qg w τ'):=fun τ'=>by
    unfold unwind;rw[hde];obtain⟨t,xs⟩:=d;cases t<;>first|exact absurd rfl (nc _)|rfl
   have v2:unwind P main fr' (l'++bs) none W=callDeferred P {fr' with defers:=ds'} (l'++bs) none d' W:=by
    unfold unwind;rw[qrn];obtain⟨t,xs⟩:=d';cases t<;>first|exact absurd rfl (nc' _)|rfl
   simp only[v1,v2];exact qnr HG hK hw (hf.defs hr (fun x=>by have:=hf.nd x;rw[hde]at this;cases this)) hm hc hd
  | nil =>
   have qrn:fr'.defers=[]:=by
    rw[hde]at hds;generalize fr'.defers=x at hds⊢;cases hds;rfl
   have hl':l≠[]:=hl.resolve_right fun h=>h.1 hde;generalize hq:fr.kind=q at hc
   cases hc with
   | nil=>exact absurd rfl hl'
   | @cons κ1 _ a b r r' ha hn hrr =>
    have hkk:=hf.kind;obtain⟨fn,hfn⟩:=hf.fs
    have qeV:P.funcs[fr'.fn]?=some fn:=by rw[hf.fn];exact hfn
    cases hmo:fr.mode with
    | run=>exact absurd hmo hm
    | returning =>
     have qbN:fr'.mode=.returning:=by
      have:=hf.qiA hmo;generalize fr'.mode=m at this⊢;cases this;rfl
     have h1:∀τ',unwind P xw fr ((a::r)++bl) none (qg w τ')=GStep.after (seen P fr.fn ((results fn fr.tmps).runT P (qg w τ') #[]).2) (match ((results fn fr.tmps).runT P (qg w τ') #[]).1 with
       | .ok v w=>doReturn P xw fr ((a::r)++bl) none v w
       | .halt (.stuck s) w=>.ended (.stuck s (fr.pos P)) w
       | .halt _ w=>.ended (.stuck "return: the result variables cannot be read" (fr.pos P)) w):=fun τ'=>by
      unfold unwind;simp only[hde,hmo,hfn];generalize (results fn fr.tmps).runT P (qg w τ') #[]=X;obtain⟨r,es⟩:=X
      cases r with
      | ok v w1=>rfl
      | halt q w1=>cases q<;>rfl
     have h2:unwind P main fr' ((b::r')++bs) none W=GStep.after (seen P fr'.fn ((results fn fr'.tmps).runT P W #[]).2) (match ((results fn fr'.tmps).runT P W #[]).1 with
       | .ok v w=>doReturn P main fr' ((b::r')++bs) none v w
       | .halt (.stuck s) w=>.ended (.stuck s (fr'.pos P)) w
       | .halt _ w=>.ended (.stuck "return: the result variables cannot be read" (fr'.pos P)) w):=by
      unfold unwind;simp only[qrn,qbN,qeV];generalize (results fn fr'.tmps).runT P W #[]=X;obtain⟨r,es⟩:=X
      cases r with
      | ok v w1=>rfl
      | halt q w1=>cases q<;>rfl
     have back:∃bk bk':Value->Frame,(∀v w1 es,GStep.after es (doReturn P xw fr ((a::r)++bl) none v w1)=.go ⟨bk v,r++bl,.running,none,none⟩ w1 es)/\(∀v w1 es,GStep.after es (doReturn P main fr' ((b::r')++bs) none v w1)=.go ⟨bk' v,r'++bs,.running,none,none⟩ w1 es) /\
       ∀(K':Kr) (v v':Value),K.le K'->VR K' v v'->FrR P Fs K' κ1 (bk v) (bk' v')/\(bk v).kind=a.kind:=by
      rcases hf.kindOk with hk|hk
      ·have hk':=hkk.trans hk;refine⟨fun v=>a.finish v,fun v=>b.finish v,fun v w1 es=>by unfold doReturn;simp only[hk,List.cons_append,GStep.after,Array.append_empty],fun v w1 es=>by unfold doReturn;simp only[hk',List.cons_append,GStep.after,Array.append_empty],fun K' v v' hle hv=>⟨(ha.f.mono hle).finish ha.ne hv (fun ops i r k o e1 e2 e3=>by rw[ha.at_ (hn (hq.symm.trans hk)) ops i r k o e1 e2]at e3;cases e3),qaL _ _⟩⟩
      ·have hk':=hkk.trans hk;refine⟨fun v=>{a with mode:=qa1 a.mode},fun v=>{b with mode:=qa1 b.mode},fun v w1 es=>by rw[List.cons_append,qcN P xw hk];simp only[GStep.after,Array.append_empty],fun v w1 es=>by rw[List.cons_append,qcN P main hk'];simp only[GStep.after,Array.append_empty],fun K' v v' hle hv=>⟨(ha.f.mono hle).qyb (qrm (ha.f.mode.mono hle)),rfl⟩⟩
     obtain⟨bk,bk',qAx,qAy,qyd⟩:=back
     have qAz:∀(K':Kr) (v v':Value),K.le K'->VR K' v v'->GR P Fs bl bs κ K' ⟨bk v,r++bl,.running,none,none⟩ ⟨bk' v',r'++bs,.running,none,none⟩:=fun K' v v' hle hv =>
      ⟨⟨κ1,r,r',(qyd K' v v' hle hv).1,rfl,rfl,by rw[show({frame:=bk v,callers:=r++bl,status:=.running,dying:=none,offers:=none}:Goroutine).frame.kind=a.kind from(qyd K' v v' hle hv).2];exact hrr.mono hle⟩,rfl,⟨rfl,rfl⟩,rfl,rfl⟩
     simp only[h1,h2];obtain⟨n,τ,hx⟩:=(qeU (P:=P) fn hf.tmps).runT w W hw #[] #[];refine⟨n,τ,?_⟩;rcases hx with⟨q,es,g1,g2,g3⟩|hx
     ·cases q with
      | ok v w1 =>
       obtain⟨K',v',W1,e1,hv,hw1,hdd,he⟩:=g3;refine .inl ⟨_,w1,seen P fr.fn es,K',_,W1,_,fun τ' hal=>?_,rfl,g2,?_,qAz K' v v' hdd.le hv,hw1,hdd,qaf (P:=P) fr'.fn he⟩
       ·have g1':(results fn fr.tmps).runT P (qg w τ') #[]=(.ok v (qg w1 τ'),es):=g1 τ' hal;dsimp only;rw[g1'];exact qAx _ _ _
       ·rw[e1];exact qAy _ _ _
      | halt q w1 =>
       refine .inr (fun τ' ha=>?_);have g1':(results fn fr.tmps).runT P (qg w τ') #[]=(.halt q (qg w1 τ'),es):=g1 τ' ha;dsimp only;rw[g1'];cases q<;>exact⟨_,_,_,rfl,fun v e=>by cases e⟩
     ·refine .inr (fun τ' ha=>?_);obtain⟨q,w',e,hl⟩:=hx τ' ha;dsimp only;rw[e];cases q<;>exact⟨_,_,_,rfl,fun v e=>by cases e⟩
    | panicking chain =>
     obtain⟨qye,qbN,hch⟩:∃c',fr'.mode=.panicking c'/\Two (PR K) chain c':=by
      have:=hf.qiA hmo;generalize fr'.mode=m at this⊢
      cases this with
      | panicking l l' e=>exact⟨l',rfl,e⟩
     have qy0:fr.catches P=false:=by unfold Frame.catches;rw[hfn]
     have qyf:fr'.catches P=false:=by unfold Frame.catches;rw[qeV]
     have e1:∀τ',unwind P xw fr ((a::r)++bl) none (qg w τ')=.go {frame:=a.raise chain,callers:=r++bl,status:=.running,dying:=none} (qg w τ'):=fun τ'=>by
      unfold unwind;simp only[hde,hmo,List.cons_append,qy0,Bool.false_eq_true,if_false]
     have e2:unwind P main fr' ((b::r')++bs) none W=.go {frame:=b.raise qye,callers:=r'++bs,status:=.running,dying:=none} W:=by
      unfold unwind;simp only[qrn,qbN,List.cons_append,qyf,Bool.false_eq_true,if_false]
     exact Qa0.still hw e1 e2 rfl ⟨⟨κ1,r,r',ha.f.raise hch,rfl,rfl,by rw[show({frame:=a.raise chain,callers:=r++bl,status:=.running,dying:=none}:Goroutine).frame.kind=a.kind from qfw _ _];exact hrr⟩,rfl,⟨rfl,rfl⟩,rfl,rfl⟩
end
end Sim
namespace Sim
structure QK(M:Nat->Prop)(W W1:World):Prop where
 same:∀b,M b->jZ W b->W1.heap[b]?=W.heap[b]?
 chan:∀(b:Nat) (o:Obj),W.heap[b]?=some o->o.isChan=true->∃o',W1.heap[b]?=some o'/\o'.isChan=true
 size:W.heap.size<=W1.heap.size
theorem QK.refl(M:Nat->Prop)(W:World):QK M W W:=⟨fun _ _ _=>rfl,fun _ o h hc=>⟨o,h,hc⟩,Nat.le_refl _⟩
def Ev(Ro:Nat->Prop)(W:World)(M:Nat->Prop)(e:Event):Prop :=
 match e.loc with
 | .cell a=>e.sync=false/\M a.block/\(e.write=true->¬Ro a.block)/\jZ W a.block
 | .obj r=>M r/\(e.write=true->¬Ro r)/\(e.sync=true->e.write=false)/\(e.sync=false->jZ W r)
 | .mark .noRoom=>True
 | .mark (.extern _)=>True
 | _=>False
structure YK(Ro:Nat->Prop)(M:Nat->Prop)(W:World)(M':Nat->Prop)(W':World)(es:Array Event):Prop where
 le:∀b,M b->M' b
 new:∀b,M' b->M b\/W.heap.size<=b
 lt:∀b,M' b->b<W'.heap.size
 size:W.heap.size<=W'.heap.size
 same:∀b,b<W.heap.size->¬M b\/Ro b->W'.heap[b]?=W.heap[b]?
 chan:∀(b:Nat) (o:Obj),W.heap[b]?=some o->o.isChan=true->W'.heap[b]?=some o
 tape:W'.tape=W.tape
 os:W'.os=W.os
 output:W'.output=W.output
 evs:∀e∈es,Ev Ro W M' e
structure Nx where
 M:Nat->Prop
 g:Goroutine
 w:World
 es:Array Event
inductive Co(P:Program)(main:Bool)(Ro:Nat->Prop)(Stop:(Nat->Prop)->Goroutine->World->Prop):(Nat->Prop)->Goroutine->World->Prop
 | stop {M:Nat->Prop} {g:Goroutine} {W:World}:(∀W1,QK M W W1->Stop M g W1)->Co P main Ro Stop M g W
 | next {M:Nat->Prop} {g:Goroutine} {W:World} (nx:World->Nx):g.status=.running->(∀W1,QK M W W1->stepG P main g W1=.go (nx W1).g (nx W1).w (nx W1).es/\(nx W1).g.status=.running/\YK Ro M W1 (nx W1).M (nx W1).w (nx W1).es)->(∀W1,QK M W W1->Co P main Ro Stop (nx W1).M (nx W1).g (nx W1).w)->Co P main Ro Stop M g W
theorem Co.step{P:Program}{main:Bool}{Ro:Nat->Prop}{Stop:(Nat->Prop)->Goroutine->World->Prop}{M:Nat->Prop}{g:Goroutine}{W:World}(hr:g.status=.running)
  (h:∀W1,QK M W W1->∃x:Nx,(stepG P main g W1=.go x.g x.w x.es/\x.g.status=.running/\YK Ro M W1 x.M x.w x.es)/\Co P main Ro Stop x.M x.g x.w):Co P main Ro Stop M g W:=by
 classical
 let nx:World->Nx:=fun W1=>if hx:QK M W W1 then Classical.choose (h W1 hx)else⟨M,g,W,#[]⟩
 have e:∀W1 (hx:QK M W W1),nx W1=Classical.choose (h W1 hx):=fun W1 hx=>dif_pos hx;refine .next nx hr (fun W1 hx=>?_) (fun W1 hx=>?_)
 ·rw[e W1 hx];exact(Classical.choose_spec (h W1 hx)).1
 ·rw[e W1 hx];exact(Classical.choose_spec (h W1 hx)).2
section
variable {P:Program}{Fs:FuncId->Bool}{bl bs:List Frame}{K:Kr}{Ro:Nat->Prop}
variable {w W w':World}{M:Nat->Prop}{es:Array Event}{P:Program}
theorem WR.lt(h:WR P Ro K w W){a b:Nat}(hab:K.B a b):b<W.heap.size:=by
 obtain⟨_,_,_,h2,_⟩:=h.obj a b hab;exact(Array.getElem?_eq_some_iff.1 h2).1
theorem WR.rely{W1:World}(h:WR P Ro K w W)(hM:∀a b,K.B a b->M b)(r:QK M W W1):WR P Ro K w W1:=by
 refine⟨h.gl,⟨h.gs.1,Nat.le_trans h.gs.2 r.size⟩,h.fn1,h.fn2,fun a b hab=>?_,h.ro,fun b hb=>Nat.lt_of_lt_of_le (h.qaE b hb) r.size,fun b hb=>Nat.lt_of_lt_of_le (h.qbF b hb) r.size,h.it,h.own,h.itk,h.qar,h.wm⟩;obtain⟨o,O,h1,h2,h3⟩:=h.obj a b hab;by_cases hc:O.isChan=true
 ·obtain⟨O',e1,e2⟩:=r.chan b O h2 hc;refine⟨o,O',h1,e1,?_⟩;cases h3<;>first|(cases hc;done)|skip
  cases O'<;>first|(cases e2;done)|exact .chan ..
 ·refine⟨o,O,h1,?_,h3⟩;rw[r.same b (hM a b hab) (fun o' ho'=>by rw[h2]at ho';cases ho';simpa using hc)];exact h2
theorem qew{W':World}{K':Kr}(hw':WR P Ro K' w' W')(d:Did Ro K W K' W')(hM:∀a b,K.B a b->M b)(hlt:∀b,M b->b<W.heap.size)(he:∀e∈es,Qaq Ro W K' e) :
  YK Ro M W (fun b=>M b\/∃a,K'.B a b) W' es:=by
 refine⟨fun _ h=>.inl h,?_,?_,d.size,fun b hb hn=>d.same b hb (hn.imp (fun x ⟨a,ha⟩=>x (hM a b ha)) id),d.chan,d.tape,d.os,d.output,fun e hm=>?_⟩
 ·rintro b (h|⟨a,h⟩)
  ·exact .inl h
  ·exact(d.new a b h).imp (fun x=>hM a b x) id
 ·rintro b (h|⟨a,h⟩)
  ·exact Nat.lt_of_lt_of_le (hlt b h) d.size
  ·exact hw'.lt h
 ·have:=he e hm;unfold Qaq at this;unfold Ev;split<;>rename_i hl<;>simp only[hl]at this
  ·exact⟨this.1,.inr this.2.1,this.2.2⟩
  ·exact⟨.inr this.1,this.2⟩
  ·trivial
  ·trivial
def c0 (P:Program):Frame:={fn:=P.funcs.size,tmps:=#[],todo:=[.code (.refuse "")],defers:=[⟨.fn (.func P.funcs.size) #[],#[]⟩],mode:=.run,kind:=.normal}
def Qyg(P:Program)(Z:Frame->World->Prop)(g:Goroutine)(w:World)(ρ:Nat->Question->Nat):Prop :=
 ∀τ:Nat->Question->Nat,(∀d,d<w.drawn->τ d=ρ d)->∃n w' fr,runN P n (lone g.frame g.callers (qg w τ))=.next (lone fr [c0 P] w')/\Z fr w'
def Zc(P:Program)(R:Value->World->Prop)(fr:Frame)(w:World):Prop:=∃v,R v w/\fr.leaving P w (.returned v)
theorem qns{g g':Goroutine}(hs:g.status=.running)(hd:g.dying=none)(ho:g.offers=none)(hs':g'.status=.running)(hd':g'.dying=none)(ho':g'.offers=none)(h:stepG P true g w=.go g' w' es) :
  step P (lone g.frame g.callers w)=.next (lone g'.frame g'.callers w'):=by
 obtain⟨fr,cs,st,dy,off⟩:=g;obtain⟨fr',cs',st',dy',j0⟩:=g';dsimp only at hs hd ho hs' hd' ho'⊢;subst hs;subst hd;subst ho;subst hs';subst hd';subst ho';exact step_lone_go (by rw[h];rfl)
structure St where
 K:Kr
 M:Nat->Prop
 g:Goroutine
 w:World
 ρ:Nat->Question->Nat
 G:Goroutine
 W:World
structure Inv(P:Program)(Fs:FuncId->Bool)(bs:List Frame)(κ:List Item)(Ro:Nat->Prop)(Z:Frame->World->Prop)(K0:Kr)(M0:Nat->Prop)(s:St):Prop where
 gr:GR P Fs [c0 P] bs κ s.K s.g s.G
 st:s.g.status=.running
 wr:WR P Ro s.K s.w s.W
 km:∀a b,s.K.B a b->s.M b
 lt:∀b,s.M b->b<s.W.heap.size
 fs:s.K.Fs=fun f=>Fs f=true
 run:Qyg P Z s.g s.w s.ρ
 le:K0.le s.K
 m0:∀b,M0 b->s.M b
 mo:∀b,s.M b->M0 b\/∃a,s.K.B a b
def Qvh(P:Program)(Fs:FuncId->Bool)(c:Frame)(rest:List Frame)(Ro:Nat->Prop)(R:Value->World->Prop)(K0:Kr)(M0:Nat->Prop)(M:Nat->Prop)(G:Goroutine)(W:World):Prop :=
 ∃K w v v',G=⟨c.finish v',rest,.running,none,none⟩/\VR K v v'/\R v w/\WR P Ro K w W/\K0.le K/\(K.Fs=fun f=>Fs f=true)/\(∀b,M0 b->M b)/\(∀a b,K.B a b->M b)/\(∀b,M b->M0 b\/∃a,K.B a b)/\∀b,M b->b<W.heap.size
theorem qd2{n:Nat}{m m' m2:Machine}(h:runN P (n+1) m=.next m2)(hs:step P m=.next m'):runN P n m'=.next m2:=by
 simp only[runN,hs]at h;exact h
theorem runN_ended{n:Nat}{m m2:Machine}{o:Outcome}(h:runN P (n+1) m=.next m2)(hs:step P m=.ended o w):False:=by
 simp only[runN,hs]at h;cases h
theorem qae{fr fr':Frame}{cs cs':List Frame}(h:lone fr cs w=lone fr' cs' w'):fr=fr'/\cs=cs'/\w=w':=by
 unfold lone at h;injection h with h1 h2 h3
 have h4:(#[({frame:=fr,callers:=cs,status:=.running,dying:=none}:Goroutine)])[0]?=(#[({frame:=fr',callers:=cs',status:=.running,dying:=none}:Goroutine)])[0]?:=by rw[h2]
 simp at h4;exact⟨h4.1,h4.2,h1⟩
theorem qpd(w:World):∃o w',step P (lone (c0 P) [] w)=.ended o w':=⟨_,_,step_lone_ended (by rfl)⟩
theorem qtd (w:World):(invoke (.fn (.func P.funcs.size) #[]) #[]).runT P w #[]=(.halt (.stuck "call: no such function") w,#[]):=by
 have h:P.funcs[P.funcs.size]?=none:=Array.getElem?_eq_none (Nat.le_refl _);unfold invoke callFunc;show(Sem.bind Go.program _).runT P w #[]=_;rw[Sem.runT_bind'];have e:(Go.program).runT P w #[]=(.ok P w,#[]):=rfl;rw[e];dsimp only;rw[h];rfl
theorem qfO(l:List PanicEntry)(w:World):∃o w',step P (lone ((c0 P).raise l) [] w)=.ended o w':=by
 refine⟨_,_,step_lone_ended (w':=w) (o:=.stuck "call: no such function" (Frame.pos P { (c0 P).raise l with defers:=[]})) ?_⟩
 have h1:stepG P true {frame:=(c0 P).raise l,callers:=[],status:=.running,dying:=none} w=unwind P true ((c0 P).raise l) [] none w:=rfl;rw[h1];have h2:unwind P true ((c0 P).raise l) [] none w=callDeferred P { (c0 P).raise l with defers:=[]} [] none ⟨.fn (.func P.funcs.size) #[],#[]⟩ w:=rfl;rw[h2];unfold callDeferred;dsimp only;rw[qtd];rfl
end
end Sim
namespace Sim
variable {M:Nat->Prop}{W:World}{Stop:(Nat->Prop)->Goroutine->World->Prop}{g:Goroutine}
theorem QK.after{W1 W2:World}(h:QK M W W1)(k:QK M W1 W2):QK M W W2:=by
 refine⟨fun b hb hn=>?_,fun b o ho hc=>?_,Nat.le_trans h.size k.size⟩
 ·have e:=h.same b hb hn;exact(k.same b hb (fun o ho=>hn o (by rw[<-e];exact ho))).trans e
 ·obtain⟨o',h1,h2⟩:=h.chan b o ho hc;exact k.chan b o' h1 h2
theorem Co.rely{P:Program}{main:Bool}{Ro:Nat->Prop}{W1:World}(h:Co P main Ro Stop M g W)(r:QK M W W1):Co P main Ro Stop M g W1:=by
 cases h with
 | stop hs=>exact .stop (fun W2 r2=>hs W2 (r.after r2))
 | next nx hr h1 h2=>exact .next nx hr (fun W2 r2=>h1 W2 (r.after r2)) (fun W2 r2=>h2 W2 (r.after r2))
theorem Co.bind{P:Program}{main:Bool}{Ro:Nat->Prop}{Qro:(Nat->Prop)->Goroutine->World->Prop}(h:Co P main Ro Stop M g W)
  (k:∀M' g' W',(∀b,M b->M' b)->(∀W1,QK M' W' W1->Stop M' g' W1)->Co P main Ro Qro M' g' W'):Co P main Ro Qro M g W:=by
 induction h with
 | stop hs=>exact k _ _ _ (fun _ h=>h) hs
 | next nx hr h1 _ ih=>exact .next nx hr h1 (fun W1 r=>ih W1 r (fun M' g' W' hm hs=>k M' g' W' (fun b hb=>hm b ((h1 W1 r).2.2.le b hb)) hs))
section
variable {P:Program}{Fs:FuncId->Bool}{bs:List Frame}{κ:List Item}{Ro:Nat->Prop}{Z:Frame->World->Prop}{E:Frame->Prop}{R:Value->World->Prop}{K0:Kr}{M0:Nat->Prop}
def glue(ρ τ:Nat->Question->Nat)(d:Nat):Nat->Question->Nat:=fun i=>if i<d then ρ i else τ i
theorem qg0{ρ τ:Nat->Question->Nat}{d i:Nat}(h:i<d):glue ρ τ d i=ρ i:=if_pos h
theorem qjA{ρ τ:Nat->Question->Nat}{d i:Nat}(h:d<=i):glue ρ τ d i=τ i:=if_neg (by omega)
def QgZ(κ:List Item)(E:Frame->Prop):Prop:=∀fr:Frame,¬E fr->(fr.mode=.run/\(fr.todo≠[]\/κ=[]))\/(fr.mode≠.run/\fr.defers≠[]/\κ=[])
theorem Inv.rely{s:St}(h:Inv P Fs bs κ Ro Z K0 M0 s){W1:World}(hr:QK s.M s.W W1):Inv P Fs bs κ Ro Z K0 M0 ⟨s.K,s.M,s.g,s.w,s.ρ,s.G,W1⟩ :=
 ⟨h.gr,h.st,h.wr.rely h.km hr,h.km,fun b hb=>Nat.lt_of_lt_of_le (h.lt b hb) hr.size,h.fs,h.run,h.le,h.m0,h.mo⟩
theorem qvi(HG:Good P Fs)(main:Bool)(hE:QgZ κ E)(hZ:∀fr w,Z fr w->E fr){s:St}(h:Inv P Fs bs κ Ro Z K0 M0 s)(qyh:¬(s.g.callers=[c0 P]/\E s.g.frame)){W1:World}(hr:QK s.M s.W W1) :
  ∃(s':St) (es:Array Event),stepG P main s.G W1=.go s'.G s'.W es/\s'.G.status=.running/\YK Ro s.M W1 s'.M s'.W es/\Inv P Fs bs κ Ro Z K0 M0 s'/\s.w.drawn<=s'.w.drawn/\(∀d,d<s.w.drawn->s'.ρ d=s.ρ d) /\
   ∀τ,(∀d,d<s'.w.drawn->τ d=s'.ρ d)->step P (lone s.g.frame s.g.callers (qg s.w τ))=.next (lone s'.g.frame s'.g.callers (qg s'.w τ)):=by
 have hw1:=h.wr.rely h.km hr;have qbd:∀b,s.M b->b<W1.heap.size:=fun b hb=>Nat.lt_of_lt_of_le (h.lt b hb) hr.size;obtain⟨κf,l,l',q1,q2,q3,q4⟩:=h.gr.fr
 have hl:(s.g.frame.mode=.run/\(s.g.frame.todo≠[]\/κf=[]))\/(s.g.frame.mode≠.run/\(l≠[]\/(s.g.frame.defers≠[]/\κf=[]))):=by
  revert q4
  generalize s.g.frame.kind=q;intro q4
  cases q4 with
  | nil =>
   have:=hE s.g.frame fun e=>qyh ⟨by simpa using q2,e⟩;exact this.imp id fun x=>⟨x.1,.inr x.2⟩
  | cons _ _ _ =>
   by_cases hm:s.g.frame.mode=.run
   ·exact .inl ⟨hm,.inr rfl⟩
   ·exact .inr ⟨hm,.inl (by nofun)⟩
 obtain⟨n,τ,hx⟩:=qvg (bl:=[c0 P]) (bs:=bs) HG h.fs true main hw1 q1 q2 q3 q4 h.gr.dy hl
 have over:∀{w w':World} {fr:Frame},lone s.g.frame s.g.callers w=lone fr [c0 P] w'->Z fr w'->False:=fun e hz=>by
  obtain⟨e1,e2,_⟩:=qae e;exact qyh ⟨e2,by rw[e1];exact hZ _ _ hz⟩
 have alike:∀τ2,(∀d,d<s.w.drawn+n->τ2 d=glue s.ρ τ s.w.drawn d)->Alike τ τ2 s.w.drawn (s.w.drawn+n)/\∀d,d<s.w.drawn->τ2 d=s.ρ d:=fun τ2 ha =>
  ⟨fun d h1 h2=>(ha d h2).trans (qjA h1),fun d h1=>(ha d (by omega)).trans (qg0 h1)⟩
 rcases hx with⟨g1,w1,es,K',G',W',es',a1,a2,a3,a4,a5,a6,a7,a8⟩|hx
 ·have st:∀τ2,(∀d,d<s.w.drawn+n->τ2 d=glue s.ρ τ s.w.drawn d)->step P (lone s.g.frame s.g.callers (qg s.w τ2))=.next (lone g1.frame g1.callers (qg w1 τ2)):=fun τ2 ha =>
   qns h.st h.gr.dy.1 h.gr.off.1 a2 a5.dy.1 a5.off.1 (a1 τ2 (alike τ2 ha).1)
  refine⟨⟨K',fun b=>s.M b\/∃a,K'.B a b,g1,w1,glue s.ρ τ s.w.drawn,G',W'⟩,es',a4,by rw[<-a2];exact a5.st,qew a6 a7 h.km qbd a8,?_,by rw[a3];omega,fun d hd=>qg0 hd,fun τ2 ha=>st τ2 (by rw[<-a3];exact ha)⟩;refine⟨a5,a2,a6,fun a b hab=>.inr ⟨a,hab⟩,(qew a6 a7 h.km qbd a8).lt,by rw[a7.le.fs];exact h.fs,?_,h.le.trans a7.le,fun b hb=>.inl (h.m0 b hb),?_⟩
  ·intro τ2 ha
   have ha':∀d,d<s.w.drawn+n->τ2 d=glue s.ρ τ s.w.drawn d:=by rw[<-a3];exact ha
   obtain⟨k,w',fr,r1,r2⟩:=h.run τ2 (alike τ2 ha').2
   cases k with
   | zero=>injection r1 with r1;exact(over r1 r2).elim
   | succ k=>exact⟨k,w',fr,qd2 r1 (st τ2 ha'),r2⟩
  ·rintro b (hb|hb)
   ·exact(h.mo b hb).imp id (fun⟨a,ha⟩=>⟨a,a7.le.b _ _ ha⟩)
   ·exact .inr hb
 ·exfalso;have ha:=alike (glue s.ρ τ s.w.drawn) (fun d _=>rfl);obtain⟨k,w',fr,r1,r2⟩:=h.run _ ha.2
  cases k with
  | zero=>injection r1 with r1;exact over r1 r2
  | succ k =>
   obtain⟨o,w2,es,e1,_⟩:=hx _ ha.1;have hs:=h.st;have hdy:=h.gr.dy.1;have qd6:=h.gr.off.1;obtain⟨K,M,g,w,ρ,G,W⟩:=s;obtain⟨fr0,cs0,st0,dy0,qBs⟩:=g;dsimp only at hs hdy qd6 e1 r1;subst hs;subst hdy;subst qd6;exact runN_ended r1 (step_lone_ended (by rw[e1];rfl))
theorem qpe(main:Bool){c:Frame}{rest:List Frame}{s:St}(h:Inv P Fs (c::rest) [] Ro (Zc P R) K0 M0 s)(hm:s.g.frame.mode≠.run)(hd:s.g.frame.defers=[])(hc:s.g.callers=[c0 P]) :
  Co P main Ro (Qvh P Fs c rest Ro R K0 M0) s.M s.G s.W:=by
 obtain⟨κf,l,l',hf,x1,x2,x3⟩:=h.gr.fr
 have hl0:l=[]:=by
  rw[hc]at x1;exact List.append_cancel_right (bs:=[c0 P]) (by simpa using x1.symm)
 subst hl0
 have hd':s.G.frame.defers=[]:=by
  have:=hf.defers;rw[hd]at this;generalize s.G.frame.defers=q at this⊢;cases this;rfl
 have hkl:s.g.frame.kind=.normal/\l'=[]:=by
  revert x3
  generalize s.g.frame.kind=q;intro x3;cases x3;exact⟨rfl,rfl⟩
 obtain⟨hk,rfl⟩:=hkl;have hk':s.G.frame.kind=.normal:=hf.kind.trans hk;obtain⟨fn,hfn⟩:=hf.fs
 have over:∀τ,(∀d,d<s.w.drawn->τ d=s.ρ d)->∃v,R v (qg s.w τ)/\s.g.frame.leaving P (qg s.w τ) (.returned v):=by
  intro τ ha;obtain⟨k,w',fr,r1,v,r2,r3⟩:=h.run τ ha;rw[hc]at r1
  cases k with
  | zero =>
   injection r1 with r1;obtain⟨e1,_,e3⟩:=qae r1;subst e1;subst e3;exact⟨v,r2,r3⟩
  | succ k =>
   exfalso
   have jM:∀(x:Frame) (w1:World),(∃o w',step P (lone x [] w1)=.ended o w')->step P (lone s.g.frame [c0 P] (qg s.w τ))=.next (lone x [] w1)->False:=by
    intro x w1 ⟨o,w2,hx⟩ hs;have r:=qd2 r1 hs
    cases k with
    | zero =>
     injection r with r;have:=(qae r).2.1;cases this
    | succ k=>exact runN_ended r hx
   cases hmo:s.g.frame.mode with
   | run=>exact hm hmo
   | returning =>
    generalize hX:(results fn s.g.frame.tmps).runT P (qg s.w τ) #[]=X;obtain⟨r,es⟩:=X
    have e1:stepG P true {frame:=s.g.frame,callers:=[c0 P],status:=.running,dying:=none} (qg s.w τ)=GStep.after (seen P s.g.frame.fn es) (match r with
      | .ok v w=>doReturn P true s.g.frame [c0 P] none v w
      | .halt (.stuck q) w=>.ended (.stuck q (s.g.frame.pos P)) w
      | .halt _ w=>.ended (.stuck "return: the result variables cannot be read" (s.g.frame.pos P)) w):=by
     unfold stepG;simp only[hmo];unfold unwind;simp only[hd,hmo,hfn,hX]
     cases r with
     | ok v w1=>rfl
     | halt q w1=>cases q<;>rfl
    cases r with
    | ok v w1 =>
     refine jM (c0 P) w1 (qpd w1) (step_lone_go ?_);rw[e1];unfold doReturn;simp only[hk];rfl
    | halt q w1 =>
     have:∃o w2,(stepG P true {frame:=s.g.frame,callers:=[c0 P],status:=.running,dying:=none} (qg s.w τ)).bare=.ended o w2:=by
      rw[e1];cases q<;>exact⟨_,_,rfl⟩
     obtain⟨o,w2,e⟩:=this;exact runN_ended r1 (step_lone_ended e)
   | panicking chain =>
    have e1:stepG P true {frame:=s.g.frame,callers:=[c0 P],status:=.running,dying:=none} (qg s.w τ)=if s.g.frame.catches P then .ended (.unsupported (.noEntry "a panic or Goexit out of a method that fmt calls behind a cut's door") (s.g.frame.pos P)) (qg s.w τ)else .go {frame:=(c0 P).raise chain,callers:=[],status:=.running,dying:=none} (qg s.w τ):=by
     unfold stepG;simp only[hmo];unfold unwind;simp only[hd,hmo]
    split at e1
    ·exact runN_ended r1 (step_lone_ended (by rw[e1];rfl))
    ·exact jM _ _ (qfO chain _) (step_lone_go (by rw[e1];rfl))
 obtain⟨v0,hR0,hl0⟩:=over s.ρ (fun _ _=>rfl);have hmo:s.g.frame.mode=.returning:=hl0.1
 have qbN:s.G.frame.mode=.returning:=by
  have:=hf.mode;rw[hmo]at this;generalize s.G.frame.mode=m at this⊢;cases this;rfl
 have hGc:s.G.callers=c::rest:=by simpa using x2
 refine Co.step (by rw[h.gr.st];exact h.st) (fun W1 hr=>?_);have hw1:=h.wr.rely h.km hr;have qbd:∀b,s.M b->b<W1.heap.size:=fun b hb=>Nat.lt_of_lt_of_le (h.lt b hb) hr.size;obtain⟨n,τ,hx⟩:=(qeU (P:=P) fn hf.tmps).runT s.w W1 hw1 #[] #[];have ha:Alike τ (glue s.ρ τ s.w.drawn) s.w.drawn (s.w.drawn+n):=fun d h1 _=>qjA h1;obtain⟨v,hR,hl⟩:=over (glue s.ρ τ s.w.drawn) (fun d hd=>qg0 hd);obtain⟨_,_,_,fn2,qlE,qlF⟩:=hl;rw[hfn]at qlE;cases qlE
 have qcd:((results fn s.g.frame.tmps).runT P (qg s.w (glue s.ρ τ s.w.drawn)) #[]).1=.ok v (qg s.w (glue s.ρ τ s.w.drawn)):=by rw[Sem.runT_fst];exact qlF
 rcases hx with⟨r,es,a1,a2,a3⟩|hx
 ·have e:=a1 _ ha;dsimp only at e;rw[e]at qcd
  cases r with
  | halt q w1=>cases qcd
  | ok v2 w2 =>
   obtain⟨K',v',W2,e1,hv,hw2,hdd,he⟩:=a3
   have hv2:v2=v:=by injection qcd
   subst hv2
   have hhp:w2.heap=s.w.heap:=by
    injection qcd with _ hq;have:=congrArg World.heap hq;exact this
   have eG:stepG P main s.G W1=.go ⟨c.finish v',rest,.running,none,none⟩ W2 (seen P s.G.frame.fn ((results fn s.G.frame.tmps).runT P W1 #[]).2):=by
    have hst:=h.gr.st.trans h.st;have hdy:=h.gr.dy.2;have qd6:=h.gr.off.2;have qyi:s.G.frame.fn=s.g.frame.fn:=hf.fn;obtain⟨K,M,g,w,ρ,G,W⟩:=s;obtain⟨fr',cs',st',dy',j0⟩:=G;dsimp only at hst hdy qd6 hGc qbN hd' hk' qyi e1⊢;subst hst;subst hdy;subst qd6;subst hGc;unfold stepG;simp only[qbN];unfold unwind;simp only[hd',qbN,qyi,hfn];generalize hY:(results fn fr'.tmps).runT P W1 #[]=Y at e1⊢;obtain⟨r',es'⟩:=Y;dsimp only at e1;subst e1;unfold doReturn;simp only[hk',GStep.after,Array.append_empty]
   have qd5:=qew hw2 hdd h.km qbd (qaf (P:=P) s.G.frame.fn he);refine⟨⟨_,_,W2,_⟩,⟨eG,rfl,qd5⟩,Co.stop (fun W3 hr3=>?_)⟩;have km':∀a b,K'.B a b->(s.M b\/∃a,K'.B a b):=fun a b x=>.inr ⟨a,x⟩;have hw3:=hw2.rely km' hr3
   have hwk:WR P Ro K' (qg s.w (glue s.ρ τ s.w.drawn)) W3:=by
    refine⟨hw3.gl,?_,hw3.fn1,hw3.fn2,?_,?_,hw3.qaE,hw3.qbF,hw3.it,hw3.own,?_,hw3.qar,?_⟩
    ·have:=hw3.gs;rw[hhp]at this;exact this
    ·have:=hw3.obj;rw[hhp]at this;exact this
    ·have:=hw3.ro;rw[hhp]at this;exact this
    ·have:=hw3.itk;rw[hhp]at this;exact this
    ·have:=hw3.wm;rw[hhp]at this;exact this
   refine⟨K',_,v2,v',rfl,hv,hR,hwk,h.le.trans hdd.le,by rw[hdd.le.fs];exact h.fs,fun b hb=>.inl (h.m0 b hb),km',?_,fun b hb=>Nat.lt_of_lt_of_le (qd5.lt b hb) hr3.size⟩;rintro b (hb|hb)
   ·exact(h.mo b hb).imp id (fun⟨a,ha⟩=>⟨a,hdd.le.b _ _ ha⟩)
   ·exact .inr hb
 ·obtain⟨q,w2,e,_⟩:=hx _ ha;dsimp only at e;rw[qcd]at e;cases e
theorem qkN{P:Program}:∀(k:Nat) {m m1 m2:Machine},runN P k m=.next m1->step P m1=.next m2->runN P (k+1) m=.next m2
 | 0,m,m1,m2,h,hs=>by
  simp only[runN]at h⊢;injection h with h;subst h;rw[hs]
 | k+1,m,m1,m2,h,hs=>by
  cases hm:step P m with
  | ended o w=>simp only[runN,hm]at h;cases h
  | next m' =>
   simp only[runN,hm]at h;have:=qkN k h hs;rw[show runN P (k+1+1) m=runN P (k+1) m' by simp only[runN,hm]];exact this
def Qlz(P:Program)(Fs:FuncId->Bool)(bs:List Frame)(κ:List Item)(Ro:Nat->Prop)(Z:Frame->World->Prop)(E:Frame->Prop)(K0:Kr)(M0:Nat->Prop)(M:Nat->Prop)(G:Goroutine)(W:World):Prop :=
 ∃s:St,s.M=M/\s.G=G/\s.W=W/\Inv P Fs bs κ Ro Z K0 M0 s/\s.g.callers=[c0 P]/\E s.g.frame
theorem qiz(HG:Good P Fs)(main:Bool)(hE:QgZ κ E)(hZ:∀fr w,Z fr w->E fr){s:St}(h:Inv P Fs bs κ Ro Z K0 M0 s):Co P main Ro (Qlz P Fs bs κ Ro Z E K0 M0) s.M s.G s.W:=by
 classical
 refine Classical.byContradiction (fun hno=>?_)
 let StepR:St->St->Prop:=fun s s'=>s.w.drawn<=s'.w.drawn/\(∀d,d<s.w.drawn->s'.ρ d=s.ρ d) /\
   ∀τ,(∀d,d<s'.w.drawn->τ d=s'.ρ d)->step P (lone s.g.frame s.g.callers (qg s.w τ))=.next (lone s'.g.frame s'.g.callers (qg s'.w τ))
 have nxt:∀s:St,Inv P Fs bs κ Ro Z K0 M0 s->¬Co P main Ro (Qlz P Fs bs κ Ro Z E K0 M0) s.M s.G s.W->∃s',(Inv P Fs bs κ Ro Z K0 M0 s'/\¬Co P main Ro (Qlz P Fs bs κ Ro Z E K0 M0) s'.M s'.G s'.W)/\StepR s s':=by
  intro s hs hn;by_cases hl:s.g.callers=[c0 P]/\E s.g.frame
  ·exact absurd (.stop fun W1 hr=>⟨⟨s.K,s.M,s.g,s.w,s.ρ,s.G,W1⟩,rfl,rfl,rfl,hs.rely hr,hl.1,hl.2⟩) hn
  ·refine Classical.byContradiction (fun qQ=>hn (Co.step (by rw[hs.gr.st];exact hs.st) (fun W1 hr=>?_)));obtain⟨s',es,e1,e2,e3,e4,e5⟩:=qvi HG main hE hZ hs hl hr;refine Classical.byContradiction (fun hco=>qQ ⟨s',⟨e4,fun hx=>hco ⟨⟨s'.M,s'.G,s'.W,es⟩,⟨e1,e2,e3⟩,hx⟩⟩,e5⟩)
 let Bad:={s:St // Inv P Fs bs κ Ro Z K0 M0 s/\¬Co P main Ro (Qlz P Fs bs κ Ro Z E K0 M0) s.M s.G s.W}
 let f:Bad->Bad:=fun b=>⟨Classical.choose (nxt b.1 b.2.1 b.2.2),(Classical.choose_spec (nxt b.1 b.2.1 b.2.2)).1⟩
 have hf:∀b:Bad,StepR b.1 (f b).1:=fun b=>(Classical.choose_spec (nxt b.1 b.2.1 b.2.2)).2
 let sq:Nat->Bad:=fun n=>Nat.rec ⟨s,h,hno⟩ (fun _ b=>f b) n
 have hst:∀k,StepR (sq k).1 (sq (k+1)).1:=fun k=>hf (sq k)
 have mono:∀j k,(sq j).1.w.drawn<=(sq (j+k)).1.w.drawn/\∀d,d<(sq j).1.w.drawn->(sq (j+k)).1.ρ d=(sq j).1.ρ d:=by
  intro j k
  induction k with
  | zero=>exact⟨Nat.le_refl _,fun _ _=>rfl⟩
  | succ k ih =>
   have:=hst (j+k);refine⟨Nat.le_trans ih.1 this.1,fun d hd=>?_⟩;exact(this.2.1 d (Nat.lt_of_lt_of_le hd ih.1)).trans (ih.2 d hd)
 let τ:Nat->Question->Nat:=fun d=>if hx:∃k,d<(sq k).1.w.drawn then(sq (Classical.choose hx)).1.ρ d else s.ρ d
 have hτ:∀k d,d<(sq k).1.w.drawn->τ d=(sq k).1.ρ d:=by
  intro k d hd;have hx:∃k,d<(sq k).1.w.drawn:=⟨k,hd⟩
  have e:τ d=(sq (Classical.choose hx)).1.ρ d:=dif_pos hx;have hj:=Classical.choose_spec hx;rw[e];generalize Classical.choose hx=j at hj⊢;rcases Nat.le_total j k with hjk|hjk
  ·obtain⟨i,rfl⟩:=Nat.exists_eq_add_of_le hjk;exact((mono j i).2 d hj).symm
  ·obtain⟨i,rfl⟩:=Nat.exists_eq_add_of_le hjk;exact(mono k i).2 d hd
 have run:∀k,runN P k (lone s.g.frame s.g.callers (qg s.w τ))=.next (lone (sq k).1.g.frame (sq k).1.g.callers (qg (sq k).1.w τ)):=by
  intro k
  induction k with
  | zero=>rfl
  | succ k ih=>exact qkN k ih ((hst k).2.2 τ (hτ (k+1)))
 obtain⟨n,w',fr,r1,r2⟩:=h.run τ (fun d hd=>hτ 0 d hd);rw[run n]at r1;injection r1 with r1;obtain⟨e1,e2,_⟩:=qae r1;exact(sq n).2.2 (.stop fun W1 hr=>⟨⟨(sq n).1.K,(sq n).1.M,(sq n).1.g,(sq n).1.w,(sq n).1.ρ,(sq n).1.G,W1⟩,rfl,rfl,rfl,(sq n).2.1.rely hr,e2,by rw[show(sq n).1.g.frame=fr from e1];exact hZ _ _ r2⟩)
theorem qwS(HG:Good P Fs)(main:Bool){f:FuncId}(hf:Fs f=true)(hb:∃fn,P.funcs[f]?=some fn/\fn.body.isNone=false){K:Kr}(hK:K.Fs=fun f=>Fs f=true){w W:World}(hw:WR P Ro K w W){xs ys:Array Value}(ha:AV K xs ys)
  (hC:∀τ,Calls P f xs (qg w τ) (fun e w'=>∃v,e=.returned v/\R v w')) {M:Nat->Prop} (hM:∀a b,K.B a b->M b) (hlt:∀b,M b->b<W.heap.size) (c:Frame) (rest:List Frame) :
  Co P main Ro (Qvh P Fs c rest Ro R K M) M ⟨Frame.enter P f ys .normal,c::rest,.running,none,none⟩ W:=by
 have hE:QgZ [] (fun fr:Frame=>fr.mode≠.run/\fr.defers=[]):=fun fr hn=>by
  by_cases hm:fr.mode=.run
  ·exact .inl ⟨hm,.inr rfl⟩
  ·exact .inr ⟨hm,fun e=>hn ⟨hm,e⟩,rfl⟩
 have hI:Inv P Fs (c::rest) [] Ro (Zc P R) K M ⟨K,M,⟨Frame.enter P f xs .normal,[c0 P],.running,none,none⟩,w,w.tape,⟨Frame.enter P f ys .normal,c::rest,.running,none,none⟩,W⟩:=by
  refine⟨?_,rfl,hw,hM,hlt,hK,?_,Kr.le.refl _,fun _ h=>h,fun _ h=>.inl h⟩
  ·exact⟨⟨[],[],[],FrR.enter HG hf ha hb (.inl rfl),rfl,rfl,.nil⟩,rfl,⟨rfl,rfl⟩,rfl,rfl⟩
  ·intro τ _;obtain⟨e,w',fr,⟨v,rfl,hr⟩,hcm,_,hl⟩:=hC τ [c0 P];obtain⟨n,hn⟩:=hcm;exact⟨n,w',fr,hn,v,hr,hl⟩
 refine(qiz HG main hE (fun fr w ⟨v,_,hl⟩=>⟨by rw[hl.1];nofun,hl.2.1⟩) hI).bind (fun M' g' W' _ hs=>?_);obtain⟨s,rfl,rfl,rfl,h1,h2,h3⟩:=hs W' (QK.refl _ _);exact qpe main h1 h3.1 h3.2 h2
end
end Sim
namespace Tm
variable {l r:List UInt8}{c:UInt8}{ws:List (List UInt8)}{i k:Nat}
def digit(c:UInt8):Option Int :=
 if 48<=c.toNat/\c.toNat<=57 then some ((c.toNat:Int)-48)
 else if 97<=c.toNat/\c.toNat<=102 then some ((c.toNat:Int)-87)
 else none
def digits:List UInt8->Int->Int
 | [],n=>n
 | c::r,n=>match digit c with
  | some d=>digits r (16 * n+d)
  | none=>-1
def num(l:List UInt8):Int :=
 if l.length<1\/6<l.length\/(1<l.length/\l.head?=some 48)then -1 else digits l 0
theorem qjU(h:l.length<1\/6<l.length\/(1<l.length/\l.head?=some 48)):num l=-1:=by
 unfold num;rw[if_pos h]
theorem qvj(h:¬(l.length<1\/6<l.length\/(1<l.length/\l.head?=some 48))):num l=digits l 0:=by
 unfold num;rw[if_neg h]
theorem qkv(h:48<=(c.toNat:Int)/\(c.toNat:Int)<=57):digit c=some ((c.toNat:Int)-48):=by
 unfold digit;rw[if_pos (by omega)]
theorem qiV(h:97<=(c.toNat:Int)/\(c.toNat:Int)<=102):digit c=some ((c.toNat:Int)-87):=by
 unfold digit;rw[if_neg (by omega),if_pos (by omega)]
theorem qqa(h:¬(48<=(c.toNat:Int)/\(c.toNat:Int)<=57))(h':¬(97<=(c.toNat:Int)/\(c.toNat:Int)<=102)):digit c=none:=by
 unfold digit;rw[if_neg (by omega),if_neg (by omega)]
theorem qn3{n d:Int}(h:digit c=some d):digits (c::r) n=digits r (16 * n+d):=by
 simp[digits,h]
theorem qn2{n:Int}(h:digit c=none):digits (c::r) n=-1:=by
 simp[digits,h]
theorem qyG(k:Nat)(h:k<=6):(16:Int) ^ k<=16777216:=by
 have:∀k:Fin 7,(16:Int) ^ k.val<=16777216:=by decide
 exact this ⟨k,by omega⟩
theorem drop_cons(s:ByteArray)(k:Nat)(h:k<s.size):s.data.toList.drop k=s[k]::s.data.toList.drop (k+1):=by
 rw[List.drop_eq_getElem_cons (by simpa using h)];rfl
theorem qua(s:ByteArray)(k:Nat)(h:s.size<=k):s.data.toList.drop k=[] :=
 List.drop_eq_nil_of_le (by simpa using h)
def split(c:UInt8):List UInt8->List (List UInt8)
 | []=>[[]]
 | x::r=>if x=c then[]::split c r else match split c r with
  | []=>[[x]]
  | h::t=>(x::h)::t
def glue(p:List UInt8):List (List UInt8)->List (List UInt8)
 | []=>[p]
 | h::t=>(p++h)::t
theorem ql2(c:UInt8)(l:List UInt8):split c l≠[]:=by
 cases l with
 | nil=>simp[split]
 | cons x r =>
  unfold split;split
  ·simp
  ·split<;>simp
theorem qc3(c x:UInt8)(r:List UInt8):split c (x::r)=if x=c then[]::split c r else match split c r with
  | []=>[[x]]
  | h::t=>(x::h)::t:=rfl
structure El where
 p:Int
 s:Int
 t:Int
 v:Bool
def qaa(v:Bool):List (List UInt8)->Option El
 | [a,b,c]=>if(0<=num a/\0<=num b/\0<=num c)/\num a<=65535/\num b<=65535/\num c<=65535 then some ⟨num a,num b,num c,v⟩else none
 | _=>none
def elem:List UInt8->Option El
 | []=>qaa false (split 46 [])
 | x::r=>if x=42 then qaa true (split 46 r)else qaa false (split 46 (x::r))
theorem qnY{v:Bool}{l:List (List UInt8)}(h:l.length≠3):qaa v l=none:=by
 unfold qaa;split
 ·simp at h
 ·rfl
theorem qnt(c:UInt8)(l:List UInt8):∀x∈split c l,x.length<=l.length:=by
 induction l with
 | nil=>simp[split]
 | cons y r ih =>
  intro x hx;rw[qc3]at hx;split at hx
  ·rcases List.mem_cons.1 hx with rfl|h
   ·simp
   ·have:=ih x h;simp;omega
  ·cases hs:split c r with
   | nil=>exact absurd hs (ql2 c r)
   | cons a b =>
    rw[hs]at hx ih;rcases List.mem_cons.1 hx with rfl|h
    ·have:=ih a (by simp);simp;omega
    ·have:=ih x (by simp[h]);simp;omega
def zK(x:El):Bool:=(x.p != 0&&x.s == 0) || (x.s != 0&&x.t == 0) || (x.v&&x.p == 0) || decide (64256<=x.p)
structure Ln where
 kind:List UInt8
 qh:List Int
 els:List El
 num:Int
def qb8:List (List UInt8)->Option (List Int×Option (List (List UInt8)))
 | []=>some ([],none)
 | x::r=>if x=[61]then some ([],some r)else if num x<0\/1114111<num x then none else(qb8 r).map fun y=>(num x::y.1,y.2)
def zB:List (List UInt8)->Option (List El)
 | []=>some []
 | x::r=>match elem x with
  | none=>none
  | some e=>(zB r).map (e::·)
def fits(k:List UInt8)(rs:List Int)(n:Nat)(sign:Bool):Bool :=
 if k=[99]then !sign&&rs.length == 2&&decide (1<=rs.getD 1 0)&&decide (rs.getD 1 0<=254)
 else if k=[100]then !sign&&(rs.length == 2 || rs.length == 3)
 else if k=[119]then sign&&decide (1<=rs.length)&&decide (rs.length<=3)&&decide (1<=n)&&decide (n<=4)
 else false
def qC(at_:Int):List (List UInt8)->Option Ln
 | []=>none
 | k::r=>match qb8 r with
  | none=>none
  | some (rs,b)=>match zB (b.getD [])with
   | none=>none
   | some es=>if fits k rs es.length b.isSome then some ⟨k,rs,es,at_⟩else none
def parse(l:List UInt8)(at_:Int):Option Ln:=qC at_ (split 32 l)
def VQ(ws:List (List UInt8))(i k:Nat)(es:List El):Prop:=zB (ws.drop i)=(zB (ws.drop k)).map (es++·)
theorem Qn8(ws:List (List UInt8))(i:Nat):VQ ws i i []:=by
 unfold VQ;cases zB (ws.drop i)<;>simp
theorem Qml{es:List El}{e:El}(h:VQ ws i k es)(hk:k<ws.length)(h1:elem ws[k]=some e):VQ ws i (k+1) (es++[e]):=by
 unfold VQ at *;rw[h,List.drop_eq_getElem_cons hk]
 conv=>lhs;rw[zB]
 rw[h1];cases zB (ws.drop (k+1))<;>simp
theorem Qn9{es:List El}(h:VQ ws i k es)(hk:k<ws.length)(h1:elem ws[k]=none):zB (ws.drop i)=none:=by
 unfold VQ at h;rw[h,List.drop_eq_getElem_cons hk]
 conv=>lhs;rw[zB]
 rw[h1];rfl
theorem Qoa{es:List El}(h:VQ ws i k es)(hk:ws.length<=k):zB (ws.drop i)=some es:=by
 unfold VQ at h;rw[h,List.drop_eq_nil_of_le hk];simp[zB]
end Tm
namespace Tm
theorem qnU(c:UInt8)(l:List UInt8):(split c l).length<=l.length+1:=by
 induction l with
 | nil=>simp[split]
 | cons y r ih =>
  rw[qc3];split
  ·simp;omega
  ·cases hs:split c r with
   | nil=>simp
   | cons a b=>rw[hs]at ih;simp at *;omega
end Tm
namespace Tm
def clash(l o:Ln):Bool:=decide (o.kind=l.kind)&&((decide (l.kind=[119])&&decide (o.qh=l.qh)) || (!decide (l.kind=[119])&&(o.qh.getD 0 0 == l.qh.getD 0 0)))
def y6(lns:List Ln)(l:Ln):Bool:=lns.any (clash l)
def yW(r:Int)(o:Ln):Bool:=decide (o.kind=[100])&&(o.qh.getD 0 0 == r)
def parts(lns:List Ln)(r:Int):List Int:=match lns.find? (yW r)with
 | some o=>o.qh.tail
 | none=>[]
def vF(l:List Int)(o:Ln):Bool:=decide (o.kind=[119])&&decide (o.qh=l)
def yD(lns:List Ln)(l:List Int):Option (List El):=(lns.find? (vF l)).map (·.els)
def qrp(lns:List Ln)(r:Int):List Int:=if(parts lns r).length=0 then[r]else parts lns r
def qpf(lns:List Ln)(l:List Int):List Int:=l.flatMap (qrp lns)
def xp(lns:List Ln)(l:List Int):Bool:=l.any fun r=>!decide ((parts lns r).length=0)
def qlA(p:Int)(x:El):Bool:=!x.v&&x.p != 0&&decide (x.p<=p)
def qcz(lns:List Ln)(p:Int):Bool:=lns.any fun o=>o.els.any (qlA p)
def deep(lns:List Ln):Nat->List Int->Bool
 | 0,_=>true
 | n+1,l=>xp lns l&&deep lns n (qpf lns l)
def vP(lns:List Ln)(o:Ln):Bool:=decide (o.kind=[100])&&deep lns 5 [o.qh.getD 0 0]
def vB(lns:List Ln)(o:Ln):Bool:=decide (o.kind=[119])&&(xp lns o.qh || (decide (o.qh.length=3)&&(yD lns (o.qh.take 2)).isNone))
def xf(lns:List Ln)(o:Ln):Bool:=o.els.any fun x=>x.v&&qcz lns x.p
def together(lns:List Ln):Int×Int:=match lns.find? (vP lns)with
 | some o=>(o.num,3)
 | none=>match lns.find? (vB lns)with
  | some o=>(o.num,5)
  | none=>match lns.find? (xf lns)with
   | some o=>(o.num,4)
   | none=>(0,0)
def qF:List Ln->Int->List (List UInt8)->List Ln×Option (Int×Int)
 | lns,_,[]=>(lns,none)
 | lns,n,x::r=>if x.head?=none\/x.head?=some 35 then qF lns (n+1) r else match parse x n with
  | none=>(lns,some (n,1))
  | some l=>if y6 lns l then(lns,some (n,2))else if l.els.any zK then(lns,some (n,4))else qF (lns++[l]) (n+1) r
def zH(table:List UInt8)(qnu:Int):List Ln×Int×Int :=
 if qnu<1\/4<qnu then([],0,6)
 else if 8192<table.length then([],0,7)
 else match qF [] 1 (split 10 table)with
  | (lns,some (n,e))=>(lns,n,e)
  | (lns,none)=>(lns,(together lns).1,(together lns).2)
end Tm
namespace Tm
variable {n:Int}{x t:List UInt8}{r:List (List UInt8)}
structure Good(l:Ln):Prop where
 some:l.qh≠[]
 few:l.qh.length<=3
 els:l.els.length<=4
theorem qjL{lns:List Ln}(h:x.head?=none\/x.head?=some 35):qF lns n (x::r)=qF lns (n+1) r:=by
 rw[qF,if_pos h]
theorem qk5{lns:List Ln}(h:¬(x.head?=none\/x.head?=some 35))(hp:parse x n=none):qF lns n (x::r)=(lns,some (n,1)):=by
 rw[qF,if_neg h,hp]
theorem qiL{lns:List Ln}{l:Ln}(h:¬(x.head?=none\/x.head?=some 35))(hp:parse x n=some l)(ht:y6 lns l=true):qF lns n (x::r)=(lns,some (n,2)):=by
 rw[qF,if_neg h,hp];simp[ht]
theorem qiM{lns:List Ln}{l:Ln}(h:¬(x.head?=none\/x.head?=some 35))(hp:parse x n=some l)(ht:y6 lns l=false)(hg:l.els.any zK=true):qF lns n (x::r)=(lns,some (n,4)):=by
 rw[qF,if_neg h,hp];simp only[ht,hg];simp
theorem ql4{lns:List Ln}{l:Ln}(h:¬(x.head?=none\/x.head?=some 35))(hp:parse x n=some l)(ht:y6 lns l=false)(hg:l.els.any zK=false):qF lns n (x::r)=qF (lns++[l]) (n+1) r:=by
 rw[qF,if_neg h,hp];simp only[ht,hg];simp
theorem qiT{s:Int}(h:s<1\/4<s):zH t s=([],0,6):=by unfold zH;rw[if_pos h]
theorem qlb{s:Int}(h:¬(s<1\/4<s))(h2:8192<t.length):zH t s=([],0,7):=by unfold zH;rw[if_neg h,if_pos h2]
end Tm
namespace Tm
variable {x k:List UInt8}{ws b a:List (List UInt8)}{n r:Int}
def zN(x:List UInt8):Bool:=decide (0<=num x/\num x<=1114111)
theorem qfy:zN x=false↔(num x<0\/1114111<num x):=by
 unfold zN;rw[decide_eq_false_iff_not];omega
theorem qjm:zN x=true↔¬(num x<0\/1114111<num x):=by
 unfold zN;rw[decide_eq_true_iff];omega
theorem qvk:num [61]=-1:=by decide
theorem qoD:zN [61]=false:=by rw[qfy,qvk];omega
theorem qfP(ws:List (List UInt8))(h: [61] ∉ ws):qb8 ws=if ws.all zN then some (ws.map num,none)else none:=by
 induction ws with
 | nil=>rfl
 | cons x r ih =>
  have h1:x≠[61]:=fun e=>h (by simp[e]);have h2: [61] ∉ r:=fun e=>h (by simp[e]);rw[qb8,if_neg h1,ih h2];cases hx:zN x
  ·rw[if_pos (qfy.1 hx)];simp[hx]
  ·rw[if_neg (qjm.1 hx)];cases hr:r.all zN<;>simp[hx,hr]
theorem qgO(a b:List (List UInt8))(h: [61] ∉ a):qb8 (a++[61]::b)=if a.all zN then some (a.map num,some b)else none:=by
 induction a with
 | nil=>simp[qb8]
 | cons x r ih =>
  have h1:x≠[61]:=fun e=>h (by simp[e]);have h2: [61] ∉ r:=fun e=>h (by simp[e]);rw[List.cons_append,qb8,if_neg h1,ih h2];cases hx:zN x
  ·rw[if_pos (qfy.1 hx)];simp[hx]
  ·rw[if_neg (qjm.1 hx)];cases hr:r.all zN<;>simp[hx,hr]
theorem qoW(h: [61]∈ws):∃a b,ws=a++[61]::b/\[61] ∉ a:=by
 induction ws with
 | nil=>cases h
 | cons x r ih =>
  by_cases hx:x=[61]
  ·exact⟨[],r,by simp[hx],by simp⟩
  ·rcases List.mem_cons.1 h with e|e
   ·exact absurd e.symm hx
   ·obtain⟨a,b,rfl,hb⟩:=ih e;refine⟨x::a,b,rfl,?_⟩;intro hm;rcases List.mem_cons.1 hm with e|e
    ·exact hx e.symm
    ·exact hb e
theorem qoE{rs:List Int}{n:Nat}(hk:k≠[119]):fits k rs n true=false:=by
 unfold fits;split
 ·simp
 ·split
  ·simp
  ·first|rfl|rw[if_neg hk]
theorem qai{n:Int}{ws:List (List UInt8)}(hk:k≠[119]) :
  qC n (k::ws)=if ws.all zN&&fits k (ws.map num) 0 false then some ⟨k,ws.map num,[],n⟩else none:=by
 by_cases hs: [61]∈ws
 ·have qQ:ws.all zN=false:=by
   rw[List.all_eq_false];exact⟨_,hs,by simp[qoD]⟩
  rw[qQ];obtain⟨a,b,rfl,hb⟩:=qoW hs;simp only[qC,qgO a b hb];by_cases ha:a.all zN=true
  ·rw[if_pos ha]
   cases he:zB b with
   | none=>simp[he]
   | some es=>simp[he,qoE hk]
  ·rw[if_neg ha];simp
 ·simp only[qC,qfP ws hs];by_cases ha:ws.all zN=true
  ·rw[if_pos ha];simp[ha,zB]
  ·rw[if_neg ha];simp[ha]
theorem qeP{es:List El}(h:zB b=some es):es.length=b.length:=by
 induction b generalizing es with
 | nil=>simp[zB]at h;subst h;rfl
 | cons x r ih =>
  rw[zB]at h
  cases hx:elem x with
  | none=>rw[hx]at h;cases h
  | some e =>
   rw[hx]at h
   cases hr:zB r with
   | none=>rw[hr]at h;cases h
   | some q=>rw[hr]at h;simp at h;subst h;simp[ih hr]
theorem qez(h: [61] ∉ ws):qC n ([119]::ws)=none:=by
 simp only[qC,qfP ws h];by_cases ha:ws.all zN=true
 ·rw[if_pos ha];simp[zB,fits]
 ·rw[if_neg ha]
theorem qhj(h: [61] ∉ a):qC n ([119]::(a++[61]::b)) =
  if a.all zN=true/\1<=a.length/\a.length<=3/\1<=b.length/\b.length<=4 then(zB b).map fun es=>⟨[119],a.map num,es,n⟩else none:=by
 simp only[qC,qgO a b h];by_cases ha:a.all zN=true
 ·rw[if_pos ha]
  cases he:zB b with
  | none=>simp[he]
  | some es =>
   have hl:=qeP he;simp only[Option.getD_some,he,Option.map_some,ha,true_and]
   have:fits [119] (a.map num) es.length (Option.isSome (some b))=decide (1<=a.length/\a.length<=3/\1<=b.length/\b.length<=4):=by
    simp[fits,hl,Bool.and_assoc]
   rw[this];by_cases hd:1<=a.length/\a.length<=3/\1<=b.length/\b.length<=4
   ·simp[hd]
   ·rw[if_neg (by simpa using hd),if_neg hd]
 ·rw[if_neg ha,if_neg (fun h=>ha h.1)]
structure Fit(o:Ln):Prop where
 kinds:(o.kind=[99]/\o.qh.length=2/\1<=o.qh.getD 1 0/\o.els=[])\/(o.kind=[100]/\2<=o.qh.length/\o.els=[])\/(o.kind=[119]/\o.els≠[])
 some:o.qh≠[]
 few:o.qh.length<=3
 els:o.els.length<=4
 rune:∀r∈o.qh,0<=r/\r<=1114111
 weight:∀e∈o.els,(0<=e.p/\e.p<=65535)/\(0<=e.s/\e.s<=65535)/\(0<=e.t/\e.t<=65535)
theorem qdM(h:ws.all zN=true):∀r∈ws.map num,0<=r/\r<=1114111:=by
 intro r hr;obtain⟨x,hx,rfl⟩:=List.mem_map.1 hr;have:=(List.all_eq_true.1 h) x hx;simpa[zN]using this
theorem qhH{v:Bool}{l:List (List UInt8)}{e:El}(h:qaa v l=some e):(0<=e.p/\e.p<=65535)/\(0<=e.s/\e.s<=65535)/\(0<=e.t/\e.t<=65535):=by
 unfold qaa at h;split at h
 ·split at h
  ·cases h;simp only;omega
  ·cases h
 ·cases h
theorem qrq{e:El}(h:elem x=some e):(0<=e.p/\e.p<=65535)/\(0<=e.s/\e.s<=65535)/\(0<=e.t/\e.t<=65535):=by
 unfold elem at h;split at h
 ·exact qhH h
 ·split at h<;>exact qhH h
theorem qls{es:List El}(h:zB b=some es):∀e∈es,(0<=e.p/\e.p<=65535)/\(0<=e.s/\e.s<=65535)/\(0<=e.t/\e.t<=65535):=by
 induction b generalizing es with
 | nil=>simp[zB]at h;subst h;simp
 | cons x r ih =>
  rw[zB]at h
  cases hx:elem x with
  | none=>rw[hx]at h;cases h
  | some e =>
   rw[hx]at h
   cases hr:zB r with
   | none=>rw[hr]at h;cases h
   | some q =>
    rw[hr]at h;simp at h;subst h;intro y hy;rcases List.mem_cons.1 hy with rfl|hy
    ·exact qrq hx
    ·exact ih hr y hy
theorem qsi{a b:List UInt8}(ha:zN a=true)(hb:zN b=true)(h1:1<=num b):Fit ⟨[99],[num a,num b],[],n⟩ :=
 ⟨.inl ⟨rfl,rfl,h1,rfl⟩,by simp,by simp,by simp,qdM (ws:=[a,b]) (by simp[ha,hb]),by simp⟩
theorem qrW(ha:ws.all zN=true)(h:ws.length=2\/ws.length=3):Fit ⟨[100],ws.map num,[],n⟩ :=
 ⟨.inr (.inl ⟨rfl,by simp;omega,rfl⟩),by intro e;simp at e;subst e;simp at h,by simp;omega,by simp,qdM ha,by simp⟩
theorem qrV{es:List El}(ha:a.all zN=true)(h1:1<=a.length)(h2:a.length<=3)(h3:1<=b.length)(h4:b.length<=4)(he:zB b=some es):Fit ⟨[119],a.map num,es,n⟩:=by
 have hl:=qeP he;refine⟨.inr (.inr ⟨rfl,?_⟩),?_,by simpa using h2,by simp;omega,qdM ha,qls he⟩
 ·intro e;simp at e;subst e;simp at hl;omega
 ·intro e;simp at e;subst e;simp at h1
def isClass(r:Int)(o:Ln):Bool:=decide (o.kind=[99])&&(o.qh.getD 0 0 == r)
def qd(lns:List Ln)(r:Int):Int:=match lns.find? (isClass r)with
 | some o=>o.qh.getD 1 0
 | none=>0
def xA(r:Int)(o:Ln):Bool:=decide (o.kind=[119])&&(o.qh.getD 0 0 == r)
def qI(lns:List Ln)(r:Int):List Ln:=lns.filter (xA r)
def zo(lns:List Ln):List Ln:=lns.filter fun o=>decide (o.kind=[100])
def zi(lns:List Ln):List Ln:=lns.filter fun o=>decide (o.kind=[119])
theorem qkO{p:Ln->Bool}{lns:List Ln}{l:Ln}:(lns++[l]).find? p=match lns.find? p with
  | some o=>some o
  | none=>if p l then some l else none:=by
 rw[List.find?_append];cases lns.find? p<;>simp[List.find?_cons]<;>cases p l<;>rfl
theorem qbh{lns:List Ln}{l:Ln}:qd (lns++[l]) r=if(lns.find? (isClass r)).isNone/\isClass r l=true then l.qh.getD 1 0 else qd lns r:=by
 unfold qd;rw[qkO]
 cases lns.find? (isClass r)with
 | some o=>simp
 | none=>cases isClass r l<;>simp
theorem qcQ{lns:List Ln}{l:Ln}:parts (lns++[l]) r=if(lns.find? (yW r)).isNone/\yW r l=true then l.qh.tail else parts lns r:=by
 unfold parts;rw[qkO]
 cases lns.find? (yW r)with
 | some o=>simp
 | none=>cases yW r l<;>simp
theorem qcf{lns:List Ln}{l:Ln}:qI (lns++[l]) r=if xA r l then qI lns r++[l]else qI lns r:=by
 unfold qI;rw[List.filter_append];cases h:xA r l<;>simp[h]
theorem qd9{lns:List Ln}{l:Ln}:zo (lns++[l])=if l.kind=[100]then zo lns++[l]else zo lns:=by
 unfold zo;rw[List.filter_append];by_cases h:l.kind=[100]<;>simp[h]
theorem qea{lns:List Ln}{l:Ln}:zi (lns++[l])=if l.kind=[119]then zi lns++[l]else zi lns:=by
 unfold zi;rw[List.filter_append];by_cases h:l.kind=[119]<;>simp[h]
theorem qn6{lns:List Ln}(hf:∀o∈lns,Fit o){l:Ln}(hk:l.kind=[99]):y6 lns l=(qd lns (l.qh.getD 0 0) != 0):=by
 have e:y6 lns l=lns.any (isClass (l.qh.getD 0 0)):=by
  unfold y6
  congr 1
  funext o
  simp[clash,isClass,hk]
 rw[e];unfold qd
 cases h:lns.find? (isClass (l.qh.getD 0 0))with
 | none =>
  have:=List.find?_eq_none.1 h;simp only[bne_self_eq_false];rw[List.any_eq_false];exact this
 | some o =>
  have hm:=List.mem_of_find?_eq_some h;have hp:=List.find?_some h
  have h1:1<=o.qh.getD 1 0:=by
   simp only[isClass,Bool.and_eq_true,decide_eq_true_eq]at hp;rcases(hf o hm).kinds with⟨_,_,h,_⟩|⟨h,_⟩|⟨h,_⟩
   ·exact h
   ·rw[hp.1]at h;simp at h
   ·rw[hp.1]at h;simp at h
  have:lns.any (isClass (l.qh.getD 0 0))=true:=List.any_eq_true.2 ⟨o,hm,hp⟩;rw[this]
  symm
  rw[bne_iff_ne];simp only;omega
theorem qpC{lns:List Ln}(hf:∀o∈lns,Fit o)(h:qd lns r=0):(lns.find? (isClass r)).isNone=true:=by
 unfold qd at h
 cases hx:lns.find? (isClass r)with
 | none=>rfl
 | some o =>
  rw[hx]at h;simp only at h;have hm:=List.mem_of_find?_eq_some hx;have hp:=List.find?_some hx;simp only[isClass,Bool.and_eq_true,decide_eq_true_eq]at hp;rcases(hf o hm).kinds with⟨_,_,h',_⟩|⟨h',_⟩|⟨h',_⟩
  ·omega
  ·rw[hp.1]at h';simp at h'
  ·rw[hp.1]at h';simp at h'
theorem qeX{lns:List Ln}(hf:∀o∈lns,Fit o)(h:(parts lns r).length=0):(lns.find? (yW r)).isNone=true:=by
 unfold parts at h
 cases hx:lns.find? (yW r)with
 | none=>rfl
 | some o =>
  rw[hx]at h;simp only[List.length_tail]at h;have hm:=List.mem_of_find?_eq_some hx;have hp:=List.find?_some hx;simp only[yW,Bool.and_eq_true,decide_eq_true_eq]at hp;rcases(hf o hm).kinds with⟨h',_⟩|⟨h',h2,_⟩|⟨h',_⟩
  ·rw[hp.1]at h';simp at h'
  ·omega
  ·rw[hp.1]at h';simp at h'
theorem qnS{lns:List Ln}(hf:∀o∈lns,Fit o){l:Ln}(hk:l.kind=[100]):y6 lns l=decide (0<(parts lns (l.qh.getD 0 0)).length):=by
 have e:y6 lns l=lns.any (yW (l.qh.getD 0 0)):=by
  unfold y6
  congr 1
  funext o
  simp[clash,yW,hk]
 rw[e];by_cases h0:(parts lns (l.qh.getD 0 0)).length=0
 ·have:=qeX hf h0;rw[Option.isNone_iff_eq_none,List.find?_eq_none]at this
  have e1:lns.any (yW (l.qh.getD 0 0))=false:=by rw[List.any_eq_false];exact this
  rw[e1,h0];rfl
 ·have e2:decide (0<(parts lns (l.qh.getD 0 0)).length)=true:=by rw[decide_eq_true_iff];omega
  rw[e2];unfold parts at h0
  cases hx:lns.find? (yW (l.qh.getD 0 0))with
  | none=>rw[hx]at h0;simp at h0
  | some o=>exact List.any_eq_true.2 ⟨o,List.mem_of_find?_eq_some hx,List.find?_some hx⟩
theorem qnR{lns:List Ln}{l:Ln}(hk:l.kind=[119]):y6 lns l=(qI lns (l.qh.getD 0 0)).any fun o=>decide (o.qh=l.qh):=by
 unfold y6 qI;rw[List.any_filter]
 congr 1
 funext o
 simp only[clash,xA,hk];by_cases h1:o.kind=[119]
 ·by_cases h2:o.qh=l.qh
  ·simp[h1,h2]
  ·simp[h1,h2]
 ·simp[h1]
def ends(lns:List Ln):Nat->Int->Bool
 | 0,r=>decide ((parts lns r).length=0)
 | n+1,r=>decide ((parts lns r).length=0) || (parts lns r).all (ends lns n)
theorem qkz{lns:List Ln}{n:Nat}(h:(parts lns r).length=0):ends lns n r=true:=by
 cases n<;>simp[ends,h]
theorem qkP(lns:List Ln):∀(n:Nat) (l:List Int),deep lns (n+1) l=l.any fun r=>!ends lns n r
 | 0,l=>by simp[deep,xp,ends]
 | n+1,l=>by
  rw[deep,qkP lns n];rw[Bool.eq_iff_iff];simp only[Bool.and_eq_true,List.any_eq_true,xp,qpf,List.mem_flatMap];constructor
  ·rintro⟨_,r',⟨r,hr,hr'⟩,he⟩;refine⟨r,hr,?_⟩;unfold qrp at hr';split at hr'
   ·rename_i h0;simp at hr';subst hr';rw[qkz h0]at he;cases he
   ·rename_i h0;rw[ends];simp[h0];exact⟨r',hr',by simpa using he⟩
  ·rintro⟨r,hr,he⟩;rw[ends]at he;simp at he;obtain⟨h0,r',hr',he'⟩:=he
   have h0':¬(parts lns r).length=0:=by simpa using h0
   refine⟨⟨r,hr,by simp[h0]⟩,r',⟨r,hr,?_⟩,by simpa using he'⟩;unfold qrp;rw[if_neg h0'];exact hr'
theorem qgd(lns:List Ln)(o:Ln):vP lns o=(decide (o.kind=[100])&&!ends lns 4 (o.qh.getD 0 0)):=by
 unfold vP;rw[qkP lns 4];simp
end Tm
namespace Tm
def x8(m:Int)(x:El):Int:=if !x.v&&x.p != 0 then min m x.p else m
def xo(els:List El)(m:Int):Int:=els.foldl x8 m
def xn(ls:List Ln)(m:Int):Int:=ls.foldl (fun m o=>xo o.els m) m
theorem qrr(m p:Int)(x:El):x8 m x<=p↔m<=p\/qlA p x=true:=by
 unfold x8 qlA;cases x.v
 ·cases h:(x.p != 0)
  ·simp
  ·simp;omega
 ·simp
theorem qoF(els:List El)(m p:Int):xo els m<=p↔m<=p\/els.any (qlA p)=true:=by
 induction els generalizing m with
 | nil=>simp[xo]
 | cons x r ih =>
  have:xo (x::r) m=xo r (x8 m x):=rfl;rw[this,ih,qrr,List.any_cons,Bool.or_eq_true,or_assoc]
theorem qoG(ls:List Ln)(m p:Int):xn ls m<=p↔m<=p\/qcz ls p=true:=by
 induction ls generalizing m with
 | nil=>simp[xn,qcz]
 | cons o r ih =>
  have:xn (o::r) m=xn r (xo o.els m):=rfl;rw[this,ih,qoF];unfold qcz;rw[List.any_cons,Bool.or_eq_true,or_assoc]
theorem qk8{els:List El}{k:Nat}{m:Int}(h:k<els.length):xo (els.take (k+1)) m=x8 (xo (els.take k) m) els[k]:=by
 unfold xo;rw[List.take_succ_eq_append_getElem h,List.foldl_append];rfl
theorem qk7{ls:List Ln}{k:Nat}{m:Int}(h:k<ls.length):xn (ls.take (k+1)) m=xo ls[k].els (xn (ls.take k) m):=by
 unfold xn;rw[List.take_succ_eq_append_getElem h,List.foldl_append];rfl
theorem qnv{o:Ln}(h:Fit o)(hk:o.kind≠[119]):o.els=[]:=by
 rcases h.kinds with⟨_,_,_,h⟩|⟨_,_,h⟩|⟨h,_⟩
 ·exact h
 ·exact h
 ·exact absurd h hk
theorem qvl{lns:List Ln}(hf:∀o∈lns,Fit o)(p:Int):qcz (zi lns) p=qcz lns p:=by
 unfold qcz zi;rw[List.any_filter,Bool.eq_iff_iff];simp only[List.any_eq_true,Bool.and_eq_true,decide_eq_true_eq];constructor
 ·rintro⟨o,ho,_,x,hx⟩;exact⟨o,ho,x,hx⟩
 ·rintro⟨o,ho,x,hx⟩;refine⟨o,ho,?_,x,hx⟩;apply Classical.byContradiction;intro hk;rw[qnv (hf o ho) hk]at hx;cases hx.1
def bound(lns:List Ln):Int:=xn (zi lns) 65536
theorem qnw{lns:List Ln}(hf:∀o∈lns,Fit o){p:Int}(hp:p<=65535):decide (bound lns<=p)=qcz lns p:=by
 rw[Bool.eq_iff_iff,decide_eq_true_iff];unfold bound;rw[qoG,qvl hf];constructor
 ·rintro(h|h)
  ·omega
  ·exact h
 ·exact .inr
def xG(b:Int)(x:El):Bool:=x.v&&decide (b<=x.p)
theorem qte{l:List Ln}{p q:Ln->Bool}(h:∀o∈l,p o=q o):l.find? p=l.find? q:=by
 induction l with
 | nil=>rfl
 | cons a r ih =>
  rw[List.find?_cons,List.find?_cons,h a (by simp),ih (fun o ho=>h o (by simp[ho]))]
theorem qrZ{lns:List Ln}(hf:∀o∈lns,Fit o):(zi lns).find? (fun o=>o.els.any (xG (bound lns)))=lns.find? (xf lns):=by
 unfold zi;rw[List.find?_filter];refine qte fun o ho=>?_
 have e:o.els.any (xG (bound lns))=xf lns o:=by
  unfold xf;rw[Bool.eq_iff_iff];simp only[List.any_eq_true];constructor
  ·rintro⟨x,hx,h⟩;refine⟨x,hx,?_⟩;unfold xG at h;rw[qnw hf ((hf o ho).weight x hx).1.2]at h;exact h
  ·rintro⟨x,hx,h⟩;refine⟨x,hx,?_⟩;unfold xG;rw[qnw hf ((hf o ho).weight x hx).1.2];exact h
 rw[e];by_cases hk:o.kind=[119]
 ·simp[hk]
 ·have:xf lns o=false:=by unfold xf;rw[qnv (hf o ho) hk];rfl
  simp[hk,this]
