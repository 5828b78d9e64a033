import Derived.Conc.Events
namespace Go.Proofs.YtmnjjjhmnhfapaaGreatDoor
namespace Sim
variable {xs ys:Array Value}{x y:Value}{α:Type}{P:Program}
structure Kr where
 B:Nat->Nat->Prop
 It:Nat->Prop
 Own:Nat->Prop
 Fs:FuncId->Prop
structure Kr.le(K K':Kr):Prop where
 b:∀a b,K.B a b->K'.B a b
 it:∀r,K.It r->K'.It r
 own:∀r,K.Own r->K'.Own r
 fs:K'.Fs=K.Fs
 nit:∀a b,K.B a b->K'.It b->K.It b
theorem Kr.le.refl(K:Kr):K.le K:=⟨fun _ _ h=>h,fun _ h=>h,fun _ h=>h,rfl,fun _ _ _ h=>h⟩
theorem Kr.le.trans{K K' K'':Kr}(h:K.le K')(k:K'.le K''):K.le K'':=⟨fun a b x=>k.b a b (h.b a b x),fun r x=>k.it r (h.it r x),fun r x=>k.own r (h.own r x),k.fs.trans h.fs,fun a b x y=>h.nit a b x (k.nit a b (h.b a b x) y)⟩
structure AR(K:Kr)(a b:Addr):Prop where
 block:K.B a.block b.block
 off:b.off=a.off
 spot:b.spot=a.spot
theorem AR.mono{K K':Kr}(h:K.le K'){a b:Addr}(x:AR K a b):AR K' a b:=⟨h.b _ _ x.block,x.off,x.spot⟩
theorem AR.add{K:Kr}{a b:Addr}(x:AR K a b)(n:Nat):AR K (a.add n) (b.add n):=by
 unfold Addr.add;split
 ·exact x
 ·exact⟨x.block,by simp[x.off],rfl⟩
inductive FnR(K:Kr):Fn->Fn->Prop
 | func (f:FuncId):K.Fs (1000000+f)->FnR K (.func f) (.func f)
def qv8:Value->Bool
 | .agg _|.bool _|.pointer none|.nilIface|.nilFunc|.func (.method _) _ _=>false
 | _=>true
theorem qoJ{v:Value}(h:qv8 v=true):v.cells=#[v]:=by cases v<;>first|rfl|cases h
inductive VR(K:Kr):Value->Value->Prop
 | bool (b:Bool):VR K (.bool b) (.bool b)
 | int (k:IntKind) (n:Int):VR K (.int k n) (.int k n)
 | string (s:ByteArray):VR K (.string s) (.string s)
 | ptr0:VR K (.pointer none) (.pointer none)
 | ptr (a b:Addr):AR K a b->VR K (.pointer (some a)) (.pointer (some b))
 | slice0 (n c:Nat):VR K (.slice none n c) (.slice none n c)
 | slice (a b:Addr) (n c:Nat):AR K a b->VR K (.slice (some a) n c) (.slice (some b) n c)
 | map0:VR K (.map none) (.map none)
 | map (a b:Nat):K.B a b->VR K (.map (some a)) (.map (some b))
 | chan0:VR K (.chan none) (.chan none)
 | chan (a b:Nat):K.B a b->VR K (.chan (some a)) (.chan (some b))
 | func (f g:Fn) (xs ys us vs:Array Value):FnR K f g->xs.size=ys.size->(∀(i:Nat) (x y:Value),xs[i]?=some x->ys[i]?=some y->VR K x y)->us.size=vs.size->(∀(i:Nat) (x y:Value),us[i]?=some x->vs[i]?=some y->VR K x y)->VR K (.func f xs us) (.func g ys vs)
 | nilFunc:VR K .nilFunc .nilFunc
 | iface (t:TypeId) (x y:Value):VR K x y->VR K (.iface t x) (.iface t y)
 | nilIface:VR K .nilIface .nilIface
 | agg (xs ys:Array Value):xs.size=ys.size->(∀(i:Nat) (x y:Value),xs[i]?=some x->ys[i]?=some y->VR K x y)->VR K (.agg xs) (.agg ys)
 | tuple (xs ys:Array Value):xs.size=ys.size->(∀(i:Nat) (x y:Value),xs[i]?=some x->ys[i]?=some y->VR K x y)->VR K (.tuple xs) (.tuple ys)
 | junk (v:Value):qv8 v=true->VR K (.tuple #[]) v
 | junkF (n:String) (ys vs:Array Value):VR K (.func (.method "") #[.iface 0 (.tuple #[])] #[]) (.func (.method n) ys vs)
theorem FnR.mono{K K':Kr}(h:K.le K'){f g:Fn}(x:FnR K f g):FnR K' f g:=by
 cases x with
 | func f hf=>exact .func f (by rw[h.fs];exact hf)
theorem VR.mono{K K':Kr}(h:K.le K'){x y:Value}(v:VR K x y):VR K' x y:=by
 induction v with
 | bool b=>exact .bool b
 | int k n=>exact .int k n
 | string s=>exact .string s
 | ptr0=>exact .ptr0
 | ptr a b e=>exact .ptr a b (e.mono h)
 | slice0 n c=>exact .slice0 n c
 | slice a b n c e=>exact .slice a b n c (e.mono h)
 | map0=>exact .map0
 | map a b e=>exact .map a b (h.b _ _ e)
 | chan0=>exact .chan0
 | chan a b e=>exact .chan a b (h.b _ _ e)
 | func f g xs ys us vs e h1 _ h2 _ i1 i2=>exact .func f g xs ys us vs (e.mono h) h1 i1 h2 i2
 | nilFunc=>exact .nilFunc
 | iface t x y _ ih=>exact .iface t x y ih
 | nilIface=>exact .nilIface
 | agg xs ys h1 _ ih=>exact .agg xs ys h1 ih
 | tuple xs ys h1 _ ih=>exact .tuple xs ys h1 ih
 | junk v h1=>exact .junk v h1
 | junkF n ys vs=>exact .junkF n ys vs
structure AV(K:Kr)(xs ys:Array Value):Prop where
 size:xs.size=ys.size
 el:∀(i:Nat) (x y:Value),xs[i]?=some x->ys[i]?=some y->VR K x y
theorem AV.mono{K K':Kr}(h:K.le K')(v:AV K xs ys):AV K' xs ys:=⟨v.size,fun i x y h1 h2=>(v.el i x y h1 h2).mono h⟩
theorem AV.get?{K:Kr}(v:AV K xs ys)(i:Nat):(xs[i]?=none/\ys[i]?=none)\/∃x y,xs[i]?=some x/\ys[i]?=some y/\VR K x y:=by
 have hs:=v.size;by_cases h:i<xs.size
 ·have h1:xs[i]?=some xs[i]:=Array.getElem?_eq_getElem h;have h2:ys[i]?=some (ys[i]'(by omega)):=Array.getElem?_eq_getElem (by omega);exact .inr ⟨_,_,h1,h2,v.el i _ _ h1 h2⟩
 ·exact .inl ⟨Array.getElem?_eq_none (by omega),Array.getElem?_eq_none (by omega)⟩
theorem AV.getD{K:Kr}(v:AV K xs ys)(i:Nat){d e:Value}(hd:VR K d e):VR K (xs.getD i d) (ys.getD i e):=by
 rcases v.get? i with⟨h1,h2⟩|⟨x,y,h1,h2,h⟩
 ·simpa[Array.getD_eq_getD_getElem?,h1,h2]using hd
 ·simpa[Array.getD_eq_getD_getElem?,h1,h2]using h
theorem AV.empty(K:Kr):AV K #[] #[]:=⟨rfl,fun i x y h=>by simp at h⟩
theorem AV.push{K:Kr}(v:AV K xs ys)(h:VR K x y):AV K (xs.push x) (ys.push y):=by
 refine⟨by simp[v.size],fun i a b h1 h2=>?_⟩;rw[Array.getElem?_push]at h1 h2;rw[v.size]at h1;by_cases e:i=ys.size
 ·rw[if_pos e]at h1 h2;cases h1;cases h2;exact h
 ·rw[if_neg e]at h1 h2;exact v.el i a b h1 h2
theorem AV.append{K:Kr}{us vs:Array Value}(v:AV K xs ys)(u:AV K us vs):AV K (xs++us) (ys++vs):=by
 refine⟨by simp[v.size,u.size],fun i a b h1 h2=>?_⟩;rw[Array.getElem?_append]at h1 h2;rw[v.size]at h1;by_cases e:i<ys.size
 ·rw[if_pos e]at h1 h2;exact v.el i a b h1 h2
 ·rw[if_neg e]at h1 h2;exact u.el _ a b h1 h2
theorem AV.extract{K:Kr}(v:AV K xs ys)(i j:Nat):AV K (xs.extract i j) (ys.extract i j):=by
 refine⟨by simp[v.size],fun k a b h1 h2=>?_⟩;rw[Array.getElem?_extract]at h1 h2;rw[v.size]at h1;split at h1
 ·rename_i hk;rw[if_pos hk]at h2;exact v.el _ a b h1 h2
 ·cases h1
theorem AV.set{K:Kr}(v:AV K xs ys)(i:Nat)(h:VR K x y):AV K (xs.setIfInBounds i x) (ys.setIfInBounds i y):=by
 refine⟨by simp[v.size],fun k a b h1 h2=>?_⟩;rw[Array.getElem?_setIfInBounds]at h1 h2;by_cases e:i=k
 ·rw[if_pos e]at h1 h2;rw[v.size]at h1;split at h1
  ·rename_i hk;rw[if_pos hk]at h2;cases h1;cases h2;exact h
  ·cases h1
 ·rw[if_neg e]at h1 h2;exact v.el k a b h1 h2
theorem AV.one{K:Kr}(h:VR K x y):AV K #[x] #[y]:=(AV.empty K).push h
theorem AV.two{K:Kr}{u v:Value}(h:VR K x y)(k:VR K u v):AV K #[x,u] #[y,v]:=((AV.empty K).push h).push k
theorem AV.replicate{K:Kr}(n:Nat)(h:VR K x y):AV K (Array.replicate n x) (Array.replicate n y):=by
 refine⟨by simp,fun i a b h1 h2=>?_⟩;rw[Array.getElem?_replicate]at h1 h2;split at h1
 ·rename_i hi;rw[if_pos hi]at h2;cases h1;cases h2;exact h
 ·cases h1
theorem AV.map{K:Kr}{α:Type}{f g:α->Value}(xs:Array α)(h:∀a∈xs,VR K (f a) (g a)):AV K (xs.map f) (xs.map g):=by
 refine⟨by simp,fun i a b h1 h2=>?_⟩;rw[Array.getElem?_map]at h1 h2
 cases hx:xs[i]? with
 | none=>rw[hx]at h1;cases h1
 | some z =>
  rw[hx]at h1 h2;cases h1;cases h2;exact h z (Array.mem_of_getElem? hx)
structure EV(K:Kr)(xs ys:Array MapEntry):Prop where
 size:xs.size=ys.size
 el:∀(i:Nat) (x y:MapEntry),xs[i]?=some x->ys[i]?=some y->VR K x.key y.key/\VR K x.val y.val/\x.born=y.born
theorem EV.mono{K K':Kr}(h:K.le K'){xs ys:Array MapEntry}(v:EV K xs ys):EV K' xs ys:=⟨v.size,fun i x y h1 h2=>let ⟨a,b,c⟩:=v.el i x y h1 h2;⟨a.mono h,b.mono h,c⟩⟩
def qbK:Obj->Bool
 | .stringIter .. =>true
 | .mapIter .. =>true
 | _=>false
inductive OR(K:Kr):Obj->Obj->Prop
 | cells (c C:Array Value) (e:TypeId) (f F:Nat×Nat):AV K c C->(F.1<=F.2\/(f.1=0/\F.2<=f.2/\0<f.2))->f.1<=f.2->(∀i,F.1<=i->i<F.2->f.1<=i/\i<f.2)->OR K (.cells c e f) (.cells C e F)
 | map (c C:Array MapEntry) (n:Nat):EV K c C->OR K (.map c n) (.map C n)
 | chan (c:Nat) (b:Array Value) (l:Bool) (s r:Nat) (t:Bool) (c':Nat) (b':Array Value) (l':Bool) (s' r':Nat) (t':Bool):OR K (.chan c b l s r t) (.chan c' b' l' s' r' t')
 | number (a b:Addr) (l:Bool):AR K a b->OR K (.number a l) (.number b l)
 | stringIter (s:ByteArray) (p:Nat):OR K (.stringIter s p) (.stringIter s p)
 | mapIter0 (a:Nat) (s:Array Nat) (b:Nat):OR K (.mapIter none a s b) (.mapIter none a s b)
 | mapIter (m m' a:Nat) (s:Array Nat) (b:Nat):K.B m m'->OR K (.mapIter (some m) a s b) (.mapIter (some m') a s b)
 | dead1 (s:ByteArray) (p:Nat):OR K (.chan 0 #[] false 0 0 false) (.stringIter s p)
 | dead2 (m:Option Nat) (a:Nat) (s:Array Nat) (b:Nat):OR K (.chan 0 #[] false 0 0 false) (.mapIter m a s b)
theorem OR.mono{K K':Kr}(h:K.le K'){o O:Obj}(x:OR K o O):OR K' o O:=by
 cases x with
 | cells c C e f F h1 h2 h3 h4=>exact .cells c C e f F (h1.mono h) h2 h3 h4
 | map c C n h1=>exact .map c C n (h1.mono h)
 | chan=>exact .chan ..
 | number a b l e=>exact .number a b l (e.mono h)
 | stringIter s p=>exact .stringIter s p
 | mapIter0 a s b=>exact .mapIter0 a s b
 | mapIter m m' a s b e=>exact .mapIter m m' a s b (h.b _ _ e)
 | dead1 s p=>exact .dead1 s p
 | dead2 m a s b=>exact .dead2 m a s b
def za:Halt->Bool
 | .panic _|.goexit|.blocked|.waiting|.fatal _|.throw _|.exit _=>false
 | .unsupported (.initOrder _)=>false
 | _=>true
inductive SR{α α':Type}(P:Program)(T:Kr->α->α'->Prop):Kr->Sem α->Sem α'->Prop
 | pure {K:Kr} {a:α} {a':α'}:T K a a'->SR P T K (.pure a) (.pure a')
 | load {K:Kr} {a a':Addr} {k:Value->Sem α} {k':Value->Sem α'}:AR K a a'->(∀v v',VR K v v'->SR P T K (k v) (k' v'))->SR P T K (.load .plain a k) (.load .plain a' k')
 | store {K:Kr} {a a':Addr} {v v':Value} {k:Sem α} {k':Sem α'}:AR K a a'->VR K v v'->SR P T K k k'->SR P T K (.store .plain a v k) (.store .plain a' v' k')
 | new {K:Kr} {o o':Obj} {k:Nat->Sem α} {k':Nat->Sem α'}:OR K o o'->o.isChan=false->(∀K',K.le K'->∀r r',K'.B r r'->K'.Own r'->SR P T K' (k r) (k' r'))->SR P T K (.new o k) (.new o' k')
 | shape {K:Kr} {r r':Nat} {k:Option (TypeId×Nat)->Sem α} {k':Option (TypeId×Nat)->Sem α'}:K.B r r'->(∀s,SR P T K (k s) (k' s))->SR P T K (.shape r k) (.shape r' k')
 | freeze {K:Kr} {a a':Addr} {n:Nat} {k:Sem α} {k':Sem α'}:AR K a a'->K.Own a'.block->SR P T K k k'->SR P T K (.freeze a n k) (.freeze a' n k')
 | getObj {K:Kr} {r r':Nat} {k:Obj->Sem α} {k':Obj->Sem α'}:K.B r r'->(∀o o',OR K o o'->(qbK o=true↔K.It r')->SR P T K (k o) (k' o'))->SR P T K (.getObj r k) (.getObj r' k')
 | setObj {K:Kr} {r r':Nat} {o o':Obj} {k:Sem α} {k':Sem α'}:K.B r r'->K.It r'->OR K o o'->qbK o=true->SR P T K k k'->SR P T K (.setObj r o k) (.setObj r' o' k')
 | setMap {K:Kr} {r r':Nat} {c C:Array MapEntry} {n:Nat} {k:Sem α} {k':Sem α'}:K.B r r'->K.Fs P.funcs.size->¬K.It r'->EV K c C->SR P T K k k'->SR P T K (.setObj r (.map c n) k) (.setObj r' (.map C n) k')
 | choose {K:Kr} {q:Question} {k:Nat->Sem α} {k':Nat->Sem α'}:(∀n,SR P T K (k n) (k' n))->SR P T K (.choose q k) (.choose q k')
 | chooseL {K:Kr} {q:Question} {k:Nat->Sem α} {s':Sem α'} (n:Nat):SR P T K (k (q.cut n)) s'->SR P T K (k 0) s'->SR P T K (.choose q k) s'
 | frozen {K:Kr} {a a':Addr} {k:Bool->Sem α} {k':Bool->Sem α'}:AR K a a'->(∀b b',(b'=true->b=true)->SR P T K (k b) (k' b'))->SR P T K (.frozen a k) (.frozen a' k')
 | program {K:Kr} {k:Program->Sem α} {k':Program->Sem α'}:SR P T K (k P) (k' P)->SR P T K (.program k) (.program k')
 | noRoom {K:Kr} {k:Sem α} {k':Sem α'}:SR P T K k k'->SR P T K (.mark .noRoom k) (.mark .noRoom k')
 | extern {K:Kr} {f:FuncId} {k:Sem α} {k':Sem α'}:SR P T K k k'->SR P T K (.mark (.extern f) k) (.mark (.extern f) k')
 | panic {K:Kr} {v v':Value}:VR K v v'->SR P T K (.halt (.panic v)) (.halt (.panic v'))
 | lost {K:Kr} {h:Halt} {s:Sem α'}:za h=true->SR P T K (.halt h) s
 | shapeR {K:Kr} {r':Nat} {s:Sem α} {k':Option (TypeId×Nat)->Sem α'}:(∀x,SR P T K s (k' x))->SR P T K s (.shape r' k')
 | frozenR {K:Kr} {a':Addr} {s:Sem α} {k':Bool->Sem α'}:(∀x,SR P T K s (k' x))->SR P T K s (.frozen a' k')
 | uniq {K:Kr} {s:Sem α} {s':Sem α'}:((∀a b b',K.B a b->K.B a b'->b=b')->(∀a a' b,K.B a b->K.B a' b->a=a')->(∀a b,K.B a b->(a<P.globals.size↔b<P.globals.size))->SR P T K s s')->SR P T K s s'
 | doomed {K:Kr} {s:Sem α} {s':Sem α'}:(∀w es,∃h w',(s.runT P w es).1=.halt h w'/\za h=true)->SR P T K s s'
theorem yz{β:Type}{f:α->Sem β}{h:Halt}{w':World}(s:Sem α)(w:World)(es:Array Event)(e:(s.runT P w es).1=.halt h w'):((s.bind f).runT P w es).1=.halt h w':=by
 have x:=Sem.runT_bind' P s f w es;rw[x]
 revert e
 cases s.runT P w es with
 | mk r es'=>intro e;cases e;rfl
theorem SR.bind{α α' β β':Type}{P:Program}{T:Kr->α->α'->Prop}{U:Kr->β->β'->Prop}{K:Kr}{s:Sem α}{s':Sem α'}{f:α->Sem β}{f':α'->Sem β'}
  (h:SR P T K s s') (hf:∀K',K.le K'->∀a a',T K' a a'->SR P U K' (f a) (f' a')):SR P U K (s.bind f) (s'.bind f'):=by
 induction h with
 | pure h=>exact hf _ (Kr.le.refl _) _ _ h
 | load h _ ih=>exact .load h (fun v v' hv=>ih v v' hv hf)
 | store h hv _ ih=>exact .store h hv (ih hf)
 | new h hc _ ih=>exact .new h hc (fun K' hK r r' hr hi=>ih K' hK r r' hr hi (fun K'' hK'=>hf K'' (hK.trans hK')))
 | shape h _ ih=>exact .shape h (fun s=>ih s hf)
 | freeze h hi _ ih=>exact .freeze h hi (ih hf)
 | getObj h _ ih=>exact .getObj h (fun o o' ho hi=>ih o o' ho hi hf)
 | setObj h h1 h2 h3 _ ih=>exact .setObj h h1 h2 h3 (ih hf)
 | setMap h h1 h2 h3 _ ih=>exact .setMap h h1 h2 h3 (ih hf)
 | choose _ ih=>exact .choose (fun n=>ih n hf)
 | chooseL n _ _ ih ih0=>exact .chooseL n (ih hf) (ih0 hf)
 | frozen h _ ih=>exact .frozen h (fun b b' hb=>ih b b' hb hf)
 | program _ ih=>exact .program (ih hf)
 | noRoom _ ih=>exact .noRoom (ih hf)
 | extern _ ih=>exact .extern (ih hf)
 | panic h=>exact .panic h
 | lost h=>exact .lost h
 | shapeR _ ih=>exact .shapeR (fun x=>ih x hf)
 | frozenR _ ih=>exact .frozenR (fun x=>ih x hf)
 | uniq _ ih=>exact .uniq (fun h1 h2 h3=>ih h1 h2 h3 hf)
 | doomed h=>exact .doomed (fun w es=>let ⟨x,w',h1,h2⟩:=h w es;⟨x,w',yz _ w es h1,h2⟩)
theorem SR.bind'{α' β β':Type}{P:Program}{T:Kr->α->α'->Prop}{U:Kr->β->β'->Prop}{K:Kr}{s:Sem α}{s':Sem α'}{f:α->Sem β}{f':α'->Sem β'}
  (h:SR P T K s s') (hf:∀K',K.le K'->∀a a',T K' a a'->SR P U K' (f a) (f' a')):SR P U K (s >>= f) (s' >>= f'):=h.bind hf
theorem SR.weaken{α':Type}{T U:Kr->α->α'->Prop}{K:Kr}{s:Sem α}{s':Sem α'}(h:SR P T K s s')(hf:∀K',K.le K'->∀a a',T K' a a'->U K' a a'):SR P U K s s':=by
 induction h with
 | pure h=>exact .pure (hf _ (Kr.le.refl _) _ _ h)
 | load h _ ih=>exact .load h (fun v v' hv=>ih v v' hv hf)
 | store h hv _ ih=>exact .store h hv (ih hf)
 | new h hc _ ih=>exact .new h hc (fun K' hK r r' hr hi=>ih K' hK r r' hr hi (fun K'' hK'=>hf K'' (hK.trans hK')))
 | shape h _ ih=>exact .shape h (fun s=>ih s hf)
 | freeze h hi _ ih=>exact .freeze h hi (ih hf)
 | getObj h _ ih=>exact .getObj h (fun o o' ho hi=>ih o o' ho hi hf)
 | setObj h h1 h2 h3 _ ih=>exact .setObj h h1 h2 h3 (ih hf)
 | setMap h h1 h2 h3 _ ih=>exact .setMap h h1 h2 h3 (ih hf)
 | choose _ ih=>exact .choose (fun n=>ih n hf)
 | chooseL n _ _ ih ih0=>exact .chooseL n (ih hf) (ih0 hf)
 | frozen h _ ih=>exact .frozen h (fun b b' hb=>ih b b' hb hf)
 | program _ ih=>exact .program (ih hf)
 | noRoom _ ih=>exact .noRoom (ih hf)
 | extern _ ih=>exact .extern (ih hf)
 | panic h=>exact .panic h
 | lost h=>exact .lost h
 | shapeR _ ih=>exact .shapeR (fun x=>ih x hf)
 | frozenR _ ih=>exact .frozenR (fun x=>ih x hf)
 | uniq _ ih=>exact .uniq (fun h1 h2 h3=>ih h1 h2 h3 hf)
 | doomed h=>exact .doomed h
end Sim
namespace Sim
variable {Ro:Nat->Prop}{W W':World}
structure WR(P:Program)(Ro:Nat->Prop)(K:Kr)(w W:World):Prop where
 gl:∀a b,K.B a b->(a<P.globals.size↔b<P.globals.size)
 gs:P.globals.size<=w.heap.size/\P.globals.size<=W.heap.size
 fn1:∀a b b',K.B a b->K.B a b'->b=b'
 fn2:∀a a' b,K.B a b->K.B a' b->a=a'
 obj:∀a b,K.B a b->∃o O,w.heap[a]?=some o/\W.heap[b]?=some O/\OR K o O
 ro:∀a b,K.B a b->Ro b->∀c e f,w.heap[a]?=some (.cells c e f)->f.1=0/\c.size<=f.2
 qaE:∀b,Ro b->b<W.heap.size
 qbF:∀b,K.It b->b<W.heap.size
 it:∀b,K.It b->¬Ro b
 own:∀b,K.Own b->¬Ro b
 itk:∀a b,K.B a b->∀o,w.heap[a]?=some o->(qbK o=true↔K.It b)
 qar:∀g,P.funcs.size+1+g<999999->K.Fs (P.funcs.size+1+g)->K.B g g
 wm:K.Fs P.funcs.size->(∀a b,K.B a b->Ro b->∀o,w.heap[a]?=some o->∃c e f,o=.cells c e f)/\∀a b,K.B a b->∀o,w.heap[a]?=some o->o.isChan=false
structure Did(Ro:Nat->Prop)(K:Kr)(W:World)(K':Kr)(W':World):Prop where
 le:K.le K'
 new:∀a b,K'.B a b->K.B a b\/W.heap.size<=b
 size:W.heap.size<=W'.heap.size
 same:∀b,b<W.heap.size->(¬∃a,K.B a b)\/Ro b->W'.heap[b]?=W.heap[b]?
 chan:∀(b:Nat) (o:Obj),W.heap[b]?=some o->o.isChan=true->W'.heap[b]?=some o
 tape:W'.tape=W.tape
 os:W'.os=W.os
 output:W'.output=W.output
theorem Did.refl(Ro:Nat->Prop)(K:Kr)(W:World):Did Ro K W K W:=⟨Kr.le.refl _,fun _ _ h=>.inl h,Nat.le_refl _,fun _ _ _=>rfl,fun _ _ h _=>h,rfl,rfl,rfl⟩
theorem Did.trans{K K' K'':Kr}{W'':World}(h:Did Ro K W K' W')(k:Did Ro K' W' K'' W''):Did Ro K W K'' W'':=by
 refine⟨h.le.trans k.le,fun a b x=>?_,Nat.le_trans h.size k.size,fun b hb hn=>?_,fun b o hb hc=>k.chan b o (h.chan b o hb hc) hc,k.tape.trans h.tape,k.os.trans h.os,k.output.trans h.output⟩
 ·rcases k.new a b x with y|y
  ·exact h.new a b y
  ·exact .inr (Nat.le_trans h.size y)
 ·refine(k.same b (Nat.lt_of_lt_of_le hb h.size) ?_).trans (h.same b hb hn);rcases hn with hn|hn
  ·refine .inl (fun⟨a,ha⟩=>?_);rcases h.new a b ha with y|y
   ·exact hn ⟨a,y⟩
   ·omega
  ·exact .inr hn
def jZ(W:World)(b:Nat):Prop:=∀o,W.heap[b]?=some o->o.isChan=false
def Qaq(Ro:Nat->Prop)(W:World)(K:Kr)(e:Event):Prop :=
 match e.loc with
 | .cell a=>e.sync=false/\(∃x,K.B x a.block)/\(e.write=true->¬Ro a.block)/\jZ W a.block
 | .obj r=>(∃x,K.B x r)/\(e.write=true->¬Ro r)/\(e.sync=true->e.write=false)/\(e.sync=false->jZ W r)
 | .mark .noRoom=>True
 | .mark (.extern _)=>True
 | _=>False
theorem jZ.back{K K':Kr}(d:Did Ro K W K' W'){b:Nat}(h:jZ W' b):jZ W b:=fun o ho=>by
 cases hc:o.isChan with
 | false=>rfl
 | true=>rw[h o (d.chan b o ho hc)]at hc;cases hc
theorem Qaq.mono{K K':Kr}(h:K.le K')(hn:∀b,jZ W b->jZ W' b){e:Event}(x:Qaq Ro W K e):Qaq Ro W' K' e:=by
 unfold Qaq at *;split<;>rename_i hl<;>simp only[hl]at x
 ·exact⟨x.1,let ⟨y,hy⟩:=x.2.1;⟨y,h.b _ _ hy⟩,x.2.2.1,hn _ x.2.2.2⟩
 ·exact⟨let ⟨y,hy⟩:=x.1;⟨y,h.b _ _ hy⟩,x.2.1,x.2.2.1,fun z=>hn _ (x.2.2.2 z)⟩
 ·trivial
 ·trivial
def Qrx{α α':Type}(P:Program)(Ro:Nat->Prop)(K:Kr)(W:World)(es:Array Event)(T:Kr->α->α'->Prop):Result α->Result α'×Array Event->Prop
 | .ok a w',x=>∃K' a' W',x.1=.ok a' W'/\T K' a a'/\WR P Ro K' w' W'/\Did Ro K W K' W'/\∀e∈x.2,e∈es\/Qaq Ro W K' e
 | .halt (.panic v) w',x=>∃K' v' W',x.1=.halt (.panic v') W'/\VR K' v v'/\WR P Ro K' w' W'/\Did Ro K W K' W'/\∀e∈x.2,e∈es\/Qaq Ro W K' e
 | .halt _ _,_=>False
theorem Qrx.step{α α':Type}{P:Program}{Ro:Nat->Prop}{K K':Kr}{W W':World}{es es':Array Event}{T:Kr->α->α'->Prop}{r:Result α}{x:Result α'×Array Event}
  (h:Qrx P Ro K' W' es' T r x) (d:Did Ro K W K' W') (he:∀e∈es',e∈es\/Qaq Ro W K' e):Qrx P Ro K W es T r x:=by
 have go:∀K'',K'.le K''->(∀e∈x.2,e∈es'\/Qaq Ro W' K'' e)->∀e∈x.2,e∈es\/Qaq Ro W K'' e:=fun K'' hle h e hm=>by
  rcases h e hm with y|y
  ·exact(he e y).imp id (fun z=>z.mono hle (fun _ h=>h))
  ·exact .inr (y.mono (Kr.le.refl _) (fun _ h=>h.back d))
 cases r with
 | ok a w' =>
  obtain⟨K'',a',W'',h1,h2,h3,h4,h5⟩:=h;exact⟨K'',a',W'',h1,h2,h3,d.trans h4,go _ h4.le h5⟩
 | halt q w' =>
  cases q with
  | panic v =>
   obtain⟨K'',a',W'',h1,h2,h3,h4,h5⟩:=h;exact⟨K'',a',W'',h1,h2,h3,d.trans h4,go _ h4.le h5⟩
  | _=>exact h
section
variable {P:Program}{Ro:Nat->Prop}{K:Kr}{w W:World}
variable {a a':Addr}{o:Obj}
theorem WR.cell(h:WR P Ro K w W){a a':Addr}(ha:AR K a a'):(w.cell? a=none\/∃v v',w.cell? a=some v/\W.cell? a'=some v'/\VR K v v'):=by
 obtain⟨o,O,h1,h2,h3⟩:=h.obj _ _ ha.block;unfold World.cell?;rw[h1,h2]
 cases h3 with
 | cells c C e f F hc _ _ _ =>
  simp only;rw[ha.spot,ha.off];split
  ·exact .inl rfl
  ·rcases hc.get? a.off with⟨x1,_⟩|⟨x,y,x1,x2,x3⟩
   ·exact .inl x1
   ·exact .inr ⟨x,y,x1,x2,x3⟩
 | _=>exact .inl rfl
theorem WR.far(h:WR P Ro K w W)(ha:AR K a a')(Q:Program)(b:Bool):∃x,w.farLoad Q a b=.error x/\za x=true:=by
 obtain⟨o,O,h1,_,h3⟩:=h.obj _ _ ha.block;unfold World.farLoad;rw[h1];cases h3<;>(refine⟨_,rfl,?_⟩;unfold World.noCell;rw[h1];rfl)
theorem WR.qAG(h:WR P Ro K w W)(ha:AR K a a')(Q:Program)(v:Value)(b:Bool):∃x,w.farStore Q a v b=.error x/\za x=true:=by
 obtain⟨o,O,h1,_,h3⟩:=h.obj _ _ ha.block;unfold World.farStore;rw[h1];cases h3<;>(refine⟨_,rfl,?_⟩;unfold World.noCell;rw[h1];rfl)
theorem WR.frozen(h:WR P Ro K w W){a a':Addr}(ha:AR K a a')(hf:w.frozen? a=false):W.frozen? a'=false:=by
 obtain⟨o,O,h1,h2,h3⟩:=h.obj _ _ ha.block;unfold World.frozen? at *;rw[h1]at hf;rw[h2]
 cases h3 with
 | cells c C e f F hc _ _ hs =>
  obtain⟨f1,f2⟩:=f;obtain⟨F1,F2⟩:=F;simp only[Bool.and_eq_false_iff,decide_eq_false_iff_not,Nat.not_le,Nat.not_lt]at hf⊢;rw[ha.off];have:=hs a.off;simp only at this;omega
 | _=>rfl
theorem WR.qv9(h:WR P Ro K w W)(ha:AR K a a'){v:Value}(hc:w.cell? a=some v)(hf:w.frozen? a=false):¬Ro a'.block:=fun hr=>by
 obtain⟨o,O,h1,_,h3⟩:=h.obj _ _ ha.block;unfold World.cell? at hc;unfold World.frozen? at hf;rw[h1]at hc hf
 cases h3 with
 | cells c C e f F _ _ _ _ =>
  have:=h.ro _ _ ha.block hr c e f h1;obtain⟨f1,f2⟩:=f;simp only at hc hf this;split at hc
  ·cases hc
  ·have hl:a.off<c.size:=(Array.getElem?_eq_some_iff.1 hc).1;simp only[Bool.and_eq_false_iff,decide_eq_false_iff_not,Nat.not_le,Nat.not_lt]at hf;omega
 | _=>cases hc
theorem WR.qgS(h:WR P Ro K w W)(ha:AR K a a'){v:Value}(hc:w.cell? a=some v):jZ W a'.block:=fun O' hO=>by
 obtain⟨o,O,h1,h2,h3⟩:=h.obj _ _ ha.block;rw[h2]at hO;cases hO;unfold World.cell? at hc;rw[h1]at hc;cases h3<;>first|rfl|cases hc
theorem WR.put(h:WR P Ro K w W){r r':Nat}(hr:K.B r r'){O o' O':Obj}(_h1:w.heap[r]?=some o)(_h2:W.heap[r']?=some O)(w' W':World)(e1:w'.heap=w.heap.setIfInBounds r o')(e2:W'.heap=W.heap.setIfInBounds r' O')
  (hO:OR K o' O') (hro:Ro r'->∀c e f,o'=.cells c e f->f.1=0/\c.size<=f.2) (hit:qbK o'=true↔K.It r') (hch:o'.isChan=true->o.isChan=true) (qAH:Ro r'->∃c e f,o'=.cells c e f):WR P Ro K w' W':=by
 have hl1:r<w.heap.size:=(Array.getElem?_eq_some_iff.1 _h1).1;have hl2:r'<W.heap.size:=(Array.getElem?_eq_some_iff.1 _h2).1;refine⟨h.gl,by rw[e1,e2];simpa using h.gs,h.fn1,h.fn2,fun a b hab=>?_,fun a b hab hb c e f hw=>?_,fun b hb=>by rw[e2];simpa using h.qaE b hb,fun b hb=>by rw[e2];simpa using h.qbF b hb,h.it,h.own,fun a b hab o hw=>?_,h.qar,fun x=>⟨fun a b hab hb o1 ho=>?_,fun a b hab o1 ho=>?_⟩⟩
 ·obtain⟨x,X,k1,k2,k3⟩:=h.obj a b hab;rw[e1,e2,Array.getElem?_setIfInBounds,Array.getElem?_setIfInBounds];by_cases ea:r=a
  ·subst ea;have eb:r'=b:=h.fn1 _ _ _ hr hab;subst eb;exact⟨o',O',by simp[hl1],by simp[hl2],hO⟩
  ·have eb:r'≠b:=fun eb=>ea (by subst eb;exact h.fn2 _ _ _ hr hab);rw[if_neg ea,if_neg eb];exact⟨x,X,k1,k2,k3⟩
 ·rw[e1,Array.getElem?_setIfInBounds]at hw;by_cases ea:r=a
  ·subst ea;have eb:r'=b:=h.fn1 _ _ _ hr hab;subst eb;rw[if_pos rfl,if_pos hl1]at hw;exact hro hb c e f (by injection hw)
  ·rw[if_neg ea]at hw;exact h.ro a b hab hb c e f hw
 ·rw[e1,Array.getElem?_setIfInBounds]at hw;by_cases ea:r=a
  ·subst ea;have eb:r'=b:=h.fn1 _ _ _ hr hab;subst eb;rw[if_pos rfl,if_pos hl1]at hw;injection hw with hw;subst hw;exact hit
  ·rw[if_neg ea]at hw;exact h.itk a b hab o hw
 ·rw[e1,Array.getElem?_setIfInBounds]at ho;by_cases ea:r=a
  ·subst ea;have eb:r'=b:=h.fn1 _ _ _ hr hab;subst eb;rw[if_pos rfl,if_pos hl1]at ho;injection ho with ho;subst ho;exact qAH hb
  ·rw[if_neg ea]at ho;exact(h.wm x).1 a b hab hb o1 ho
 ·rw[e1,Array.getElem?_setIfInBounds]at ho;by_cases ea:r=a
  ·subst ea;rw[if_pos rfl,if_pos hl1]at ho;injection ho with ho;subst ho
   cases hc:o'.isChan with
   | false=>rfl
   | true=>have:=hch hc;rw[(h.wm x).2 _ _ hr _ _h1]at this;cases this
  ·rw[if_neg ea]at ho;exact(h.wm x).2 a b hab o1 ho
theorem qaJ(hp:Array Obj)(i:Nat)(f:Obj->Obj)(h:hp[i]?=some o):hp.modify i f=hp.setIfInBounds i (f o):=by
 obtain⟨hl,he⟩:=Array.getElem?_eq_some_iff.1 h;apply Array.ext_getElem?;intro j;rw[Array.getElem?_modify,Array.getElem?_setIfInBounds];by_cases e:i=j
 ·subst e;simp[hl,he]
 ·simp[e]
theorem WR.set(h:WR P Ro K w W){a a':Addr}(ha:AR K a a'){x v v':Value}(hx:w.cell? a=some x)(hf:w.frozen? a=false)(hv:VR K v v') :
  WR P Ro K (w.setCell a v) (W.setCell a' v')/\Did Ro K W K (W.setCell a' v'):=by
 have hnr:=h.qv9 ha hx hf;obtain⟨o,O,h1,h2,h3⟩:=h.obj _ _ ha.block
 cases h3 with
 | cells c C e f F hc hF hff hs =>
  have m1:=qaJ w.heap a.block (fun|.cells c elem frozen=>.cells (if a.spot.isSome then c else c.setIfInBounds a.off v) elem frozen|o=>o) h1;have m2:=qaJ W.heap a'.block (fun|.cells c elem frozen=>.cells (if a'.spot.isSome then c else c.setIfInBounds a'.off v') elem frozen|o=>o) h2
  have hO:OR K (.cells (if a.spot.isSome then c else c.setIfInBounds a.off v) e f) (.cells (if a'.spot.isSome then C else C.setIfInBounds a'.off v') e F):=by
   refine .cells _ _ _ _ _ ?_ hF hff hs;rw[ha.spot,ha.off];split
   ·exact hc
   ·exact hc.set _ hv
  refine⟨h.put ha.block h1 h2 _ _ m1 m2 hO (fun hr=>absurd hr hnr) (by exact h.itk _ _ ha.block (.cells c e f) h1) (fun x=>by cases x) (fun hr=>absurd hr hnr),Kr.le.refl _,fun _ _ x=>.inl x,by simp[World.setCell],fun b hb hn=>?_,fun b ob hb hch=>?_,rfl,rfl,rfl⟩
  ·show(W.setCell a' v').heap[b]?=_;have:(W.setCell a' v').heap=_:=m2;rw[this,Array.getElem?_setIfInBounds];rw[if_neg];intro e;subst e;rcases hn with hn|hn
   ·exact hn ⟨_,ha.block⟩
   ·exact hnr hn
  ·have:(W.setCell a' v').heap=_:=m2;rw[this,Array.getElem?_setIfInBounds];rw[if_neg]
   ·exact hb
   ·intro e;subst e;rw[h2]at hb;cases hb;cases hch
 | _ =>
  unfold World.cell? at hx;rw[h1]at hx;cases hx
theorem WR.make(h:WR P Ro K w W){O:Obj}(hO:OR K o O)(hoc:o.isChan=false) :
  ∃K',K.le K'/\K'.B w.heap.size W.heap.size/\K'.Own W.heap.size/\WR P Ro K' {w with heap:=w.heap.push o} {W with heap:=W.heap.push O}/\Did Ro K W K' {W with heap:=W.heap.push O}:=by
 have lt1:∀a b,K.B a b->a<w.heap.size/\b<W.heap.size:=fun a b hab=>by
  obtain⟨_,_,h1,h2,_⟩:=h.obj a b hab;exact⟨(Array.getElem?_eq_some_iff.1 h1).1,(Array.getElem?_eq_some_iff.1 h2).1⟩
 let K':Kr:=⟨fun a b=>K.B a b\/(a=w.heap.size/\b=W.heap.size),fun b=>K.It b\/(qbK o=true/\b=W.heap.size),fun b=>K.Own b\/b=W.heap.size,K.Fs⟩
 have hle:K.le K':=⟨fun _ _ x=>.inl x,fun _ x=>.inl x,fun _ x=>.inl x,rfl,fun a b x y=>y.elim id (fun z=>by have:=lt1 _ _ x;omega)⟩
 refine⟨K',hle,.inr ⟨rfl,rfl⟩,.inr rfl,⟨?_,?_,?_,?_,?_,?_,?_,?_,?_,?_,?_,fun g s x=>.inl (h.qar g s x),fun x=>⟨?_,?_⟩⟩,hle,?_,by simp,?_,?_,rfl,rfl,rfl⟩
 ·rintro a b (x|⟨x1,x2⟩)
  ·exact h.gl a b x
  ·have:=h.gs;omega
 ·have:=h.gs;simp;omega
 ·rintro a b b' (x|⟨x1,x2⟩) (y|⟨y1,y2⟩)
  ·exact h.fn1 a b b' x y
  ·have:=lt1 _ _ x;omega
  ·have:=lt1 _ _ y;omega
  ·omega
 ·rintro a a' b (x|⟨x1,x2⟩) (y|⟨y1,y2⟩)
  ·exact h.fn2 a a' b x y
  ·have:=lt1 _ _ x;omega
  ·have:=lt1 _ _ y;omega
  ·omega
 ·rintro a b (x|⟨x1,x2⟩)
  ·obtain⟨p,q,h1,h2,h3⟩:=h.obj a b x;have:=lt1 _ _ x;refine⟨p,q,?_,?_,h3.mono hle⟩
   ·simp only[Array.getElem?_push];rw[if_neg (by omega)];exact h1
   ·simp only[Array.getElem?_push];rw[if_neg (by omega)];exact h2
  ·subst x1;subst x2;exact⟨o,O,by simp,by simp,hO.mono hle⟩
 ·rintro a b (x|⟨x1,x2⟩) hb c e f hw
  ·have:=lt1 _ _ x;simp only[Array.getElem?_push]at hw;rw[if_neg (by omega)]at hw;exact h.ro a b x hb c e f hw
  ·have:=h.qaE b hb;omega
 ·intro b hb;have:=h.qaE b hb;simp;omega
 ·rintro b (x|⟨_,x⟩)
  ·have:=h.qbF b x;simp;omega
  ·simp;omega
 ·rintro b (x|⟨_,x⟩) hb
  ·exact h.it b x hb
  ·have:=h.qaE b hb;omega
 ·rintro b (x|x) hb
  ·exact h.own b x hb
  ·have:=h.qaE b hb;omega
 ·rintro a b (x|⟨x1,x2⟩) p hw
  ·have:=lt1 _ _ x;simp only[Array.getElem?_push]at hw;rw[if_neg (by omega)]at hw;rw[h.itk a b x p hw];exact⟨.inl,fun y=>y.elim id (fun⟨_,e⟩=>by omega)⟩
  ·subst x1;simp only[Array.getElem?_push_size,Option.some.injEq]at hw;subst hw;refine⟨fun y=>.inr ⟨y,x2⟩,fun y=>y.elim (fun z=>?_) (fun z=>z.1)⟩;exact absurd (h.qbF b z) (by omega)
 ·rintro a b (y|⟨y1,y2⟩) hb p hp
  ·have:=lt1 _ _ y;simp only[Array.getElem?_push]at hp;rw[if_neg (by omega)]at hp;exact(h.wm x).1 a b y hb p hp
  ·have:=h.qaE b hb;omega
 ·rintro a b (y|⟨y1,y2⟩) p hp
  ·have:=lt1 _ _ y;simp only[Array.getElem?_push]at hp;rw[if_neg (by omega)]at hp;exact(h.wm x).2 a b y p hp
  ·subst y1;simp only[Array.getElem?_push_size,Option.some.injEq]at hp;subst hp;exact hoc
 ·rintro a b (x|⟨_,x2⟩)
  ·exact .inl x
  ·exact .inr (by omega)
 ·intro b hb _;simp only[Array.getElem?_push];rw[if_neg (by omega)]
 ·intro b ob hb _;have:=(Array.getElem?_eq_some_iff.1 hb).1;simp only[Array.getElem?_push];rw[if_neg (by omega)];exact hb
theorem WR.frz(h:WR P Ro K w W)(ha:AR K a a')(hi:K.Own a'.block)(n:Nat):WR P Ro K (w.freeze a n) (W.freeze a' n)/\Did Ro K W K (W.freeze a' n):=by
 unfold World.freeze;by_cases hn:n=0
 ·rw[if_pos hn,if_pos hn];exact⟨h,Did.refl _ _ _⟩
 ·rw[if_neg hn,if_neg hn];have hnr:=h.own _ hi;obtain⟨o,O,h1,h2,h3⟩:=h.obj _ _ ha.block;have m1:=qaJ w.heap a.block (fun|.cells c elem (lo,hi)=>.cells c elem (if lo == hi then(a.off,a.off+n)else(min lo a.off,max hi (a.off+n)))|o=>o) h1;have m2:=qaJ W.heap a'.block (fun|.cells c elem (lo,hi)=>.cells c elem (if lo == hi then(a'.off,a'.off+n)else(min lo a'.off,max hi (a'.off+n)))|o=>o) h2
  have key:∀o' O',OR K o' O'->(qbK o'=qbK o)->(O.isChan=true->O'=O)->(o'.isChan=true->o.isChan=true)->∀w' W':World,w'.heap=w.heap.setIfInBounds a.block o'->W'.heap=W.heap.setIfInBounds a'.block O'->W'.tape=W.tape->W'.os=W.os->W'.output=W.output->WR P Ro K w' W'/\Did Ro K W K W':=by
   intro o' O' hO hit hch qAI w' W' e1 e2 t3 t5 t6;refine⟨h.put ha.block h1 h2 w' W' e1 e2 hO (fun hr=>absurd hr hnr) (by rw[hit];exact h.itk _ _ ha.block o h1) qAI (fun hr=>absurd hr hnr),Kr.le.refl _,fun _ _ x=>.inl x,by rw[e2];simp,fun b hb hx=>?_,fun b ob hb hc=>?_,t3,t5,t6⟩
   ·rw[e2,Array.getElem?_setIfInBounds,if_neg];intro e;subst e;rcases hx with hx|hx
    ·exact hx ⟨_,ha.block⟩
    ·exact hnr hx
   ·rw[e2,Array.getElem?_setIfInBounds];by_cases e:a'.block=b
    ·subst e;rw[h2]at hb;injection hb with hb;subst hb;have hl:a'.block<W.heap.size:=(Array.getElem?_eq_some_iff.1 h2).1;rw[if_pos rfl,if_pos hl,hch hc]
    ·rw[if_neg e];exact hb
  cases h3 with
  | cells c C e f F hc hF hff hs =>
   obtain⟨f1,f2⟩:=f;obtain⟨F1,F2⟩:=F;refine key (.cells c e (if f1 == f2 then(a.off,a.off+n)else(min f1 a.off,max f2 (a.off+n)))) (.cells C e (if F1 == F2 then(a'.off,a'.off+n)else(min F1 a'.off,max F2 (a'.off+n)))) ?_ rfl (fun x=>by cases x) (fun x=>by cases x) _ _ m1 m2 rfl rfl rfl;refine .cells _ _ _ _ _ hc ?_ ?_ ?_
   ·rcases hF with hF|⟨g1,g2,g3⟩
    ·left;simp only at hF⊢;split<;>simp<;>omega
    ·right;simp only at g1 g2 g3⊢
     have x1:(f1 == f2)=false:=by simp;omega
     simp only[x1,Bool.false_eq_true,if_false];rw[ha.off];by_cases c1:F1=F2
     ·simp only[c1,beq_self_eq_true,if_true];omega
     ·have x2:(F1 == F2)=false:=by simpa using c1
      simp only[x2,Bool.false_eq_true,if_false];omega
   ·simp only at hff⊢;split<;>simp<;>omega
   ·intro i;rcases hF with hF|⟨g1,g2,g3⟩
    ·have hsi:=hs i;simp only at hsi hF hff⊢;rw[ha.off];by_cases c1:F1=F2<;>by_cases c2:f1=f2
     ·simp only[c1,c2,beq_self_eq_true,if_true];omega
     ·have:(f1 == f2)=false:=by simpa using c2
      simp only[c1,beq_self_eq_true,if_true,this,Bool.false_eq_true,if_false];omega
     ·exfalso;have:=hs F1;simp only at this;omega
     ·have x1:(f1 == f2)=false:=by simpa using c2
      have x2:(F1 == F2)=false:=by simpa using c1
      simp only[x1,x2,Bool.false_eq_true,if_false];have:=hs F1;have:=hs (F2-1);simp only at this;omega
    ·simp only at g1 g2 g3⊢
     have x1:(f1 == f2)=false:=by simp;omega
     simp only[x1,Bool.false_eq_true,if_false];rw[ha.off];by_cases c1:F1=F2
     ·simp only[c1,beq_self_eq_true,if_true];omega
     ·have x2:(F1 == F2)=false:=by simpa using c1
      simp only[x2,Bool.false_eq_true,if_false];omega
  | map c C n hm=>exact key _ _ (.map c C n hm) rfl (fun x=>by cases x) (fun x=>x) _ _ m1 m2 rfl rfl rfl
  | chan=>exact key _ _ (.chan ..) rfl (fun _=>rfl) (fun x=>x) _ _ m1 m2 rfl rfl rfl
  | number a b l e=>exact key _ _ (.number a b l e) rfl (fun x=>by cases x) (fun x=>x) _ _ m1 m2 rfl rfl rfl
  | stringIter s p=>exact key _ _ (.stringIter s p) rfl (fun x=>by cases x) (fun x=>x) _ _ m1 m2 rfl rfl rfl
  | mapIter0 a s b=>exact key _ _ (.mapIter0 a s b) rfl (fun x=>by cases x) (fun x=>x) _ _ m1 m2 rfl rfl rfl
  | mapIter m m' a s b e=>exact key _ _ (.mapIter m m' a s b e) rfl (fun x=>by cases x) (fun x=>x) _ _ m1 m2 rfl rfl rfl
  | dead1 s p=>exact key _ _ (.dead1 s p) rfl (fun x=>by cases x) (fun x=>x) _ _ m1 m2 rfl rfl rfl
  | dead2 m a s b=>exact key _ _ (.dead2 m a s b) rfl (fun x=>by cases x) (fun x=>x) _ _ m1 m2 rfl rfl rfl
end
variable {α:Type}{P:Program}{Ro:Nat->Prop}{W:World}{es':Array Event}
def one:Value->Bool
 | .agg _|.tuple _=>false
 | _=>true
theorem qaC(P:Program)(m:Mode)(a:Addr)(v:Value)(k:Sem α)(w:World)(es:Array Event)(hv:one v=true) :
  (Sem.store m a v k).runT P w es=(match w.cell? a with
   | some _=>if w.frozen? a then(.halt (.unsupported (.unsafePointer "a write to bytes that a string shares")) w,es)else k.runT P (w.setCell a v) (es.push ⟨.cell a,true,m == .atomic⟩)
   | none=>match w.farStore P a v (m == .atomic)with
    | .ok (w,touched)=>k.runT P w (es++touched.toArray.map (⟨.cell ·,true,m == .atomic⟩))
    | .error h=>(.halt h w,es)):=by
 cases v<;>first|rfl|cases hv
def qg(w:World)(τ:Nat->Question->Nat):World:={w with tape:=τ}
theorem WR.qg{K:Kr}{w:World}(h:WR P Ro K w W)(τ:Nat->Question->Nat):WR P Ro K (qg w τ) W:=⟨h.gl,h.gs,h.fn1,h.fn2,h.obj,h.ro,h.qaE,h.qbF,h.it,h.own,h.itk,h.qar,h.wm⟩
theorem Did.draw(Ro:Nat->Prop)(K:Kr)(W:World)(d:Nat):Did Ro K W K {W with drawn:=d}:=⟨Kr.le.refl _,fun _ _ h=>.inl h,Nat.le_refl _,fun _ _ _=>rfl,fun _ _ h _=>h,rfl,rfl,rfl⟩
def onR{α:Type}:Result α->(Nat->Question->Nat)->Result α
 | .ok a w,τ=>.ok a (qg w τ)
 | .halt h w,τ=>.halt h (qg w τ)
def qyn{α:Type}:Result α->Nat
 | .ok _ w=>w.drawn
 | .halt _ w=>w.drawn
def Alike(τ τ':Nat->Question->Nat)(a b:Nat):Prop:=∀d,a<=d->d<b->τ' d=τ d
def JF{α α':Type}(P:Program)(T:Kr->α->α'->Prop)(Ro:Nat->Prop)(K:Kr)(W:World)(es':Array Event)(Y:Result α'×Array Event)(d:Nat)(run:(Nat->Question->Nat)->Result α×Array Event):Prop :=
 ∃(n:Nat) (τ:Nat->Question->Nat),(∃r es1,(∀τ',Alike τ τ' d (d+n)->run τ'=(onR r τ',es1))/\qyn r=d+n/\Qrx P Ro K W es' T r Y)\/(∀τ',Alike τ τ' d (d+n)->∃h w',(run τ').1=.halt h w'/\za h=true)
theorem JF.step{α':Type}{P:Program}{T:Kr->α->α'->Prop}{Ro:Nat->Prop}{K K':Kr}{W W':World}{es es':Array Event}{Y:Result α'×Array Event}{d:Nat}{run:(Nat->Question->Nat)->Result α×Array Event}
  (h:JF P T Ro K' W' es' Y d run) (dd:Did Ro K W K' W') (he:∀e∈es',e∈es\/Qaq Ro W K' e):JF P T Ro K W es Y d run:=by
 obtain⟨n,τ,h⟩:=h;refine⟨n,τ,h.imp ?_ (fun x=>x)⟩;rintro⟨r,es1,h1,h2,h3⟩;exact⟨r,es1,h1,h2,h3.step dd he⟩
theorem JF.lost{α α':Type}{P:Program}{T:Kr->α->α'->Prop}{Ro:Nat->Prop}{K:Kr}{W:World}{es':Array Event}{Y:Result α'×Array Event}{d:Nat}{run:(Nat->Question->Nat)->Result α×Array Event}
  (h:∀τ',∃h w',(run τ').1=.halt h w'/\za h=true):JF P T Ro K W es' Y d run:=⟨0,fun _ _=>0,.inr (fun τ' _=>h τ')⟩
theorem JF.draw{α':Type}{P:Program}{T:Kr->α->α'->Prop}{Ro:Nat->Prop}{K:Kr}{W:World}{es':Array Event}{Y:Result α'×Array Event}{d:Nat}{run qyo:(Nat->Question->Nat)->Result α×Array Event}(f:Question->Nat)
  (h:JF P T Ro K W es' Y (d+1) qyo) (e:∀τ',τ' d=f->run τ'=qyo τ'):JF P T Ro K W es' Y d run:=by
 obtain⟨n,τ,h⟩:=h
 have key:∀τ',Alike (fun i=>if i=d then f else τ i) τ' d (d+(n+1))->τ' d=f/\Alike τ τ' (d+1) (d+1+n):=fun τ' ha=>by
  refine⟨?_,fun i h1 h2=>?_⟩
  ·rw[ha d (Nat.le_refl _) (by omega)];exact if_pos rfl
  ·rw[ha i (by omega) (by omega)];exact if_neg (by omega)
 refine⟨n+1,fun i=>if i=d then f else τ i,?_⟩;rcases h with⟨r,es1,h1,h2,h3⟩|h
 ·exact .inl ⟨r,es1,fun τ' ha=>by rw[e τ' (key τ' ha).1];exact h1 τ' (key τ' ha).2,by omega,h3⟩
 ·exact .inr (fun τ' ha=>by rw[e τ' (key τ' ha).1];exact h τ' (key τ' ha).2)
theorem SR.runT{α α':Type}{P:Program}{T:Kr->α->α'->Prop}{Ro:Nat->Prop}{K:Kr}{s:Sem α}{s':Sem α'}(h:SR P T K s s') :
  ∀(w W:World),WR P Ro K w W->∀es es',JF P T Ro K W es' (s'.runT P W es') w.drawn (fun τ'=>s.runT P (qg w τ') es):=by
 induction h with
 | pure h=>exact fun w W hw es es'=>⟨0,w.tape,.inl ⟨.ok _ w,es,fun τ' _=>rfl,rfl,⟨_,_,_,rfl,h,hw,Did.refl _ _ _,fun e he=>.inl he⟩⟩⟩
 | @load K a a' k k' ha hk ih =>
  intro w W hw es es';rcases hw.cell ha with h0|⟨v,v',h1,h2,h3⟩
  ·refine JF.lost (fun τ'=>?_);obtain⟨x,hx,hl⟩:=(hw.qg τ').far ha P (Mode.plain == .atomic);refine⟨x,Sim.qg w τ',?_,hl⟩;simp only[Sem.runT];rw[show(Sim.qg w τ').cell? a=none from h0];simp only[hx]
  ·have e2:(Sem.load .plain a' k').runT P W es'=(k' v').runT P W (es'.push ⟨.cell a',false,Mode.plain == .atomic⟩):=by simp only[Sem.runT,h2]
   have e1:∀τ',(Sem.load .plain a k).runT P (Sim.qg w τ') es=(k v).runT P (Sim.qg w τ') (es.push ⟨.cell a,false,Mode.plain == .atomic⟩):=fun τ'=>by
    simp only[Sem.runT,show(Sim.qg w τ').cell? a=some v from h1]
   simp only[e1,e2];refine(ih v v' h3 w W hw _ _).step (Did.refl _ _ _) (fun e he=>?_);rcases Array.mem_push.1 he with he|rfl
   ·exact .inl he
   ·exact .inr ⟨rfl,⟨_,ha.block⟩,(fun x=>by cases x),hw.qgS ha h1⟩
 | @store K a a' v v' k k' ha hv hk ih =>
  intro w W hw es es';by_cases ho:one v=true
  ·have ho':one v'=true:=by cases hv<;>first|rfl|cases ho
   rcases hw.cell ha with h0|⟨x,x',h1,h2,h3⟩
   ·refine JF.lost (fun τ'=>?_);obtain⟨x,hx,hl⟩:=(hw.qg τ').qAG ha P v (Mode.plain == .atomic);refine⟨x,Sim.qg w τ',?_,hl⟩;rw[qaC P _ _ _ _ _ _ ho,show(Sim.qg w τ').cell? a=none from h0];simp only[hx]
   ·by_cases hf:w.frozen? a=true
    ·refine JF.lost (fun τ'=>⟨.unsupported (.unsafePointer "a write to bytes that a string shares"),Sim.qg w τ',?_,rfl⟩)
     ·rw[qaC P _ _ _ _ _ _ ho,show(Sim.qg w τ').cell? a=some x from h1];simp only;rw[if_pos (show(Sim.qg w τ').frozen? a=true from hf)]
    ·have hf':w.frozen? a=false:=by simpa using hf
     have hF:=hw.frozen ha hf';obtain⟨y1,y2⟩:=hw.set ha h1 hf' hv
     have e2:(Sem.store .plain a' v' k').runT P W es'=k'.runT P (W.setCell a' v') (es'.push ⟨.cell a',true,Mode.plain == .atomic⟩):=by
      rw[qaC P _ _ _ _ _ _ ho',h2];simp only;rw[if_neg (by rw[hF];simp)]
     have e1:∀τ',(Sem.store .plain a v k).runT P (Sim.qg w τ') es=k.runT P (Sim.qg (w.setCell a v) τ') (es.push ⟨.cell a,true,Mode.plain == .atomic⟩):=fun τ'=>by
      rw[qaC P _ _ _ _ _ _ ho,show(Sim.qg w τ').cell? a=some x from h1];simp only;rw[if_neg (show ¬(Sim.qg w τ').frozen? a=true from hf)];rfl
     simp only[e1,e2];refine(ih _ _ y1 _ _).step y2 (fun e he=>?_);rcases Array.mem_push.1 he with he|rfl
     ·exact .inl he
     ·exact .inr ⟨rfl,⟨_,ha.block⟩,fun _=>hw.qv9 ha h1 hf',hw.qgS ha h1⟩
  ·refine JF.lost (fun τ'=>⟨.stuck "store: not the value of one cell",Sim.qg w τ',?_,rfl⟩)
   cases v<;>first|exact absurd rfl ho|rfl
 | @new K o o' k k' hO hoc hk ih =>
  intro w W hw es es';obtain⟨K',k1,k2,k3,k4,k5⟩:=hw.make hO hoc;exact(ih K' k1 _ _ k2 k3 _ _ k4 es es').step k5 (fun e he=>.inl he)
 | @shape K r r' k k' hr hk ih =>
  intro w W hw es es'
  have hs:W.shape? r'=w.shape? r:=by
   obtain⟨o,O,h1,h2,h3⟩:=hw.obj _ _ hr;unfold World.shape?;rw[h1,h2]
   cases h3 with
   | cells c C e f F hc _ _ _=>simp[hc.size]
   | _=>rfl
  simp only[Sem.runT,hs];exact ih (w.shape? r) w W hw es es'
 | @freeze K a a' n k k' ha hi hk ih =>
  intro w W hw es es';obtain⟨y1,y2⟩:=hw.frz ha hi n
  have hd:(w.freeze a n).drawn=w.drawn:=by unfold World.freeze;split<;>rfl
  have e1:∀τ',(Sim.qg w τ').freeze a n=Sim.qg (w.freeze a n) τ':=fun τ'=>by unfold World.freeze;split<;>rfl
  have:=(ih _ _ y1 es es').step y2 (fun e he=>.inl he);rw[hd]at this;simp only[Sem.runT,e1];exact this
 | @getObj K r r' k k' hr hk ih =>
  intro w W hw es es';obtain⟨o,O,h1,h2,h3⟩:=hw.obj _ _ hr
  have gg:=(ih o O h3 (hw.itk _ _ hr o h1) w W hw (es.push ⟨.obj r,false,o.isChan⟩) (es'.push ⟨.obj r',false,O.isChan⟩)).step (es:=es') (Did.refl _ _ _) (fun e he=>by
   rcases Array.mem_push.1 he with he|rfl
   ·exact .inl he
   ·exact .inr ⟨⟨_,hr⟩,(fun x=>by cases x),(fun _=>rfl),fun z o' ho'=>by rw[h2]at ho';cases ho';exact z⟩)
  simp only[Sem.runT,h2];have h1':∀τ',(Sim.qg w τ').heap[r]?=some o:=fun _=>h1;simp only[h1']
  cases h3 with
  | cells=>exact JF.lost (fun τ'=>⟨_,_,rfl,rfl⟩)
  | _=>exact gg
 | @setObj K r r' o o' k k' hr hi hO hit hk ih =>
  intro w W hw es es';obtain⟨p,q,h1,h2,h3⟩:=hw.obj _ _ hr;have hnr:=hw.it _ hi
  have hOc:o'.isChan=false:=by cases hO<;>first|rfl|cases hit
  have hp:qbK p=true:=(hw.itk _ _ hr p h1).2 hi
  have hqc:q.isChan=false:=by cases h3<;>first|rfl|cases hp
  obtain⟨l1,_⟩:=Array.getElem?_eq_some_iff.1 h1;obtain⟨l2,_⟩:=Array.getElem?_eq_some_iff.1 h2
  have y1:WR P Ro K {w with heap:=w.heap.setIfInBounds r o} {W with heap:=W.heap.setIfInBounds r' o'} :=
   hw.put hr h1 h2 _ _ rfl rfl hO (fun x=>absurd x hnr) ⟨fun _=>hi,fun _=>hit⟩ (fun x=>by cases hO<;>first|(cases hit;done)|cases x) (fun hr=>absurd hr hnr)
  have y2:Did Ro K W K {W with heap:=W.heap.setIfInBounds r' o'}:=by
   refine⟨Kr.le.refl _,fun _ _ x=>.inl x,by simp,fun b hb hx=>?_,fun b ob hb hc=>?_,rfl,rfl,rfl⟩
   ·simp only[Array.getElem?_setIfInBounds];rw[if_neg];intro e;subst e;rcases hx with hx|hx
    ·exact hx ⟨_,hr⟩
    ·exact hnr hx
   ·simp only[Array.getElem?_setIfInBounds];rw[if_neg]
    ·exact hb
    ·intro e;subst e;rw[h2]at hb;injection hb with hb;subst hb;rw[hqc]at hc;cases hc
  have gg:=(ih _ _ y1 (es.push ⟨.obj r,true,o.isChan⟩) (es'.push ⟨.obj r',true,o'.isChan⟩)).step (es:=es') y2 (fun e he=>by
   rcases Array.mem_push.1 he with he|rfl
   ·exact .inl he
   ·exact .inr ⟨⟨_,hr⟩,(fun _=>hnr),(fun z=>by rw[show o'.isChan=false from hOc]at z;cases z),fun _ o2 ho2=>by rw[h2]at ho2;cases ho2;exact hqc⟩)
  simp only[Sem.runT,h2];have h1':∀τ',(Sim.qg w τ').heap[r]?=some p:=fun _=>h1;simp only[h1']
  cases h3 with
  | cells=>exact JF.lost (fun τ'=>⟨_,_,rfl,rfl⟩)
  | chan=>cases hp
  | _=>exact gg
 | @setMap K r r' c C n k k' hr hm hni hE hk ih =>
  intro w W hw es es';obtain⟨p,q,h1,h2,h3⟩:=hw.obj _ _ hr;have hO:OR K (.map c n) (.map C n):=.map _ _ _ hE;by_cases hnr:Ro r'
  ·obtain⟨c1,e1,f1,rfl⟩:=(hw.wm hm).1 _ _ hr hnr p h1;simp only[Sem.runT,h2];have h1':∀τ',(Sim.qg w τ').heap[r]?=some (.cells c1 e1 f1):=fun _=>h1;simp only[h1'];exact JF.lost (fun τ'=>⟨_,_,rfl,rfl⟩)
  have hpc:p.isChan=false:=(hw.wm hm).2 _ _ hr p h1
  have hqc:q.isChan=false:=by cases h3<;>first|rfl|cases hpc
  have y1:WR P Ro K {w with heap:=w.heap.setIfInBounds r (.map c n)} {W with heap:=W.heap.setIfInBounds r' (.map C n)} :=
   hw.put hr h1 h2 _ _ rfl rfl hO (fun x=>absurd x hnr) ⟨(fun x=>by cases x),fun x=>absurd x hni⟩ (fun x=>by cases x) (fun hr=>absurd hr hnr)
  have y2:Did Ro K W K {W with heap:=W.heap.setIfInBounds r' (.map C n)}:=by
   refine⟨Kr.le.refl _,fun _ _ x=>.inl x,by simp,fun b hb hx=>?_,fun b ob hb hc=>?_,rfl,rfl,rfl⟩
   ·simp only[Array.getElem?_setIfInBounds];rw[if_neg];intro e;subst e;rcases hx with hx|hx
    ·exact hx ⟨_,hr⟩
    ·exact hnr hx
   ·simp only[Array.getElem?_setIfInBounds];rw[if_neg]
    ·exact hb
    ·intro e;subst e;rw[h2]at hb;injection hb with hb;subst hb;rw[hqc]at hc;cases hc
  have gg:=(ih _ _ y1 (es.push ⟨.obj r,true,false⟩) (es'.push ⟨.obj r',true,false⟩)).step (es:=es') y2 (fun e he=>by
   rcases Array.mem_push.1 he with he|rfl
   ·exact .inl he
   ·exact .inr ⟨⟨_,hr⟩,(fun _=>hnr),(fun z=>by cases z),fun _ o2 ho2=>by rw[h2]at ho2;cases ho2;exact hqc⟩)
  simp only[Sem.runT,h2];have h1':∀τ',(Sim.qg w τ').heap[r]?=some p:=fun _=>h1;simp only[h1']
  cases h3 with
  | cells=>exact JF.lost (fun τ'=>⟨_,_,rfl,rfl⟩)
  | chan=>cases hpc
  | _=>exact gg
 | @choose K q k k' hk ih =>
  intro w W hw es es';by_cases hq:q.forced=true
  ·simp only[Sem.runT,hq,if_true];exact ih 0 w W hw es es'
  ·simp only[Sem.runT,hq,Bool.false_eq_true,if_false];have hw':WR P Ro K {w with drawn:=w.drawn+1} {W with drawn:=W.drawn+1}:=⟨hw.gl,hw.gs,hw.fn1,hw.fn2,hw.obj,hw.ro,hw.qaE,hw.qbF,hw.it,hw.own,hw.itk,hw.qar,hw.wm⟩
   refine JF.draw (fun q=>W.tape W.drawn q) ((ih (q.cut (W.tape W.drawn q)) _ _ hw' es es').step (Did.draw Ro K W _) (fun e he=>.inl he)) (fun τ' e=>?_)
   have h0:(Sim.qg w τ').tape (Sim.qg w τ').drawn q=W.tape W.drawn q:=by
    show τ' w.drawn q=_;rw[e]
   rw[h0];rfl
 | @chooseL K q k s' n _ _ ih ih0 =>
  intro w W hw es es';by_cases hq:q.forced=true
  ·simp only[Sem.runT,hq,if_true];exact ih0 w W hw es es'
  ·simp only[Sem.runT,hq,Bool.false_eq_true,if_false];have hw':WR P Ro K {w with drawn:=w.drawn+1} W:=⟨hw.gl,hw.gs,hw.fn1,hw.fn2,hw.obj,hw.ro,hw.qaE,hw.qbF,hw.it,hw.own,hw.itk,hw.qar,hw.wm⟩
   refine JF.draw (fun _=>n) (ih _ _ hw' es es') (fun τ' e=>?_)
   have h0:(Sim.qg w τ').tape (Sim.qg w τ').drawn q=n:=by
    show τ' w.drawn q=_;rw[e]
   rw[h0];rfl
 | @frozen K a a' k k' ha hk ih =>
  intro w W hw es es';simp only[Sem.runT];refine ih (w.frozen? a) (W.frozen? a') (fun hb=>?_) w W hw es es'
  cases hf:w.frozen? a with
  | true=>rfl
  | false=>rw[hw.frozen ha hf]at hb;cases hb
 | program _ ih=>exact fun w W hw es es'=>ih w W hw es es'
 | noRoom _ ih =>
  intro w W hw es es';refine(ih w W hw (es.push ⟨.mark .noRoom,false,true⟩) (es'.push ⟨.mark .noRoom,false,true⟩)).step (Did.refl _ _ _) (fun e he=>?_);rcases Array.mem_push.1 he with he|rfl
  ·exact .inl he
  ·exact .inr trivial
 | @extern K f _ _ _ ih =>
  intro w W hw es es';refine(ih w W hw (es.push ⟨.mark (.extern f),false,true⟩) (es'.push ⟨.mark (.extern f),false,true⟩)).step (Did.refl _ _ _) (fun e he=>?_);rcases Array.mem_push.1 he with he|rfl
  ·exact .inl he
  ·exact .inr trivial
 | panic h=>exact fun w W hw es es'=>⟨0,w.tape,.inl ⟨.halt (.panic _) w,es,fun τ' _=>rfl,rfl,⟨_,_,_,rfl,h,hw,Did.refl _ _ _,fun e he=>.inl he⟩⟩⟩
 | @lost K h s hl=>exact fun w W hw es es'=>JF.lost (fun τ'=>⟨h,_,rfl,hl⟩)
 | shapeR _ ih=>exact fun w W hw es es'=>ih _ w W hw es es'
 | frozenR _ ih=>exact fun w W hw es es'=>ih _ w W hw es es'
 | uniq _ ih=>exact fun w W hw es es'=>ih hw.fn1 hw.fn2 hw.gl w W hw es es'
 | @doomed K s s' h=>exact fun w W hw es es'=>JF.lost (fun τ'=>h (Sim.qg w τ') es)
end Sim
namespace Sim
abbrev EqT{α:Type}:Kr->α->α->Prop:=fun _ a a'=>a=a'
abbrev VT:Kr->Value->Value->Prop:=fun K v v'=>VR K v v'
abbrev AT:Kr->Addr->Addr->Prop:=fun K a a'=>AR K a a'
abbrev AVT:Kr->Array Value->Array Value->Prop:=fun K a a'=>AV K a a'
abbrev UT:Kr->Unit->Unit->Prop:=fun _ _ _=>True
def jX:Nat->Value->Bool
 | 0,_=>false
 | n+1,v=>match v with
  | .bool _|.int .. |.string _|.pointer none|.slice none .. |.map none|.chan none|.nilFunc|.nilIface=>true
  | .agg xs|.tuple xs=>xs.toList.all (jX n)
  | .iface _ x=>jX n x
  | _=>false
theorem jk(K:Kr):∀(n:Nat) (v:Value),jX n v=true->VR K v v
 | 0,_,h=>by cases h
 | n+1,v,h=>by
  have arr:∀xs:Array Value,xs.toList.all (jX n)=true->∀(i:Nat) (x y:Value),xs[i]?=some x->xs[i]?=some y->VR K x y:=fun xs hx i x y h1 h2=>by
   rw[h1]at h2;cases h2;exact jk K n x (List.all_eq_true.1 hx x (by simpa using Array.mem_of_getElem? h1))
  cases v with
  | bool b=>exact .bool b
  | int k n=>exact .int k n
  | float k n=>cases h
  | complex k n m=>cases h
  | string s=>exact .string s
  | pointer a=>cases a with|none=>exact .ptr0|some a=>cases h
  | slice a n c=>cases a with|none=>exact .slice0 n c|some a=>cases h
  | map a=>cases a with|none=>exact .map0|some a=>cases h
  | chan a=>cases a with|none=>exact .chan0|some a=>cases h
  | func f xs ys=>cases h
  | nilFunc=>exact .nilFunc
  | iface t x=>exact .iface t x x (jk K n x h)
  | nilIface=>exact .nilIface
  | agg xs=>exact .agg xs xs rfl (arr xs h)
  | tuple xs=>exact .tuple xs xs rfl (arr xs h)
def vg:Nat->Value->Bool
 | 0,_=>false
 | n+1,v=>match v with
  | .bool _|.int .. |.string _|.pointer none|.slice none .. |.map none|.chan none|.nilFunc|.nilIface=>true
  | .agg xs=>xs.toList.all (vg n)
  | .iface _ x=>vg n x
  | _=>false
theorem qcl:∀(n:Nat) (v:Value),vg n v=true->jX n v=true
 | 0,_,h=>by cases h
 | n+1,v,h=>by
  cases v with
  | iface t x=>exact qcl n x h
  | agg xs=>exact List.all_eq_true.2 fun x hx=>qcl n x (List.all_eq_true.1 h x hx)
  | tuple xs=>cases h
  | float k n=>cases h
  | complex k n m=>cases h
  | func f xs ys=>cases h
  | pointer a=>cases a with|none=>rfl|some a=>cases h
  | slice a n c=>cases a with|none=>rfl|some a=>cases h
  | map a=>cases a with|none=>rfl|some a=>cases h
  | chan a=>cases a with|none=>rfl|some a=>cases h
  | _=>rfl
theorem qdT{K:Kr}:∀(n:Nat) (v v':Value),vg n v=true->VR K v v'->v'=v
 | 0,_,_,h,_=>by cases h
 | n+1,v,v',h,hv=>by
  have arr:∀xs ys:Array Value,xs.toList.all (vg n)=true->xs.size=ys.size->(∀(i:Nat) (x y:Value),xs[i]?=some x->ys[i]?=some y->VR K x y)->ys=xs:=fun xs ys hx hs hxy=>by
   apply Array.ext hs.symm;intro i h1 h2;have e1:xs[i]?=some xs[i]:=Array.getElem?_eq_getElem h2;have e2:ys[i]?=some ys[i]:=Array.getElem?_eq_getElem h1;exact qdT n _ _ (List.all_eq_true.1 hx _ (by simp)) (hxy i _ _ e1 e2)
  cases hv with
  | ptr a b e=>cases h
  | slice a b n c e=>cases h
  | map a b e=>cases h
  | chan a b e=>cases h
  | func=>cases h
  | iface t x y e=>rw[qdT n x y h e]
  | agg xs ys h1 h2=>rw[arr xs ys h h1 h2]
  | tuple xs ys h1 h2=>cases h
  | junk v e=>cases h
  | junkF=>cases h
  | _=>rfl
structure VI(P:Program):Prop where
 zero:∀t i v,t<P.types.size->P.info? t=some i->i.zero=some v->jX 9 v=true
 slice:∀t e,t<P.types.size->P.underlying t=some (.slice e)->e<P.types.size
 map:∀t k e,t<P.types.size->P.underlying t=some (.map k e)->e<P.types.size
 none_:∃i,P.info? 0=some i/\i.methods.find? (·.name == "")=none
section
variable {P:Program}{K:Kr}
variable {α α' β:Type}{a a':Addr}{v v':Value}{xs ys:Array Value}
theorem SR.yB{T:Kr->α->α'->Prop}{f:Program->Sem α}{f':Program->Sem α'}(h:SR P T K (f P) (f' P)):SR P T K (Go.program >>= f) (Go.program >>= f'):=SR.program h
theorem SR.qhc(a:α):SR P EqT K (Pure.pure a:Sem α) (Pure.pure a):=SR.pure rfl
theorem SR.stuck{T:Kr->α->α'->Prop}{s:String}{x:Sem α'}:SR P T K (Go.stuck s:Sem α) x:=SR.lost rfl
theorem SR.zT{T:Kr->α->α'->Prop}{s:Unsupported}{x:Sem α'}(h:za (.unsupported s)=true:=by rfl):SR P T K (Go.unsupported s:Sem α) x:=SR.lost h
theorem SR.qaM{T:Kr->α->α'->Prop}{s:String}{f:β->Sem α}{x:Sem α'}:SR P T K ((Go.stuck s:Sem β) >>= f) x:=SR.lost rfl
theorem SR.qbL{T:Kr->α->α'->Prop}{s:Unsupported}{f:β->Sem α}{x:Sem α'}(h:za (.unsupported s)=true:=by rfl):SR P T K ((Go.unsupported s:Sem β) >>= f) x:=SR.lost h
theorem zj(t:TypeId):SR P (fun _ a a'=>a=a'/\P.info? t=some a) K (typeInfo t) (typeInfo t):=by
 refine SR.yB ?_
 cases h:P.info? t with
 | none=>exact SR.stuck
 | some i=>exact SR.pure ⟨rfl,rfl⟩
theorem qq(t:TypeId):SR P (fun _ a a'=>a=a'/\P.underlying t=some a) K (underlying t) (underlying t):=by
 refine SR.yB ?_
 cases h:P.underlying t with
 | none=>exact SR.stuck
 | some i=>exact SR.pure ⟨rfl,rfl⟩
theorem yw(H:VI P){t:TypeId}(ht:t<P.types.size):SR P (fun K v v'=>VR K v v'/\v=v'/\jX 9 v=true) K (zeroValue t) (zeroValue t):=by
 refine(zj t).bind' (fun K' _ a a' h=>?_);obtain⟨rfl,hi⟩:=h
 cases hz:a.zero with
 | none=>exact SR.zT
 | some v=>exact SR.pure ⟨jk _ _ _ (H.zero t a v ht hi hz),rfl,H.zero t a v ht hi hz⟩
theorem zJ(t:TypeId):SR P EqT K (sizeOf t) (sizeOf t):=(zj t).bind' (fun K' _ a a' h=>by obtain⟨rfl,_⟩:=h;exact SR.qhc _)
theorem qnF(t:TypeId):SR P EqT K (isAgg t) (isAgg t):=by
 refine(qq t).bind' (fun K' _ a a' h=>?_);obtain⟨rfl,_⟩:=h;cases a<;>exact SR.qhc _
theorem qhd(h:AR K a a'):SR P VT K (load a) (load a'):=SR.load h (fun _ _ hv=>SR.pure hv)
theorem qvu(h:AR K a a')(hv:VR K v v'):SR P UT K (store a v) (store a' v'):=SR.store h hv (SR.pure trivial)
theorem qdF{a a':Addr}:∀(n i:Nat) (K:Kr),AR K a a'->∀(xs ys:Array Value),AV K xs ys->SR P AVT K (loadCellsFrom a i n xs) (loadCellsFrom a' i n ys)
 | 0,_,_,_,_,_,h=>SR.pure h
 | n+1,i,_K,ha,_xs,_ys,h=>(qhd (ha.add i)).bind' (fun K' hle _v _v' hv=>qdF n (i+1) K' (ha.mono hle) _ _ ((h.mono hle).push hv))
theorem qdG(h:AR K a a')(n:Nat):SR P AVT K (loadCells a n) (loadCells a' n):=qdF n 0 K h _ _ (AV.empty K)
theorem qjl(t:TypeId)(h:AR K a a'):SR P VT K (loadVar t a) (loadVar t a'):=by
 refine(qnF t).bind' (fun K' hle b b' e=>?_);subst e
 cases b with
 | false=>exact qhd (h.mono hle)
 | true =>
  refine(zJ t).bind' (fun K'' qkh n n' e=>?_);subst e;exact(qdG ((h.mono hle).mono qkh) n).bind' (fun K3 qBw xs ys hx=>SR.pure (.agg _ _ hx.size hx.el))
theorem qfR{a a':Addr}:∀(vs vs':List Value) (i:Nat) (K:Kr),AR K a a'->vs.length=vs'.length->(∀(j:Nat) (x y:Value),vs[j]?=some x->vs'[j]?=some y->VR K x y)->SR P UT K (storeCells a vs i) (storeCells a' vs' i)
 | [],vs',i,K,ha,hl,_=>by
  cases vs' with
  | nil=>exact SR.pure trivial
  | cons _ _=>cases hl
 | v::r,vs',i,K,ha,hl,hv=>by
  cases vs' with
  | nil=>cases hl
  | cons v' r' =>
   exact(qvu (ha.add i) (hv 0 v v' rfl rfl)).bind' (fun K' hle _ _ _=>qfR r r' (i+1) K' (ha.mono hle) (by simpa using hl) (fun j x y h1 h2=>(hv (j+1) x y (by simpa using h1) (by simpa using h2)).mono hle))
theorem vU(i:Nat)(ha:AR K a a')(h:AV K xs ys):SR P UT K (storeCells a xs.toList i) (storeCells a' ys.toList i) :=
 qfR _ _ i K ha (by simpa using h.size) (fun j x y h1 h2=>h.el j x y (by simpa using h1) (by simpa using h2))
theorem VR.vt(h:VR K v v'):AV K v.cells v'.cells:=by
 cases h with
 | agg xs ys h1 h2=>exact⟨h1,h2⟩
 | bool b=>exact AV.one (.bool b)
 | int k n=>exact AV.one (.int k n)
 | string s=>exact AV.one (.string s)
 | ptr0=>exact AV.one .ptr0
 | ptr a b e=>exact AV.one (.ptr a b e)
 | slice0 n c=>exact AV.one (.slice0 n c)
 | slice a b n c e=>exact AV.one (.slice a b n c e)
 | map0=>exact AV.one .map0
 | map a b e=>exact AV.one (.map a b e)
 | chan0=>exact AV.one .chan0
 | chan a b e=>exact AV.one (.chan a b e)
 | func f g xs ys us vs e h1 h2 h3 h4=>exact AV.one (.func f g xs ys us vs e h1 h2 h3 h4)
 | nilFunc=>exact AV.one .nilFunc
 | iface t x y e=>exact AV.one (.iface t x y e)
 | nilIface=>exact AV.one .nilIface
 | tuple xs ys h1 h2=>exact AV.one (.tuple xs ys h1 h2)
 | junk _ e=>rw[qoJ e];exact AV.one (.junk _ e)
 | junkF n ys vs=>exact AV.one (.junkF n ys vs)
theorem qoK(t:TypeId)(h:AR K a a')(hv:VR K v v'):SR P UT K (storeVar t a v) (storeVar t a' v'):=by
 refine(zJ t).bind' (fun K' hle n n' e=>?_);subst e;have hc:=(hv.mono hle).vt;by_cases hs:v.cells.size=n
 ·have hs':v'.cells.size=n:=hc.size.symm.trans hs;simp only[hs,hs',ne_eq,not_true_eq_false,if_false];exact(SR.pure (T:=UT) (a:=()) (a':=()) trivial).bind' (fun K'' qkh _ _ _=>(vU 0 ((h.mono hle).mono qkh) (hc.mono qkh)))
 ·have hs':¬v'.cells.size=n:=fun e=>hs (hc.size.trans e);simp only[hs,ne_eq,not_false_eq_true,if_true];exact SR.qaM
theorem qbb(e:TypeId)(h:AV K xs ys):SR P (fun K a a'=>AR K a a'/\K.Own a'.block) K (newRow e xs) (newRow e ys) :=
 SR.new (.cells _ _ _ _ _ h (.inl (Nat.le_refl _)) (Nat.le_refl _) (fun i h1 h2=>by omega)) rfl (fun K' _ r r' hr ho=>SR.pure ⟨⟨hr,rfl,rfl⟩,ho⟩)
theorem qkV(e:TypeId)(h:VR K v v'):SR P (fun K a a'=>AR K a a'/\K.Own a'.block) K (newVar e v) (newVar e v'):=qbb e h.vt
theorem qhe(t:TypeId)(h:AV K xs ys)(off:Nat):SR P VT K (part t xs off) (part t ys off):=by
 refine(qnF t).bind' (fun K' hle b b' e=>?_);subst e;have h':=h.mono hle
 cases b with
 | true =>
  refine(zJ t).bind' (fun K'' qkh n n' e=>?_);subst e;have:=(h'.mono qkh).extract off (off+n);exact SR.pure (.agg _ _ this.size this.el)
 | false =>
  rcases h'.get? off with⟨h1,_⟩|⟨x,y,h1,h2,h3⟩
  ·simp only[h1,Bool.false_eq_true,if_false];exact SR.stuck
  ·simp only[h1,h2,Bool.false_eq_true,if_false];exact SR.pure h3
theorem qd4{T:Kr->α->α'->Prop}(v:Value)(h:jX 9 v=true):SR P T K (goPanic v:Sem α) (goPanic v:Sem α'):=SR.panic (jk _ _ _ h)
theorem qjq{T:Kr->α->α'->Prop}(m:String):SR P T K (runtimePanic (.error m):Sem α) (runtimePanic (.error m):Sem α'):=SR.yB (qd4 _ rfl)
theorem qry{T:Kr->α->α'->Prop}(m:String):SR P T K (runtimePanic (.plain m):Sem α) (runtimePanic (.plain m):Sem α'):=SR.yB (qd4 _ rfl)
theorem qb7{T:Kr->α->α'->Prop}:SR P T K (runtimePanic .nilDeref:Sem α) (runtimePanic .nilDeref:Sem α'):=SR.yB (qd4 _ rfl)
theorem qhK{T:Kr->α->α'->Prop}(x y:Int)(s:Bool)(c:BoundsCode):SR P T K (runtimePanic (.bounds x y s c):Sem α) (runtimePanic (.bounds x y s c):Sem α'):=SR.yB (qd4 _ rfl)
theorem yb{β':Type}{T:Kr->α->α'->Prop}{f:β->Sem α}{f':β'->Sem α'}(m:String):SR P T K ((runtimePanic (.error m):Sem β) >>= f) ((runtimePanic (.error m):Sem β') >>= f'):=SR.program (SR.panic (jk _ 9 _ rfl))
theorem xN(q:Question):SR P EqT K (choose q) (choose q):=SR.choose (fun _n=>SR.pure rfl)
theorem qyp{f:α->β}{s s':Sem α}(h:SR P EqT K s s'):SR P EqT K (f <$> s) (f <$> s'):=by
 show SR P EqT K (s.bind (fun a=>.pure (f a))) (s'.bind (fun a=>.pure (f a)));exact h.bind (fun K' _ a a' e=>by subst e;exact SR.pure rfl)
theorem qcB{T:Kr->α->α'->Prop}(k:IntKind)(x y:Int)(c:BoundsCode):SR P T K (boundsPanic k x y c:Sem α) (boundsPanic k x y c:Sem α'):=by
 unfold boundsPanic;dsimp only;by_cases h:(k != .u64&&decide (0<=x)&&decide (x<=31))=true
 ·rw[if_pos h,if_pos h];refine SR.bind' (T:=EqT) (qyp (xN _)) (fun K' _ a a' e=>?_);subst e;exact qhK _ _ _ _
 ·rw[if_neg h,if_neg h];refine SR.bind' (T:=EqT) (SR.qhc _) (fun K' _ a a' e=>?_);subst e;exact qhK _ _ _ _
theorem qc4(h:VR K v v'):SR P EqT K (asIntOf v) (asIntOf v'):=by
 cases h<;>first|exact SR.qhc _|exact SR.stuck|exact SR.zT
theorem qa2(h:VR K v v'):SR P EqT K (asInt v) (asInt v'):=(qc4 h).bind' (fun K' _ a a' e=>by subst e;exact SR.qhc _)
theorem qkL(h:VR K v v'):SR P EqT K (asBool v) (asBool v'):=by
 cases h<;>first|exact SR.qhc _|exact SR.stuck
theorem qvv(h:VR K v v'):SR P AVT K (asAgg v) (asAgg v'):=by
 cases h<;>first|exact SR.stuck|exact SR.pure ⟨by assumption,by assumption⟩
theorem qkM(h:VR K v v'):SR P AT K (asAddr v) (asAddr v'):=by
 cases h<;>first|exact SR.stuck|exact SR.pure (by assumption)|exact qb7
theorem qaN(h:VR K v v'):SR P AT K (Instr.sureAddr v) (Instr.sureAddr v'):=by
 cases h<;>first|exact SR.stuck|exact SR.pure (by assumption)
theorem qc5(n:Nat):SR P UT K (askRoom n) (askRoom n):=by
 unfold askRoom;split
 ·exact SR.noRoom (SR.pure trivial)
 ·exact SR.pure trivial
end
end Sim
namespace Sim
variable {xs ys:Array Value}
structure Kr.wide(K K':Kr):Prop where
 b:∀a b,K.B a b->K'.B a b
 fs:∀f,K.Fs (1000000+f)->K'.Fs (1000000+f)
theorem Kr.le.wide{K K':Kr}(h:K.le K'):K.wide K':=⟨h.b,fun f x=>by rw[h.fs];exact x⟩
theorem AR.wide{K K':Kr}(h:K.wide K'){a b:Addr}(x:AR K a b):AR K' a b:=⟨h.b _ _ x.block,x.off,x.spot⟩
theorem VR.wide{K K':Kr}(h:K.wide K'){x y:Value}(v:VR K x y):VR K' x y:=by
 induction v with
 | bool b=>exact .bool b
 | int k n=>exact .int k n
 | string s=>exact .string s
 | ptr0=>exact .ptr0
 | ptr a b e=>exact .ptr a b (e.wide h)
 | slice0 n c=>exact .slice0 n c
 | slice a b n c e=>exact .slice a b n c (e.wide h)
 | map0=>exact .map0
 | map a b e=>exact .map a b (h.b _ _ e)
 | chan0=>exact .chan0
 | chan a b e=>exact .chan a b (h.b _ _ e)
 | func f g xs ys us vs e h1 _ h2 _ i1 i2 =>
  cases e with
  | func f hf=>exact .func _ _ xs ys us vs (.func f (h.fs f hf)) h1 i1 h2 i2
 | nilFunc=>exact .nilFunc
 | iface t x y _ ih=>exact .iface t x y ih
 | nilIface=>exact .nilIface
 | agg xs ys h1 _ ih=>exact .agg xs ys h1 ih
 | tuple xs ys h1 _ ih=>exact .tuple xs ys h1 ih
 | junk v h1=>exact .junk v h1
 | junkF n ys vs=>exact .junkF n ys vs
theorem AV.wide{K K':Kr}(h:K.wide K')(v:AV K xs ys):AV K' xs ys:=⟨v.size,fun i x y h1 h2=>(v.el i x y h1 h2).wide h⟩
theorem EV.wide{K K':Kr}(h:K.wide K'){xs ys:Array MapEntry}(v:EV K xs ys):EV K' xs ys:=⟨v.size,fun i x y h1 h2=>let ⟨a,b,c⟩:=v.el i x y h1 h2;⟨a.wide h,b.wide h,c⟩⟩
theorem OR.wide{K K':Kr}(h:K.wide K'){o O:Obj}(x:OR K o O):OR K' o O:=by
 cases x with
 | cells c C e f F h1 h2 h3 h4=>exact .cells c C e f F (h1.wide h) h2 h3 h4
 | map c C n h1=>exact .map c C n (h1.wide h)
 | chan=>exact .chan ..
 | number a b l e=>exact .number a b l (e.wide h)
 | stringIter s p=>exact .stringIter s p
 | mapIter0 a s b=>exact .mapIter0 a s b
 | mapIter m m' a s b e=>exact .mapIter m m' a s b (h.b _ _ e)
 | dead1 s p=>exact .dead1 s p
 | dead2 m a s b=>exact .dead2 m a s b
theorem VR.later{K0 K:Kr}(w:K0.wide K)(f1:∀a b b',K.B a b->K.B a b'->b=b'){x y:Value}(v:VR K0 x y):∀{z:Value},VR K x z->VR K0 x z:=by
 have ar:∀{a b c:Addr},AR K0 a b->AR K a c->AR K0 a c:=fun {a b c} h k=>by
  have h1:=f1 _ _ _ (w.b _ _ h.block) k.block;exact⟨by rw[<-h1];exact h.block,k.off,k.spot⟩
 have av:∀{xs ys zs:Array Value},xs.size=ys.size->xs.size=zs.size->(∀(i:Nat) (x y:Value),xs[i]?=some x->ys[i]?=some y->∀{z:Value},VR K x z->VR K0 x z)->(∀(i:Nat) (x y:Value),xs[i]?=some x->zs[i]?=some y->VR K x y)->∀(i:Nat) (x y:Value),xs[i]?=some x->zs[i]?=some y->VR K0 x y:=fun {xs ys zs} h1 h2 h3 h4 i x y hx hy=>by
  have hi:i<ys.size:=by have:=(Array.getElem?_eq_some_iff.1 hx).1;omega
  exact h3 i x _ hx (Array.getElem?_eq_getElem hi) (h4 i x y hx hy)
 induction v with
 | bool b=>intro z h;cases h;exact .bool b
 | int k n=>intro z h;cases h;exact .int k n
 | string s=>intro z h;cases h;exact .string s
 | ptr0=>intro z h;cases h;exact .ptr0
 | ptr a b e=>intro z h;cases h with|ptr _ _ k=>exact .ptr _ _ (ar e k)
 | slice0 n c=>intro z h;cases h;exact .slice0 n c
 | slice a b n c e=>intro z h;cases h with|slice _ _ _ _ k=>exact .slice _ _ _ _ (ar e k)
 | map0=>intro z h;cases h;exact .map0
 | map a b e=>intro z h;cases h with|map _ _ k=>rw[<-f1 _ _ _ (w.b _ _ e) k];exact .map _ _ e
 | chan0=>intro z h;cases h;exact .chan0
 | chan a b e=>intro z h;cases h with|chan _ _ k=>rw[<-f1 _ _ _ (w.b _ _ e) k];exact .chan _ _ e
 | func f g xs ys us vs e h1 _ h2 _ i1 i2 =>
  intro z h
  cases h with
  | func _ g' _ ys' _ vs' e' k1 k2 k3 k4 =>
   cases e with
   | func f hf =>
    cases e';exact .func _ _ _ _ _ _ (.func f hf) k1 (av h1 k1 (fun i x y a b=>i1 i x y a b) k2) k3 (av h2 k3 (fun i x y a b=>i2 i x y a b) k4)
  | junkF=>cases e
 | nilFunc=>intro z h;cases h;exact .nilFunc
 | iface t x y _ ih=>intro z h;cases h with|iface _ _ _ k=>exact .iface _ _ _ (ih k)
 | nilIface=>intro z h;cases h;exact .nilIface
 | agg xs ys h1 _ ih=>intro z h;cases h with|agg _ zs k1 k2=>exact .agg _ _ k1 (av h1 k1 (fun i x y a b=>ih i x y a b) k2)
 | tuple xs ys h1 _ ih =>
  intro z h
  cases h with
  | tuple _ zs k1 k2=>exact .tuple _ _ k1 (av h1 k1 (fun i x y a b=>ih i x y a b) k2)
  | junk _ h=>exact .junk _ h
 | junk v h1 =>
  intro z h
  cases h with
  | tuple _ zs k1 k2=>exact .tuple _ _ k1 (fun i x y h=>by simp at h)
  | junk _ h=>exact .junk _ h
 | junkF n ys vs =>
  intro z h
  cases h with
  | func _ g' _ ys' _ vs' e' k1 k2 k3 k4=>cases e'
  | junkF n' ys' vs'=>exact .junkF n' ys' vs'
theorem AV.later{K0 K:Kr}(w:K0.wide K)(f1:∀a b b',K.B a b->K.B a b'->b=b'){zs:Array Value}(h:AV K0 xs ys)(k:AV K xs zs):AV K0 xs zs :=
 ⟨k.size,fun i x y hx hy=>(h.el i x _ hx (Array.getElem?_eq_getElem (by have:=(Array.getElem?_eq_some_iff.1 hx).1;have:=h.size;omega))).later w f1 (k.el i x y hx hy)⟩
theorem OR.later{K0 K:Kr}(h:K0.wide K)(f1:∀a b b',K.B a b->K.B a b'->b=b'){o O0 O:Obj}(x:OR K0 o O0)(y:OR K o O):OR K0 o O:=by
 cases x with
 | cells c C e f F h1 h2 h3 h4 =>
  cases y with
  | cells _ C' _ _ F' k1 k2 k3 k4=>exact .cells c C' e f F' (h1.later h f1 k1) k2 k3 k4
 | map c C n h1 =>
  cases y with
  | map _ C' _ k1 =>
   refine .map c C' n ⟨k1.size,fun i x y h2 h3=>?_⟩
   have hi:i<C.size:=by have:=h1.size;have:=(Array.getElem?_eq_some_iff.1 h2).1;omega
   have h4:=h1.el i x _ h2 (Array.getElem?_eq_getElem hi);have h5:=k1.el i x y h2 h3;refine⟨?_,?_,h5.2.2⟩
   ·exact h4.1.later h f1 h5.1
   ·exact h4.2.1.later h f1 h5.2.1
 | chan c b l s r t =>
  cases y with
  | chan=>exact .chan ..
  | dead1 s p=>exact .dead1 s p
  | dead2 m a s b=>exact .dead2 m a s b
 | number a b l e =>
  cases y with
  | number _ b' _ k =>
   have:b=b':=by
    obtain⟨b1,b2,b3⟩:=b;obtain⟨c1,c2,c3⟩:=b';have h1:=f1 _ _ _ (h.b _ _ e.block) k.block;have h2:=e.off;have h3:=e.spot;have k2:=k.off;have k3:=k.spot;dsimp only at *;subst h1;subst h2;subst h3;subst k2;subst k3;rfl
   subst this;exact .number a b l e
 | stringIter s p=>cases y;exact .stringIter s p
 | mapIter0 a s b=>cases y;exact .mapIter0 a s b
 | mapIter m m' a s b e =>
  cases y with
  | mapIter _ m2 _ _ _ k=>rw[<-f1 _ _ _ (h.b _ _ e) k];exact .mapIter m m' a s b e
 | dead1 s p =>
  cases y with
  | chan=>exact .chan ..
  | dead1 s p=>exact .dead1 s p
  | dead2 m a s b=>exact .dead2 m a s b
 | dead2 m a s b =>
  cases y with
  | chan=>exact .chan ..
  | dead1 s p=>exact .dead1 s p
  | dead2 m a s b=>exact .dead2 m a s b
section
variable {P:Program}{Ro:Nat->Prop}
variable {w W:World}{i:Nat}{Fs:FuncId->Prop}
theorem WR.later{K0 K:Kr}{w0 W0:World}(h0:WR P Ro K0 w0 W0)(h:WR P Ro K w W)(le:K0.le K)(same:∀a b,K0.B a b->w.heap[a]?=w0.heap[a]?):WR P Ro K0 w W:=by
 refine⟨h0.gl,h.gs,h0.fn1,h0.fn2,fun a b hab=>?_,fun a b hab=>h.ro a b (le.b _ _ hab),h.qaE,fun b hb=>h.qbF b (le.it b hb),h0.it,h0.own,fun a b hab o ho=>?_,h0.qar,fun x=>?_⟩
 ·obtain⟨o0,O0,a1,a2,a3⟩:=h0.obj a b hab;obtain⟨o,O,b1,b2,b3⟩:=h.obj a b (le.b _ _ hab)
  have:o=o0:=by
   have:=same a b hab;rw[b1,a1]at this;injection this
  subst this;exact⟨o,O,b1,b2,a3.later le.wide h.fn1 b3⟩
 ·rw[same a b hab]at ho;exact h0.itk a b hab o ho
 ·have y:K.Fs P.funcs.size:=by rw[le.fs];exact x
  exact⟨fun a b hab=>(h.wm y).1 a b (le.b _ _ hab),fun a b hab=>(h.wm y).2 a b (le.b _ _ hab)⟩
def qd0:Obj->Obj
 | .cells c e f=>.cells c e (0,max c.size f.2)
 | .stringIter .. =>.chan 0 #[] false 0 0 false
 | .mapIter .. =>.chan 0 #[] false 0 0 false
 | o=>o
open Classical in
noncomputable def laid(Q:Nat->Prop)(w:World):World:={w with heap:=w.heap.mapIdx (fun i o=>if Q i then qd0 o else o)}
open Classical in
theorem qb5(Q:Nat->Prop)(w:World)(i:Nat):(laid Q w).heap[i]?=(w.heap[i]?).map (fun o=>if Q i then qd0 o else o):=by
 unfold laid;simp[Array.getElem?_mapIdx]
theorem jH(Q:Nat->Prop)(w:World):(laid Q w).heap.size=w.heap.size:=by simp[laid]
theorem xi(Q:Nat->Prop)(w:World)(a:Addr):(laid Q w).cell? a=w.cell? a:=by
 unfold World.cell?;rw[qb5]
 cases w.heap[a.block]? with
 | none=>rfl
 | some o =>
  simp only[Option.map_some];by_cases hq:Q a.block
  ·rw[if_pos hq];cases o<;>rfl
  ·rw[if_neg hq]
theorem qeW(Q:Nat->Prop)(w:World)(h:¬Q i):(laid Q w).heap[i]?=w.heap[i]?:=by
 rw[qb5]
 cases w.heap[i]? with
 | none=>rfl
 | some o=>simp[h]
theorem qeS(Q:Nat->Prop)(w:World)(h:Q i):(laid Q w).heap[i]?=(w.heap[i]?).map qd0:=by
 rw[qb5]
 cases w.heap[i]? with
 | none=>rfl
 | some o=>simp[h]
theorem OR.laid{K:Kr}{o O:Obj}(x:OR K o O):OR K (qd0 o) O:=by
 cases x with
 | cells c C e f F h1 h2 h3 h4=>exact .cells c C e _ F h1 (h2.imp id (fun x=>⟨rfl,by show F.2<=max c.size f.2;omega,by show 0<max c.size f.2;omega⟩)) (Nat.zero_le _) (fun i a b=>⟨Nat.zero_le _,by have:=h4 i a b;show i<max c.size f.2;omega⟩)
 | map c C n h1=>exact .map c C n h1
 | chan=>exact .chan ..
 | number a b l e=>exact .number a b l e
 | stringIter s p=>exact .dead1 s p
 | mapIter0 a s b=>exact .dead2 none a s b
 | mapIter m m' a s b e=>exact .dead2 (some m') a s b
 | dead1 s p=>exact .dead1 s p
 | dead2 m a s b=>exact .dead2 m a s b
theorem qkW(o:Obj):qbK (qd0 o)=false:=by cases o<;>rfl
def Kr.base(K0:Kr)(Fs:FuncId->Prop):Kr:=⟨K0.B,fun _=>False,fun _=>False,Fs⟩
def Kr.over(K0 K:Kr)(Fs:FuncId->Prop):Kr:=⟨K.B,fun b=>K.It b/\¬∃a,K0.B a b,fun b=>K.Own b/\¬∃a,K0.B a b,Fs⟩
theorem Kr.qwi{K0 K:Kr}(h:K0.le K)(Fs:FuncId->Prop):(K0.base Fs).le (K0.over K Fs):=⟨h.b,fun _ x=>x.elim,fun _ x=>x.elim,rfl,fun a _ x y=>y.2 ⟨a,x⟩⟩
theorem WR.switch{K0 K:Kr}(h0:WR P Ro K0 w W)(h:WR P Ro K w W)(le:K0.le K)(hv:∀f,K.Fs (1000000+f)->Fs (1000000+f))(hg:∀g,P.funcs.size+1+g<999999->¬Fs (P.funcs.size+1+g))(hm:¬Fs P.funcs.size) :
  WR P (fun b=>∃a,K0.B a b) (K0.over K Fs) (laid (fun a=>∃b,K0.B a b) w) W/\WR P (fun b=>∃a,K0.B a b) (K0.base Fs) (laid (fun a=>∃b,K0.B a b) w) W:=by
 have lt1:∀a b,K.B a b->a<w.heap.size/\b<W.heap.size:=fun a b hab=>by
  obtain⟨_,_,h1,h2,_⟩:=h.obj a b hab;exact⟨(Array.getElem?_eq_some_iff.1 h1).1,(Array.getElem?_eq_some_iff.1 h2).1⟩
 have wd:K.wide (K0.over K Fs):=⟨fun _ _ x=>x,hv⟩
 have wd0:K0.wide (K0.base Fs):=⟨fun _ _ x=>x,fun f x=>hv f (by rw[le.fs];exact x)⟩
 have hro:∀a b,K.B a b->(∃x,K0.B x b)->∀c e f,(laid (fun a=>∃b,K0.B a b) w).heap[a]?=some (.cells c e f)->f.1=0/\c.size<=f.2:=fun a b hab hxx c e f hl=>by
  obtain⟨x,hx⟩:=hxx;have:a=x:=h.fn2 _ _ _ hab (le.b _ _ hx);subst this;rw[qeS _ _ ⟨b,hx⟩]at hl;obtain⟨o,h1,h2⟩:=Option.map_eq_some_iff.1 hl
  cases o with
  | cells c' e' f'=>cases h2;exact⟨rfl,Nat.le_max_left _ _⟩
  | _=>cases h2
 refine⟨⟨h.gl,by rw[jH];exact h.gs,h.fn1,h.fn2,fun a b hab=>?_,hro,fun b ⟨a,hb⟩=>(lt1 a b (le.b _ _ hb)).2,fun b hb=>h.qbF b hb.1,fun b hb=>hb.2,fun b hb=>hb.2,fun a b hab o ho=>?_,fun g s x=>absurd x (hg g s),fun x=>absurd x hm⟩,
  ⟨h0.gl,by rw[jH];exact h.gs,h0.fn1,h0.fn2,fun a b hab=>?_,fun a b hab=>hro a b (le.b _ _ hab),fun b ⟨a,hb⟩=>(lt1 a b (le.b _ _ hb)).2,fun b hb=>hb.elim,fun b hb=>hb.elim,fun b hb=>hb.elim,fun a b hab o ho=>?_,fun g s x=>absurd x (hg g s),fun x=>absurd x hm⟩⟩
 ·obtain⟨o,O,h1,h2,h3⟩:=h.obj a b hab;by_cases hq:∃b,K0.B a b
  ·exact⟨qd0 o,O,by rw[qeS _ _ hq,h1];rfl,h2,h3.laid.wide wd⟩
  ·exact⟨o,O,by rw[qeW _ _ hq,h1],h2,h3.wide wd⟩
 ·by_cases hq:∃b,K0.B a b
  ·rw[qeS _ _ hq]at ho;obtain⟨o1,h1,rfl⟩:=Option.map_eq_some_iff.1 ho;rw[qkW];refine⟨fun x=>(by cases x),fun x=>?_⟩;obtain⟨b',hb'⟩:=hq;have:b=b':=h.fn1 _ _ _ hab (le.b _ _ hb');subst this;exact absurd ⟨a,hb'⟩ x.2
  ·rw[qeW _ _ hq]at ho;rw[h.itk a b hab o ho];refine⟨fun x=>⟨x,fun⟨a',ha'⟩=>?_⟩,fun x=>x.1⟩;have:a'=a:=h.fn2 _ _ _ (le.b _ _ ha') hab;subst this;exact hq ⟨b,ha'⟩
 ·obtain⟨o,O,h1,h2,h3⟩:=h0.obj a b hab;exact⟨qd0 o,O,by rw[qeS _ _ ⟨b,hab⟩,h1];rfl,h2,h3.laid.wide wd0⟩
 ·rw[qeS _ _ ⟨b,hab⟩]at ho;obtain⟨o1,h1,rfl⟩:=Option.map_eq_some_iff.1 ho;rw[qkW];exact⟨fun x=>(by cases x),fun x=>x.elim⟩
def Kr.with(K0:Kr)(c0 c:Nat):Kr:=⟨fun a b=>K0.B a b\/(a=c0/\b=c),K0.It,K0.Own,K0.Fs⟩
theorem Kr.qj8(K0:Kr)(c0 c:Nat):K0.le (K0.with c0 c):=⟨fun _ _ x=>.inl x,fun _ x=>x,fun _ x=>x,rfl,fun _ _ _ x=>x⟩
theorem WR.with{K0 K:Kr}{w W:World}(h0:WR P Ro K0 w W)(h:WR P Ro K w W)(le:K0.le K){c0 c:Nat}(hB:K.B c0 c)(hc:∀o,w.heap[c0]?=some o->o.isChan=true)(hm:¬K0.Fs P.funcs.size)(hro:¬Ro c):WR P Ro (K0.with c0 c) w W:=by
 have up:∀a b,(K0.with c0 c).B a b->K.B a b:=fun a b x=>x.elim (le.b _ _) (fun⟨e1,e2⟩=>by subst e1;subst e2;exact hB);have wl:=(K0.qj8 c0 c)
 refine⟨fun a b x=>h.gl a b (up a b x),h.gs,fun a b b' x y=>h.fn1 a b b' (up _ _ x) (up _ _ y),fun a a' b x y=>h.fn2 a a' b (up _ _ x) (up _ _ y),fun a b x=>?_,fun a b x=>h.ro a b (up _ _ x),h.qaE,h0.qbF,h0.it,h0.own,fun a b x o ho=>?_,fun g s x=>.inl (h0.qar g s x),fun x=>absurd x hm⟩
 ·rcases x with x|⟨rfl,rfl⟩
  ·obtain⟨o,O,h1,h2,h3⟩:=h0.obj a b x;exact⟨o,O,h1,h2,h3.mono wl⟩
  ·obtain⟨o,O,h1,h2,h3⟩:=h.obj _ _ hB;refine⟨o,O,h1,h2,?_⟩;have:=hc o h1
   cases h3 with
   | chan=>exact .chan ..
   | dead1 s p=>exact .dead1 s p
   | dead2 m a s b=>exact .dead2 m a s b
   | _=>cases this
 ·rcases x with x|⟨rfl,rfl⟩
  ·exact h0.itk a b x o ho
  ·have hch:=hc o ho;constructor
   ·intro y;cases o<;>first|(cases y;done)|cases hch
   ·intro y;have:=(h.itk a b hB o ho).2 (le.it b y);cases o<;>first|(cases this;done)|cases hch
theorem qfC:∀(n:Nat) (v:Value),SizeOf.sizeOf v<=n->∃x,(∀K,VR K x v)/\(jX 9 v=true->x=v)
 | 0,v,h=>by cases v<;>simp at h<;>omega
 | n+1,v,h=>by
  by_cases hp:jX 9 v=true
  ·exact⟨v,fun K=>jk K 9 v hp,fun _=>rfl⟩
  ·cases v with
   | agg xs =>
    have hx:∀i:Nat,∃x,∀(y:Value),xs[i]?=some y->∀K,VR K x y:=fun i=>by
     cases hi:xs[i]? with
     | none=>exact⟨undef,fun y h=>by cases h⟩
     | some y =>
      have hm:y∈xs:=Array.mem_of_getElem? hi;have hs:=Array.sizeOf_lt_of_mem hm;obtain⟨x,h1,_⟩:=qfC n y (by simp at h;omega);exact⟨x,fun z hz=>by cases hz;exact h1⟩
    refine⟨.agg (Array.ofFn (n:=xs.size) fun i=>Classical.choose (hx i)),fun K=>.agg _ _ (by simp) (fun i x y h1 h2=>?_),fun h=>absurd h hp⟩;obtain⟨hi,e⟩:=Array.getElem?_eq_some_iff.1 h1;rw[Array.getElem_ofFn]at e;rw[<-e];exact Classical.choose_spec (hx i) y h2 K
   | bool b=>exact absurd rfl hp
   | nilIface=>exact absurd rfl hp
   | nilFunc=>exact absurd rfl hp
   | pointer a =>
    cases a with
    | none=>exact absurd rfl hp
    | some a=>exact⟨undef,fun K=>.junk _ rfl,fun h=>absurd h hp⟩
   | func f xs us =>
    cases f with
    | method n=>exact⟨_,fun K=>.junkF n xs us,fun h=>absurd h hp⟩
    | _=>exact⟨undef,fun K=>.junk _ rfl,fun h=>absurd h hp⟩
   | _=>exact⟨undef,fun K=>.junk _ rfl,fun h=>absurd h hp⟩
noncomputable def clean(v:Value):Value:=Classical.choose (qfC (SizeOf.sizeOf v) v (Nat.le_refl _))
theorem qvw(K:Kr)(v:Value):VR K (clean v) v:=(Classical.choose_spec (qfC (SizeOf.sizeOf v) v (Nat.le_refl _))).1 K
theorem qoL{v:Value}(h:jX 9 v=true):clean v=v:=(Classical.choose_spec (qfC (SizeOf.sizeOf v) v (Nat.le_refl _))).2 h
noncomputable def qjr:Obj->Obj
 | .cells c e f=>.cells (c.map clean) e (0,max c.size f.2+1)
 | o=>o
open Classical in
noncomputable def jz(Ro:Nat->Prop)(w:World):World:={w with heap:=w.heap.mapIdx (fun i o=>if Ro i then qjr o else o)}
open Classical in
theorem qoM(Ro:Nat->Prop)(w:World)(i:Nat):(jz Ro w).heap[i]?=(w.heap[i]?).map (fun o=>if Ro i then qjr o else o):=by
 unfold jz;simp[Array.getElem?_mapIdx]
theorem qbe(Ro:Nat->Prop)(w:World):(jz Ro w).heap.size=w.heap.size:=by simp[jz]
theorem qjs(Ro:Nat->Prop)(w:World)(h:Ro i):(jz Ro w).heap[i]?=(w.heap[i]?).map qjr:=by
 rw[qoM]
 cases w.heap[i]? with
 | none=>rfl
 | some o=>simp[h]
theorem qlJ{Ro:Nat->Prop}{a:Addr}{v:Value}(h:w.cell? a=some v)(hr:Ro a.block)(hp:jX 9 v=true):(jz Ro w).cell? a=some v:=by
 unfold World.cell? at h⊢;rw[qjs _ _ hr]
 cases ho:w.heap[a.block]? with
 | none=>rw[ho]at h;cases h
 | some o =>
  rw[ho]at h
  cases o with
  | cells c e f =>
   simp only[Option.map_some,qjr]at h⊢;split at h
   ·cases h
   ·rw[if_neg ‹_›,Array.getElem?_map,h];simp[qoL hp]
  | _=>cases h
def Kr.entry(Ro:Nat->Prop)(Fs:FuncId->Prop):Kr:=⟨fun a b=>a=b/\Ro b,fun _=>False,fun _=>False,Fs⟩
theorem WR.entry(gs:P.globals.size<=W.heap.size)(hRo:∀b,Ro b->∃c e f,W.heap[b]?=some (.cells c e f))(hg:∀g,P.funcs.size+1+g<999999->Fs (P.funcs.size+1+g)->Ro g):WR P Ro (Kr.entry Ro Fs) (jz Ro W) W:=by
 have hob:∀b,Ro b->∃c e f,(jz Ro W).heap[b]?=some (.cells (c.map clean) e (0,max c.size f.2+1))/\W.heap[b]?=some (.cells c e f):=fun b hb=>by
  obtain⟨c,e,f,h1⟩:=hRo b hb;exact⟨c,e,f,by rw[qjs _ _ hb,h1];rfl,h1⟩
 refine⟨fun a b ⟨e,_⟩=>by rw[e],⟨by rw[qbe];exact gs,gs⟩,fun a b b' ⟨e,_⟩ ⟨e',_⟩=>e.symm.trans e',fun a a' b ⟨e,_⟩ ⟨e',_⟩=>e.trans e'.symm,fun a b ⟨e,hb⟩=>?_,fun a b ⟨e,hb⟩ _ c ty f hl=>?_,fun b hb=>?_,fun b hb=>hb.elim,fun b hb=>hb.elim,fun b hb=>hb.elim,fun a b ⟨e,hb⟩ o ho=>?_,fun g s x=>⟨rfl,hg g s x⟩,fun _=>⟨fun a b ⟨e,hb⟩ _ o ho=>?_,fun a b ⟨e,hb⟩ o ho=>?_⟩⟩
 ·subst e;obtain⟨c,ty,f,h1,h2⟩:=hob _ hb;refine⟨_,_,h1,h2,.cells _ c ty _ f ⟨by simp,fun i x y hx hy=>?_⟩ (.inr ⟨rfl,by show f.2<=max c.size f.2+1;omega,Nat.succ_pos _⟩) (Nat.zero_le _) (fun i _ hi=>⟨Nat.zero_le _,?_⟩)⟩
  ·rw[Array.getElem?_map,hy]at hx;cases hx;exact qvw _ _
  ·show i<max c.size f.2+1;omega
 ·subst e;obtain⟨c',ty',f',h1,_⟩:=hob _ hb;rw[h1]at hl;cases hl;exact⟨rfl,by simp;omega⟩
 ·obtain⟨c,ty,f,h1⟩:=hRo b hb;exact(Array.getElem?_eq_some_iff.1 h1).1
 ·subst e;obtain⟨c',ty',f',h1,_⟩:=hob _ hb;rw[h1]at ho;cases ho;exact⟨fun x=>(by cases x),fun x=>x.elim⟩
 ·subst e;obtain⟨c',ty',f',h1,_⟩:=hob _ hb;rw[h1]at ho;cases ho;exact⟨_,_,_,rfl⟩
 ·subst e;obtain⟨c',ty',f',h1,_⟩:=hob _ hb;rw[h1]at ho;cases ho;rfl
end
end Sim
namespace Sim
section
variable {P:Program}{K:Kr}
variable {v v':Value}{ps ps':Array (Nat×Value)}{zs:Array Value}{a a':Addr}
theorem qu4(H:VI P){e:TypeId}(he:e<P.types.size):SR P VT K (Instr.alloc e true (.tuple #[])) (Instr.alloc e true (.tuple #[])) :=
 (yw H he).bind' (fun _K1 _ _z _z' hz=>(qkV e hz.1).bind' (fun _K2 _ _a _a' ha=>SR.pure (.ptr _ _ ha.1)))
theorem qx6(e:TypeId)(h:VR K v v'):SR P VT K (Instr.box e v) (Instr.box e v') :=
 (qkV e h).bind' (fun _K2 _ _a _a' ha=>SR.pure (.ptr _ _ ha.1))
theorem qtj{K:Kr}(place:Nat->Option (Nat×Nat)):∀(ps ps':List (Nat×Value)) (c c':Array Value),AV K c c'->ps.length=ps'.length->(∀(j:Nat) (x y:Nat×Value),ps[j]?=some x->ps'[j]?=some y->x.1=y.1/\VR K x.2 y.2) ->
  (Instr.fill place c ps=none/\Instr.fill place c' ps'=none)\/∃d d',Instr.fill place c ps=some d/\Instr.fill place c' ps'=some d'/\AV K d d'
 | [],ps',c,c',h,hl,_=>by
  cases ps' with
  | nil=>exact .inr ⟨c,c',rfl,rfl,h⟩
  | cons _ _=>cases hl
 | (i,v)::r,ps',c,c',h,hl,hp=>by
  cases ps' with
  | nil=>cases hl
  | cons p' r' =>
   obtain⟨i',v'⟩:=p';obtain⟨e0,hv⟩:=hp 0 _ _ rfl rfl;simp only at e0 hv;subst e0;have hc:=hv.vt;unfold Instr.fill
   cases place i with
   | none=>exact .inl ⟨rfl,rfl⟩
   | some q =>
    obtain⟨off,size⟩:=q;simp only[<-hc.size,<-h.size];split
    ·exact .inl ⟨rfl,rfl⟩
    ·refine qtj place r r' _ _ ?_ (by simpa using hl) (fun j x y h1 h2=>hp (j+1) x y (by simpa using h1) (by simpa using h2));rw[<-Array.foldl_toList,<-Array.foldl_toList,Array.toList_zipIdx,Array.toList_zipIdx]
     have:∀(n:Nat) (xs ys:List Value) (c c':Array Value),AV K c c'->xs.length=ys.length->(∀(j:Nat) (x y:Value),xs[j]?=some x->ys[j]?=some y->VR K x y) ->
       AV K ((xs.zipIdx n).foldl (fun cs (x:Value×Nat)=>cs.setIfInBounds (off+x.2) x.1) c) ((ys.zipIdx n).foldl (fun cs (x:Value×Nat)=>cs.setIfInBounds (off+x.2) x.1) c'):=by
      intro n xs
      induction xs generalizing n with
      | nil =>
       intro ys c c' h hl _
       cases ys with
       | nil=>exact h
       | cons _ _=>cases hl
      | cons x xs ih =>
       intro ys c c' h hl hv
       cases ys with
       | nil=>cases hl
       | cons y ys =>
        simp only[List.zipIdx_cons,List.foldl_cons];exact ih (n+1) ys _ _ (h.set _ (hv 0 x y rfl rfl)) (by simpa using hl) (fun j a b h1 h2=>hv (j+1) a b (by simpa using h1) (by simpa using h2))
     exact this 0 _ _ _ _ h (by simpa using hc.size) (fun j x y h1 h2=>hc.el j x y (by simpa using h1) (by simpa using h2))
theorem qwU{α β:Type}{f f':α->Sem β}(xs:List α):∀(K:Kr),(∀K',K.le K'->∀a,SR P EqT K' (f a) (f' a))->SR P EqT K (xs.mapM f) (xs.mapM f'):=by
 induction xs with
 | nil=>intro K _;simp only[List.mapM_nil];exact SR.pure rfl
 | cons x xs ih =>
  intro K h;simp only[List.mapM_cons];refine(h K (Kr.le.refl _) x).bind' (fun K1 h1 a a' e=>?_);subst e;exact(ih K1 (fun K' hK a=>h K' (h1.trans hK) a)).bind' (fun K2 _ b b' e=>by subst e;exact SR.pure rfl)
theorem qvx{α β:Type}{f f':α->Sem β}(xs:Array α)(h:∀K',K.le K'->∀a,SR P EqT K' (f a) (f' a)):SR P EqT K (xs.mapM f) (xs.mapM f'):=by
 rw[Array.mapM_eq_mapM_toList,Array.mapM_eq_mapM_toList];exact(qwU xs.toList K h).bind (fun K' _ a a' e=>by subst e;exact SR.pure rfl)
structure PV(K:Kr)(xs ys:Array (Nat×Value)):Prop where
 size:xs.size=ys.size
 el:∀(i:Nat) (x y:Nat×Value),xs[i]?=some x->ys[i]?=some y->x.1=y.1/\VR K x.2 y.2
theorem PV.mono{K K':Kr}(h:K.le K'){xs ys:Array (Nat×Value)}(v:PV K xs ys):PV K' xs ys:=⟨v.size,fun i x y h1 h2=>⟨(v.el i x y h1 h2).1,(v.el i x y h1 h2).2.mono h⟩⟩
theorem PV.fill{K:Kr}(v:PV K ps ps')(place:Nat->Option (Nat×Nat)){c c':Array Value}(h:AV K c c') :
  (Instr.fill place c ps.toList=none/\Instr.fill place c' ps'.toList=none)\/∃d d',Instr.fill place c ps.toList=some d/\Instr.fill place c' ps'.toList=some d'/\AV K d d' :=
 qtj place _ _ c c' h (by simpa using v.size) (fun j x y h1 h2=>v.el j x y (by simpa using h1) (by simpa using h2))
theorem qu5(H:VI P){t:TypeId}(ht:t<P.types.size)(h:PV K ps ps'):SR P VT K (Instr.build t ps) (Instr.build t ps'):=by
 refine(yw H ht).bind' (fun K1 h1 z z' hz=>?_);obtain⟨hz1,rfl,hz2⟩:=hz;refine(qq t).bind' (fun K2 h2 u u' hu=>?_);obtain⟨rfl,hu⟩:=hu;clear hu;cases u<;>first|exact SR.stuck|skip
 ·rename_i len elem;refine(zJ elem).bind' (fun K3 h3 n n' e=>?_);subst e;rcases(((h.mono h1).mono h2).mono h3).fill (fun i=>some (i * n,n)) ((hz1.vt.mono h2).mono h3)with⟨e1,_⟩|⟨d,d',e1,e2,hd⟩
  ·simp only[e1];exact SR.stuck
  ·simp only[e1,e2];exact SR.pure (.agg _ _ hd.size hd.el)
 ·rename_i fields;refine(qvx (f:=fun(f:Field)=>do pure (f.offset,<-sizeOf f.type)) (f':=fun(f:Field)=>do pure (f.offset,<-sizeOf f.type)) fields (fun K' _ f=>(zJ f.type).bind' (fun K3 _ n n' e=>by subst e;exact SR.pure rfl))).bind' (fun K3 h3 pl pl' e=>?_);subst e;rcases(((h.mono h1).mono h2).mono h3).fill (pl[·]?) ((hz1.vt.mono h2).mono h3)with⟨e1,_⟩|⟨d,d',e1,e2,hd⟩
  ·simp only[e1];exact SR.stuck
  ·simp only[e1,e2];exact SR.pure (.agg _ _ hd.size hd.el)
theorem AV.qy4{K:Kr}(h:AV K zs zs)(n:Nat)(hn:n=0\/zs.size≠0):AV K ((Array.range n).map (zs[· % zs.size]!)) ((Array.range n).map (zs[· % zs.size]!)):=by
 refine AV.map _ (fun i hi=>?_)
 have hi':i<n:=by simpa using hi
 have hs:zs.size≠0:=by omega
 have hl:i % zs.size<zs.size:=Nat.mod_lt _ (by omega);have e:zs[i % zs.size]! =zs[i % zs.size]:=getElem!_pos zs _ hl;rw[e];exact h.el (i % zs.size) _ _ (Array.getElem?_eq_getElem hl) (Array.getElem?_eq_getElem hl)
theorem AV.qnG{K:Kr}(h:AV K zs zs)(n:Nat):AV K ((Array.range n).map (zs[· % zs.size]!)) ((Array.range n).map (zs[· % zs.size]!)):=by
 by_cases hs:zs.size=0
 ·refine AV.map _ (fun i _=>?_);have:zs[i % zs.size]! =default:=getElem!_neg zs _ (by omega);rw[this];exact .bool false
 ·exact h.qy4 n (.inr hs)
theorem AV.zeroCells{K:Kr}(h:AV K zs zs)(n:Nat):AV K (Builtin.zeroCells zs n) (Builtin.zeroCells zs n):=h.qnG (n * zs.size)
theorem qln(H:VI P){t:TypeId}(ht:t<P.types.size)(len:Nat)(h:PV K ps ps'):SR P VT K (Instr.buildSlice t len ps) (Instr.buildSlice t len ps'):=by
 refine(qq t).bind' (fun K1 h1 u u' hu=>?_);obtain⟨rfl,hu⟩:=hu;cases u<;>first|exact SR.stuck|skip
 rename_i elem;have hel:=H.slice t elem ht hu;refine(zJ elem).bind' (fun K2 h2 n n' e=>?_);subst e
 have fin:∀(K3:Kr),K2.le K3->∀z:Array Value,AV K3 z z->SR P VT K3
   (do
     let some cells:=Instr.fill (fun i=>some (i * n,n)) ((Array.range (len * n)).map (z[· % z.size]!)) ps.toList|Go.stuck "buildSlice: a part of the wrong size"
     pure (.slice (some (<-newRow elem cells)) len len))
   (do
     let some cells:=Instr.fill (fun i=>some (i * n,n)) ((Array.range (len * n)).map (z[· % z.size]!)) ps'.toList|Go.stuck "buildSlice: a part of the wrong size"
     pure (.slice (some (<-newRow elem cells)) len len)):=by
  intro K3 h3 z hz;rcases(((h.mono h1).mono h2).mono h3).fill (fun i=>some (i * n,n)) (hz.qnG (len * n))with⟨e1,_⟩|⟨d,d',e1,e2,hd⟩
  ·simp only[e1];exact SR.stuck
  ·simp only[e1,e2];exact(qbb elem hd).bind' (fun K4 _ a a' ha=>SR.pure (.slice _ _ _ _ ha.1))
 dsimp only;split
 ·exact SR.qbL
 ·split
  ·exact SR.bind' (T:=fun _ (a b:Array Value)=>a=#[]/\b=#[]) (SR.pure ⟨rfl,rfl⟩) (fun K3 h3 z z' e=>by obtain⟨rfl,rfl⟩:=e;exact fin K3 h3 #[] (AV.empty _))
  ·exact(yw H hel).bind' (fun K4 h4 z z' hz=>by obtain⟨a1,rfl,_⟩:=hz;exact fin K4 h4 z.cells a1.vt)
theorem qs7(t:TypeId)(h:VR K v v'):SR P VT K (Instr.loadAt t v) (Instr.loadAt t v'):=(qaN h).bind' (fun _ _ _ _ ha=>qjl t ha)
theorem qq8(t:TypeId){a a':Value}(ha:VR K a a')(h:VR K v v'):SR P UT K (Instr.storeAt t a v) (Instr.storeAt t a' v'):=(qaN ha).bind' (fun _ hle _ _ hx=>qoK t hx (h.mono hle))
theorem qkX{r r':Nat}(h:K.B r r'):SR P (fun _ a a'=>a=none/\a'=none) K (viewAt r) (viewAt r'):=by
 refine SR.bind' (T:=EqT) (SR.shape h (fun s=>SR.pure rfl)) (fun K1 h1 s s' e=>?_);subst e
 cases s with
 | some x=>exact SR.pure ⟨rfl,rfl⟩
 | none=>exact SR.getObj (h1.b _ _ h) (fun o o' ho _=>by cases ho<;>exact SR.pure ⟨rfl,rfl⟩)
theorem qgT(h:AR K a a'):SR P UT K (noView a) (noView a') :=
 (qkX h.block).bind' (fun _ _ x x' e=>by obtain⟨rfl,rfl⟩:=e;exact SR.pure trivial)
theorem qfD{r r':Nat}(h:K.B r r'):SR P EqT K (Go.shape r) (Go.shape r'):=SR.shape h (fun _=>SR.pure rfl)
theorem qas(h:AR K a a'):SR P EqT K (byteOf a) (byteOf a'):=by
 unfold byteOf;rw[h.spot,h.off]
 cases a.spot with
 | some s=>exact SR.pure rfl
 | none =>
  refine SR.yB ?_;refine(qgT h).bind' (fun K1 h1 _ _ _=>?_);refine(qfD (h1.b _ _ h.block)).bind' (fun K2 h2 s s' e=>?_);subst e
  cases s with
  | none=>exact SR.stuck
  | some q =>
   obtain⟨e,_⟩:=q;dsimp only;split
   ·exact SR.pure rfl
   ·split
    ·exact SR.pure rfl
    ·exact SR.stuck
theorem qlu(h:AR K a a')(f:Field):SR P AT K (fieldPlace a f) (fieldPlace a' f):=by
 refine(zJ f.type).bind' (fun K1 h1 n n' e=>?_);subst e;split
 ·refine(qas (h.mono h1)).bind' (fun K2 h2 b b' e=>?_);subst e;have hp:AR K2 {block:=a.block,off:=a.off+f.offset} {block:=a'.block,off:=a'.off+f.offset}:=⟨h2.b _ _ (h1.b _ _ h.block),by simp[h.off],rfl⟩
  refine(qas hp).bind' (fun K3 h3 c c' e=>?_);subst e;dsimp only;split
  ·exact SR.pure (hp.mono h3)
  ·exact SR.pure ⟨(hp.mono h3).block,(hp.mono h3).off,rfl⟩
 ·exact SR.pure ((h.mono h1).add _)
theorem qre(s:TypeId)(h:VR K v v')(i:Nat):SR P VT K (Instr.fieldAt s v i) (Instr.fieldAt s v' i):=by
 refine(qq s).bind' (fun K1 h1 u u' hu=>?_);obtain⟨rfl,hu⟩:=hu;clear hu;cases u<;>first|exact SR.stuck|skip
 rename_i fields;dsimp only
 cases fields[i]? with
 | none=>exact SR.stuck
 | some f=>exact(qaN (h.mono h1)).bind' (fun K2 _ a a' ha=>(qlu ha f).bind' (fun K3 _ b b' hb=>SR.pure (.ptr _ _ hb)))
theorem qu8(t:TypeId)(h:VR K v v')(i:Nat):SR P VT K (Instr.field t v i) (Instr.field t v' i):=by
 refine(qq t).bind' (fun K1 h1 u u' hu=>?_);obtain⟨rfl,hu⟩:=hu;clear hu;cases u<;>first|exact SR.stuck|skip
 rename_i fields;dsimp only
 cases fields[i]? with
 | none=>exact SR.stuck
 | some f=>exact(qvv (h.mono h1)).bind' (fun K2 _ a a' ha=>qhe f.type ha f.offset)
theorem qrg(h:VR K v v')(i:Nat):SR P VT K (Instr.extract v i) (Instr.extract v' i):=by
 cases h<;>first|exact SR.stuck|skip
 rename_i xs ys h1 h2;rcases(AV.mk h1 h2:AV K xs ys).get? i with⟨e1,_⟩|⟨x,y,e1,e2,hx⟩
 ·simp only[Instr.extract,e1];exact SR.stuck
 ·simp only[Instr.extract,e1,e2];exact SR.pure hx
theorem qs9(t:TypeId)(hs:P.underlying t=some .string)(h:VR K v v'):SR P VT K (Instr.range t v) (Instr.range t v'):=by
 refine(qq t).bind' (fun K1 h1 u u' hu=>?_);obtain⟨rfl,hu⟩:=hu;rw[hs]at hu;cases hu;cases h<;>first|exact SR.qaM|skip
 exact SR.new (.stringIter _ _) rfl (fun K2 _ r r' hr _=>SR.pure (.ptr _ _ ⟨hr,rfl,rfl⟩))
theorem qva(t:TypeId)(h:VR K v v'):SR P VT K (Instr.next v true t) (Instr.next v' true t):=by
 cases h<;>first|exact SR.stuck|skip
 rename_i a b hab;obtain⟨r,o,sp⟩:=a;obtain⟨r',o',sp'⟩:=b;have ho:o'=o:=hab.off;subst ho
 cases o' with
 | succ _=>exact SR.stuck
 | zero =>
  refine SR.getObj hab.block (fun x x' hx hi=>?_);cases hx<;>first|exact SR.stuck|skip
  rename_i s p;simp only[Sem.bind];by_cases hp:p<s.size
  ·rw[if_pos hp,if_pos hp];refine SR.setObj hab.block (hi.1 rfl) (.stringIter _ _) rfl ?_;exact SR.pure (.tuple _ _ rfl (fun i x y h1 h2=>by rw[h1]at h2;cases h2;rcases i with _|_|_|i<;>simp at h1<;>subst h1<;>constructor))
  ·rw[if_neg hp,if_neg hp];exact SR.pure (.tuple _ _ rfl (fun i x y h1 h2=>by rw[h1]at h2;cases h2;rcases i with _|i<;>simp at h1;subst h1;constructor))
theorem qoA{f:FuncId}(hf:K.Fs (1000000+f)){xs ys us vs:Array Value}(h1:AV K xs ys)(h2:AV K us vs):SR P VT K (Instr.makeFunc (.func f) xs us) (Instr.makeFunc (.func f) ys vs) :=
 SR.pure (.func _ _ _ _ _ _ (.func f hf) h1.size h1.el h2.size h2.el)
