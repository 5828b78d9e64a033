import GoSem.Extern.Table
import Derived.Test.YtmnjjjhmnhfapaaGreatDoorMSimOpsA
namespace Go.Proofs.YtmnjjjhmnhfapaaGreatDoor
set_option maxHeartbeats 2000000
namespace Sim
section
variable {P:Program}{K:Kr}
variable {x x':Value}{l l' h h' m m':Option Value}
theorem qrf(t:TypeId){i i':Value}(hx:VR K x x')(hi:VR K i i'):SR P VT K (Instr.indexAt t x i) (Instr.indexAt t x' i'):=by
 refine(qc4 hi).bind' (fun K1 h1 k k' e=>?_);subst e;obtain⟨k,n⟩:=k;refine(qq t).bind' (fun K2 h2 u u' hu=>?_);obtain⟨rfl,hu⟩:=hu;clear hu;have hx2:=(hx.mono h1).mono h2
 have last:∀(K3:Kr),∀(base jD:Option Addr) (len:Nat) (elem:TypeId),(∀a,base=some a->∃a',jD=some a'/\AR K3 a a')->(base=none->jD=none) ->
   SR P VT K3 (do
    let tiny:=len<=1&&(match <-underlying t with|.array .. =>true|_=>false)
    match base with
    | some a =>
     if 0<=n/\n<len then pure (.pointer (some (a.add (n.toNat * (<-sizeOf elem)))))
     else if tiny then unsupported (.noEntry "op/indexAddr.an index out of range at an array of length 0 or 1 (ledger 616)")
     else boundsPanic k n len .index
    | none=>boundsPanic k n 0 .index) (do
    let tiny:=len<=1&&(match <-underlying t with|.array .. =>true|_=>false)
    match jD with
    | some a =>
     if 0<=n/\n<len then pure (.pointer (some (a.add (n.toNat * (<-sizeOf elem)))))
     else if tiny then unsupported (.noEntry "op/indexAddr.an index out of range at an array of length 0 or 1 (ledger 616)")
     else boundsPanic k n len .index
    | none=>boundsPanic k n 0 .index):=by
  intro K3 base jD len elem hb hn;refine(qq t).bind' (fun K4 h4 u u' hu=>?_);obtain⟨rfl,hu⟩:=hu;clear hu
  cases base with
  | none=>rw[hn rfl];exact qcB _ _ _ _
  | some a =>
   obtain⟨a',rfl,ha⟩:=hb a rfl;dsimp only;by_cases hl:0<=n/\n<len
   ·rw[if_pos hl,if_pos hl];exact(zJ elem).bind' (fun K5 h5 m m' e=>by subst e;exact SR.pure (.ptr _ _ (((ha.mono h4).mono h5).add _)))
   ·rw[if_neg hl,if_neg hl];generalize (decide (len<=1)&&(match u with|.array .. =>true|_=>false))=tiny
    cases tiny with
    | true=>exact SR.zT
    | false=>exact qcB _ _ _ _
 cases u<;>first|exact SR.qaM|skip
 ·rename_i elem;cases hx2<;>first|exact SR.qaM|skip
  ·rename_i m c;exact last K2 none none m elem (fun a h=>by cases h) (fun _=>rfl)
  ·rename_i a b m c hab;exact last K2 (some a) (some b) m elem (fun a h=>by cases h;exact⟨b,rfl,hab⟩) (fun h=>by cases h)
 ·rename_i len elem;exact SR.bind' (qaN hx2) (fun K3 h3 a a' ha=>last K3 (some a) (some a') len elem (fun x h=>by cases h;exact⟨a',rfl,ha⟩) (fun h=>by cases h))
inductive OV(K:Kr):Option Value->Option Value->Prop
 | none:OV K none none
 | some (x y:Value):VR K x y->OV K (some x) (some y)
theorem OV.mono{K K':Kr}(h:K.le K'){x y:Option Value}(v:OV K x y):OV K' x y:=by
 cases v with
 | none=>exact .none
 | some x y e=>exact .some x y (e.mono h)
theorem qaS(hx:VR K x x')(y:Nat)(c:BoundsCode):SR P EqT K (Instr.sliceBound x y c) (Instr.sliceBound x' y c):=by
 refine(qc4 hx).bind' (fun K1 h1 k k' e=>?_);subst e;obtain⟨k,n⟩:=k;dsimp only;split
 ·exact SR.pure rfl
 ·exact qcB _ _ _ _
theorem vu(b:Bool)(len cap:Nat)(hl:OV K l l')(hh:OV K h h')(hm:OV K m m'):SR P EqT K (Instr.sliceBounds b len cap l h m) (Instr.sliceBounds b len cap l' h' m'):=by
 have lo:∀(K1:Kr),K.le K1->∀(mm hv:Nat) (s:Bool),SR P EqT K1 (do
   let l <-match l with
    | some v=>Instr.sliceBound v hv (if s then .slice3C else .sliceB)
    | none=>pure 0
   pure (l,hv,mm)) (do
   let l <-match l' with
    | some v=>Instr.sliceBound v hv (if s then .slice3C else .sliceB)
    | none=>pure 0
   pure (l,hv,mm)):=by
  intro K1 h1 mm hv s
  cases hl with
  | none=>exact SR.pure rfl
  | some x y e=>exact(qaS (e.mono h1) _ _).bind' (fun _ _ a a' e=>by subst e;exact SR.pure rfl)
 cases hm with
 | none =>
  cases hh with
  | none=>exact lo K (Kr.le.refl _) cap len false
  | some x y e=>exact(qaS e _ _).bind' (fun K1 h1 a a' e=>by subst e;exact lo K1 h1 cap a false)
 | some x y e =>
  refine(qaS e _ _).bind' (fun K1 h1 a a' e=>?_);subst e
  cases hh with
  | none=>exact SR.qaM
  | some x y e=>exact(qaS (e.mono h1) _ _).bind' (fun K2 h2 b b' e=>by subst e;exact lo K2 (h1.trans h2) a b true)
theorem qvy(t:TypeId)(hx:VR K x x')(hl:OV K l l')(hh:OV K h h')(hm:OV K m m'):SR P VT K (Instr.slice t x l h m) (Instr.slice t x' l' h' m'):=by
 refine(qq t).bind' (fun K1 h1 u u' hu=>?_);obtain⟨rfl,hu⟩:=hu;clear hu;have hx1:=hx.mono h1;have hl1:=hl.mono h1;have hh1:=hh.mono h1;have hm1:=hm.mono h1;cases u<;>first|exact SR.stuck|skip
 ·cases hx1<;>first|exact SR.stuck|skip
  rename_i s
  cases hm1 with
  | some _ _ _=>exact SR.qaM
  | none =>
   exact SR.bind' (vu _ _ _ hl1 hh1 .none) (fun K2 h2 a a' e=>by subst e;exact SR.pure (.string _))
 ·rename_i arr;refine(qkM hx1).bind' (fun K2 h2 a a' ha=>?_);refine(qq arr).bind' (fun K3 h3 u u' hu=>?_);obtain⟨rfl,hu⟩:=hu;clear hu;cases u<;>first|exact SR.stuck|skip
  rename_i n elem;refine(vu _ _ _ ((hl1.mono h2).mono h3) ((hh1.mono h2).mono h3) ((hm1.mono h2).mono h3)).bind' (fun K4 h4 q q' e=>?_);subst e;obtain⟨l,h,m⟩:=q;refine(zJ elem).bind' (fun K5 h5 z z' e=>?_);subst e;have ha5:=((ha.mono h3).mono h4).mono h5;split
  ·exact SR.pure (.slice _ _ _ _ ha5)
  ·exact SR.pure (.slice _ _ _ _ (ha5.add _))
 ·rename_i elem;cases hx1<;>first|exact SR.stuck|skip
  ·refine(vu _ _ _ hl1 hh1 hm1).bind' (fun K2 h2 q q' e=>?_);subst e;obtain⟨l,h,m⟩:=q;refine(zJ elem).bind' (fun K3 h3 z z' e=>?_);subst e;split<;>exact SR.pure (.slice0 _ _)
  ·rename_i a b n c hab;refine(vu _ _ _ hl1 hh1 hm1).bind' (fun K2 h2 q q' e=>?_);subst e;obtain⟨l,h,m⟩:=q;refine(zJ elem).bind' (fun K3 h3 z z' e=>?_);subst e;have ha3:=(hab.mono h2).mono h3;split
   ·exact SR.pure (.slice _ _ _ _ ha3)
   ·exact SR.pure (.slice _ _ _ _ (ha3.add _))
theorem qrd(t:TypeId)(hx:VR K x x')(hl:OV K l l')(hh:OV K h h')(hm:OV K m m'):SR P VT K (Instr.sliceAt t x l h m) (Instr.sliceAt t x' l' h' m'):=by
 refine(qq t).bind' (fun K1 h1 u u' hu=>?_);obtain⟨rfl,hu⟩:=hu;clear hu;have hx1:=hx.mono h1;have hl1:=hl.mono h1;have hh1:=hh.mono h1;have hm1:=hm.mono h1;cases u<;>first|exact qvy t hx1 hl1 hh1 hm1|skip
 rename_i n elem;refine(qaN hx1).bind' (fun K2 h2 a a' ha=>?_);refine(vu _ _ _ (hl1.mono h2) (hh1.mono h2) (hm1.mono h2)).bind' (fun K4 h4 q q' e=>?_);subst e;obtain⟨l,h,m⟩:=q;refine(zJ elem).bind' (fun K5 h5 z z' e=>?_);subst e;have ha5:=(ha.mono h4).mono h5;split
 ·exact SR.pure (.slice _ _ _ _ ha5)
 ·exact SR.pure (.slice _ _ _ _ (ha5.add _))
theorem qu9(t:TypeId){i i':Value}(hx:VR K x x')(hi:VR K i i'):SR P VT K (Instr.index t x i) (Instr.index t x' i'):=by
 refine(qc4 hi).bind' (fun K1 h1 k k' e=>?_);subst e;obtain⟨k,n⟩:=k;refine(qq t).bind' (fun K2 h2 u u' hu=>?_);obtain⟨rfl,hu⟩:=hu;clear hu;have hx2:=(hx.mono h1).mono h2;cases u<;>first|exact SR.stuck|skip
 ·cases hx2<;>first|exact SR.stuck|skip
  rename_i s;dsimp only;generalize (if 0<=n then s[n.toNat]? else none)=o
  cases o with
  | some b=>exact SR.pure (.int _ _)
  | none=>exact qcB _ _ _ _
 ·rename_i len elem;cases hx2<;>first|exact SR.stuck|skip
  rename_i xs ys e1 e2;dsimp only;by_cases hl:0<=n/\n<len
  ·rw[if_pos hl,if_pos hl];exact(zJ elem).bind' (fun K5 h5 m m' e=>by subst e;exact qhe elem ((AV.mk e1 e2:AV K2 xs ys).mono h5) _)
  ·rw[if_neg hl,if_neg hl];exact qcB _ _ _ _
theorem qnj(H:VI P){t:TypeId}(ht:t<P.types.size){l l' c c':Value}(hl:VR K l l')(hc:VR K c c'):SR P VT K (Instr.makeSlice t l c) (Instr.makeSlice t l' c'):=by
 refine(qq t).bind' (fun K1 h1 u u' hu=>?_);obtain⟨rfl,hu⟩:=hu;cases u<;>first|exact SR.stuck|skip
 rename_i elem;have hel:=H.slice t elem ht hu;refine(qa2 (hl.mono h1)).bind' (fun K2 h2 n n' e=>?_);subst e;refine(qa2 ((hc.mono h1).mono h2)).bind' (fun K3 h3 m m' e=>?_);subst e;refine(zj elem).bind' (fun K4 h4 i i' e=>?_);obtain⟨rfl,hi⟩:=e;dsimp only;split
 ·split
  ·exact yb _
  ·split
   ·exact yb _
   ·exact(xN _).bind' (fun _ _ a a' e=>by subst e;exact yb _)
 ·refine(qc5 _).bind' (fun K5 h5 _ _ _=>?_);refine(zJ elem).bind' (fun K6 h6 z z' e=>?_);subst e
  have fin:∀(K7:Kr) (zs:Array Value),AV K7 zs zs->∀k:Nat,SR P VT K7 (do
    let a <-newRow elem (Array.map (fun x=>zs[x % zs.size]!) (Array.range k))
    pure (Value.slice (some a) (IntKind.i64.wrap n).toNat (IntKind.i64.wrap m).toNat)) (do
    let a <-newRow elem (Array.map (fun x=>zs[x % zs.size]!) (Array.range k))
    pure (Value.slice (some a) (IntKind.i64.wrap n).toNat (IntKind.i64.wrap m).toNat)):=fun K7 zs hz k =>
   (qbb elem (hz.qnG k)).bind' (fun K8 _ a a' ha=>SR.pure (.slice _ _ _ _ ha.1))
  split
  ·exact fin K6 #[] (AV.empty _) _
  ·exact(yw H hel).bind' (fun K7 _ z z' hz=>by obtain⟨a1,rfl,_⟩:=hz;exact fin K7 z.cells a1.vt _)
end
end Sim
namespace Sim
section
variable {P:Program}{K:Kr}
inductive Qvz(K:Kr):Option (Addr×Bool)->Option (Addr×Bool)->Prop
 | none:Qvz K none none
 | some (a b:Addr) (l:Bool):AR K a b->Qvz K (some (a,l)) (some (b,l))
theorem qoN{r r':Nat}(h:K.B r r'):SR P (fun K a a'=>Qvz K a a') K (numberAt r) (numberAt r'):=by
 refine(qfD h).bind' (fun K1 h1 s s' e=>?_);subst e
 cases s with
 | some x=>exact SR.pure .none
 | none =>
  refine SR.getObj (h1.b _ _ h) (fun o o' ho _=>?_)
  cases ho with
  | number a b l e=>exact SR.pure (.some a b l e)
  | _=>exact SR.pure .none
theorem jU{a a':Addr}(h:AR K a a'):SR P (fun K x x'=>AR K x.1 x'.1/\x.2=x'.2) K (behindNumber a) (behindNumber a') :=
 (qoN h.block).bind' (fun _ h1 x x' e=>by
  cases e with
  | none=>exact SR.pure ⟨h.mono h1,rfl⟩
  | some a b l e=>exact SR.pure ⟨e,rfl⟩)
def jT(P:Program)(t:TypeId):Bool :=
 match P.underlying t with
 | some .bool|some (.int _)|some .string=>true
 | _=>false
theorem qgU{t:TypeId}(ht:jT P t=true)(d:Nat){x x' y y':Value}(hx:VR K x x')(hy:VR K y y'):SR P EqT K (Op.equalIn (d+1) t x y) (Op.equalIn (d+1) t x' y'):=by
 unfold Op.equalIn;refine(qq t).bind' (fun K1 h1 u u' hu=>?_);obtain⟨rfl,hu⟩:=hu;unfold jT at ht;rw[hu]at ht;have hx1:=hx.mono h1;have hy1:=hy.mono h1;cases u<;>first|cases ht|skip
 ·cases hx1<;>first|exact SR.stuck|(cases hy1<;>first|exact SR.stuck|exact SR.pure rfl)
 ·rename_i ik
  cases hx1 with
  | int k n =>
   cases hy1 with
   | int k' m =>
    dsimp only;split
    ·exact SR.pure rfl
    ·exact SR.stuck
   | ptr a b e =>
    by_cases hn:n=0
    ·subst hn;exact SR.pure rfl
    ·have:∀(c:Addr),(match TypeDesc.int ik,Value.int k n,Value.pointer (some c)with
      | .int _,.pointer (some _),.int _ 0|.int _,.int _ 0,.pointer (some _)=>true
      | _,_,_=>false)=false:=fun c=>by
       cases n with
       | ofNat n=>cases n with|zero=>exact absurd rfl hn|succ n=>rfl
       | negSucc n=>rfl
     cases n with
     | ofNat n=>cases n with|zero=>exact absurd rfl hn|succ n=>exact SR.zT
     | negSucc n=>exact SR.zT
   | ptr0 =>
    cases n with
    | ofNat n=>cases n with|zero=>exact SR.zT|succ n=>exact SR.zT
    | negSucc n=>exact SR.zT
   | _=>exact SR.stuck
  | ptr a b e =>
   cases hy1 with
   | int k m =>
    cases m with
    | ofNat n=>cases n with|zero=>exact SR.pure rfl|succ n=>exact SR.zT
    | negSucc n=>exact SR.zT
   | ptr a2 b2 e2 =>
    refine(jU e).bind' (fun K2 h2 q q' hq=>?_);obtain⟨hq,_⟩:=hq;refine(jU (e2.mono h2)).bind' (fun K3 h3 q2 q2' hq2=>?_);obtain⟨hq2,_⟩:=hq2
    replace hq:=hq.mono h3
    revert hq hq2
    generalize q.1=a;generalize q'.1=b;generalize q2.1=a2;generalize q2'.1=b2;intro hq2 hq;refine SR.uniq (fun u1 u2 u3=>?_);refine SR.yB ?_;have hc:b.block=b2.block↔a.block=a2.block:=⟨fun x=>u2 _ _ _ hq.block (by rw[x];exact hq2.block),fun x=>u1 _ _ _ hq.block (by rw[x];exact hq2.block)⟩
    have c1:(b.block == b2.block)=(a.block == a2.block):=by rw[Bool.eq_iff_iff];simp only[beq_iff_eq];exact hc
    have c2:decide (b.block<P.globals.size)=decide (a.block<P.globals.size):=by rw[Bool.eq_iff_iff];simp only[decide_eq_true_iff];exact(u3 _ _ hq.block).symm
    rw[c1,c2];split
    ·refine(qas hq).bind' (fun K4 h4 n n' e=>?_);subst e;exact(qas (hq2.mono h4)).bind' (fun K5 h5 m m' e=>by subst e;exact SR.pure rfl)
    ·refine(zj t).bind' (fun K4 h4 i i' hi=>?_);obtain⟨rfl,_⟩:=hi
     have:(b == b2)=(a == a2):=by
      have ext:∀(x y:Addr),x=y↔x.block=y.block/\x.off=y.off/\x.spot=y.spot:=fun x y=>by
       obtain⟨p,q,r⟩:=x;obtain⟨p',q',r'⟩:=y;simp
      rw[Bool.eq_iff_iff];simp only[beq_iff_eq];rw[ext,ext,hc,hq.off,hq.spot,hq2.off,hq2.spot]
     rw[this];split
     ·split
      ·exact SR.pure rfl
      ·exact SR.zT
     ·exact SR.zT
   | _=>exact SR.zT
  | ptr0=>cases hy1<;>first|exact SR.zT|(rename_i m;cases m with|ofNat n=>cases n<;>exact SR.zT|negSucc n=>exact SR.zT)
  | _=>cases hy1<;>first|exact SR.stuck|exact SR.zT
 ·cases hx1<;>first|exact SR.stuck|(cases hy1<;>first|exact SR.stuck|exact SR.pure rfl)
end
end Sim
namespace Sim
section
variable {P:Program}{K:Kr}
variable {t:TypeId}{x x' y y' k k':Value}{b:Bool}
theorem qtk{α σ:Type}(xs:List α):∀(K:Kr) (init:σ) (f f':α->σ->Sem (ForInStep σ)),(∀K',K.le K'->∀a∈xs,∀s,SR P EqT K' (f a s) (f' a s))->SR P EqT K (forIn xs init f) (forIn xs init f'):=by
 induction xs with
 | nil=>intro K init f f' _;simp only[List.forIn_nil];exact SR.pure rfl
 | cons x xs ih =>
  intro K init f f' h;simp only[List.forIn_cons];refine(h K (Kr.le.refl _) x (by simp) init).bind' (fun K1 h1 a a' e=>?_);subst e
  cases a with
  | done b=>exact SR.pure rfl
  | yield b=>exact ih K1 b f f' (fun K' hK a ha s=>h K' (h1.trans hK) a (by simp[ha]) s)
theorem qtl{α σ:Type}(xs:Array α)(init:σ)(f f':α->σ->Sem (ForInStep σ))(h:∀K',K.le K'->∀a∈xs,∀s,SR P EqT K' (f a s) (f' a s)):SR P EqT K (forIn xs init f) (forIn xs init f'):=by
 rw[<-Array.forIn_toList,<-Array.forIn_toList];exact qtk xs.toList K init f f' (fun K' hK a ha s=>h K' hK a (by simpa using ha) s)
def qjt(P:Program)(t:TypeId):Bool :=
 match P.underlying t with
 | some (.struct fs)=>fs.toList.all fun f=>jT P f.type
 | _=>false
theorem qtm(ht:qjt P t=true)(d:Nat)(hx:VR K x x')(hy:VR K y y'):SR P EqT K (Op.equalIn (d+2) t x y) (Op.equalIn (d+2) t x' y'):=by
 unfold Op.equalIn;refine(qq t).bind' (fun K1 h1 u u' hu=>?_);obtain⟨rfl,hu⟩:=hu;unfold qjt at ht;rw[hu]at ht;have hx1:=hx.mono h1;have hy1:=hy.mono h1;cases u<;>first|cases ht|skip
 rename_i fields;cases hx1<;>first|exact SR.stuck|skip
 rename_i xs xs' e1 e2;cases hy1<;>first|exact SR.stuck|skip
 rename_i ys ys' e3 e4;have hX:AV K1 xs xs':=⟨e1,e2⟩
 have hY:AV K1 ys ys':=⟨e3,e4⟩
 refine SR.yB ?_;dsimp only;split
 ·exact SR.qbL
 ·refine(qtl fields _ _ _ (fun K2 h2 f hf s=>?_)).bind' (fun K3 _ a a' e=>?_)
  ·have hl:jT P f.type=true:=List.all_eq_true.1 ht f (by simpa using hf);split
   ·refine(qhe f.type (hX.mono h2) f.offset).bind' (fun K3 h3 p p' hp=>?_);refine(qhe f.type ((hY.mono h2).mono h3) f.offset).bind' (fun K4 h4 q q' hq=>?_);refine(qgU hl d (hp.mono h4) hq).bind' (fun K5 _ b b' e=>?_);subst e;cases b<;>exact SR.pure rfl
   ·exact SR.pure rfl
  ·subst e;obtain⟨o,u⟩:=a;cases o<;>exact SR.pure rfl
theorem qlv{e:TypeId}(ht:P.underlying t=some (.slice e))(d:Nat)(hx:VR K x x')(hy:VR K y y'):SR P EqT K (Op.equalIn (d+1) t x y) (Op.equalIn (d+1) t x' y'):=by
 unfold Op.equalIn;refine(qq t).bind' (fun K1 h1 u u' hu=>?_);obtain⟨rfl,hu⟩:=hu;rw[ht]at hu;cases hu;cases hx<;>first|exact SR.stuck|(cases hy<;>first|exact SR.stuck|exact SR.pure rfl)
def eqT(P:Program)(t:TypeId):Bool:=jT P t || qjt P t || (match P.underlying t with|some (.slice _)=>true|_=>false)
theorem qiw(ht:eqT P t=true)(hx:VR K x x')(hy:VR K y y'):SR P EqT K (Op.equal t x y) (Op.equal t x' y'):=by
 unfold Op.equal Op.maxDepth;unfold eqT at ht;simp only[Bool.or_eq_true]at ht;rcases ht with(ht|ht)|ht
 ·exact qgU ht 9999 hx hy
 ·exact qtm ht 9998 hx hy
 ·cases hu:P.underlying t with
  | none=>rw[hu]at ht;cases ht
  | some u =>
   rw[hu]at ht;cases u<;>first|(cases ht;done)|exact qlv hu 9999 hx hy
theorem qhL(ht:jT P t=true)(e:Bool)(n:Nat){v v':Value}(_h:VR K v v'):SR P UT K (Instr.checkKey e (n+1) t v) (Instr.checkKey e (n+1) t v'):=by
 unfold Instr.checkKey;refine(qq t).bind' (fun K1 h1 u u' hu=>?_);obtain⟨rfl,hu⟩:=hu;unfold jT at ht;rw[hu]at ht;cases u<;>first|(cases ht;done)|(cases _h<;>exact SR.pure trivial)
inductive FR(K:Kr):Option (Nat×Value)->Option (Nat×Value)->Prop
 | none:FR K none none
 | some (i:Nat) (x y:Value):VR K x y->FR K (some (i,x)) (some (i,y))
structure LE(K:Kr)(xs ys:List MapEntry):Prop where
 len:xs.length=ys.length
 el:∀(i:Nat) (x y:MapEntry),xs[i]?=some x->ys[i]?=some y->VR K x.key y.key/\VR K x.val y.val
theorem qkY{K:Kr}(d:TypeDesc)(hk:VR K k k')(hx:VR K x x')(h:Instr.sameNow d k x=some b):Instr.sameNow d k' x'=some b:=by
 cases d<;>first|(cases h;done)|(cases hk<;>first|(cases h;done)|(cases hx<;>first|(cases h;done)|exact h))
theorem qnH{K:Kr}(d:TypeDesc)(hk:VR K k k')(hx:VR K x x')(h:Instr.sameNow d k x=none)(h':Instr.sameNow d k' x'=some b):k=.tuple #[]\/x=.tuple #[]:=by
 cases hk with
 | junk=>exact .inl rfl
 | _ =>
  cases hx with
  | junk=>exact .inr rfl
  | _=>cases d<;>first|(cases h';done)|(rw[<-h',h];done)|(exfalso;rw[h]at h';cases h';done)
theorem qkZ{K:Kr}(d:TypeDesc){k k':Value}(hk:VR K k k'):∀(xs ys:List MapEntry) (i:Nat),LE K xs ys ->
  Instr.findNow d k xs i=none\/∃o o',Instr.findNow d k xs i=some o/\Instr.findNow d k' ys i=some o'/\FR K o o'
 | [],ys,i,h=>by
  cases ys with
  | nil=>exact .inr ⟨none,none,rfl,rfl,.none⟩
  | cons _ _=>have:=h.len;cases this
 | x::xs,ys,i,h=>by
  cases ys with
  | nil=>have:=h.len;cases this
  | cons y ys =>
   obtain⟨e1,e2⟩:=h.el 0 x y rfl rfl;unfold Instr.findNow
   cases hs:Instr.sameNow d k x.key with
   | none=>exact .inl rfl
   | some b =>
    rw[qkY d hk e1 hs]
    cases b with
    | true=>exact .inr ⟨_,_,rfl,rfl,.some i _ _ e2⟩
    | false=>exact qkZ d hk xs ys (i+1) ⟨by simpa using h.len,fun j a b h1 h2=>h.el (j+1) a b (by simpa using h1) (by simpa using h2)⟩
theorem vq{d:TypeDesc}(hd:P.underlying t=some d)(w:World)(es:Array Event):(underlying t).runT P w es=(.ok d w,es):=by
 show(Sem.bind Go.program _).runT P w es=_;rw[Sem.runT_bind'];have e:(Go.program).runT P w es=(.ok P w,es):=rfl;rw[e];dsimp only;rw[hd];rfl
theorem qtn{d:TypeDesc}(hd:P.underlying t=some d)(h:Instr.sameNow d k x=some b)(w:World)(es:Array Event):(Op.equal t k x).runT P w es=(.ok b w,es):=by
 unfold Op.equal Op.maxDepth Op.equalIn;show(Sem.bind (underlying t) _).runT P w es=_;rw[Sem.runT_bind',vq hd];cases d<;>first|(cases h;done)|skip
 all_goals cases k<;>first|(cases h;done)|skip
 all_goals cases x<;>first|(cases h;done)|skip
 all_goals simp only[Instr.sameNow]at h
 all_goals first|(cases h;rfl)|(split at h<;>first|(cases h;done)|(rename_i hk;subst hk;cases h;simp only[if_true];rfl))
theorem qrz{d:TypeDesc}(hl:jT P t=true)(hd:P.underlying t=some d)(h:k=.tuple #[]\/x=.tuple #[])(w:World)(es:Array Event):∃q w',((Op.equal t k x).runT P w es).1=.halt q w'/\za q=true:=by
 unfold Op.equal Op.maxDepth Op.equalIn;show ∃q w',((Sem.bind (underlying t) _).runT P w es).1=.halt q w'/\za q=true;rw[Sem.runT_bind',vq hd];unfold jT at hl;rw[hd]at hl;rcases h with rfl|rfl
 ·cases d<;>first|(cases hl;done)|skip
  all_goals cases x<;>exact⟨_,_,rfl,rfl⟩
 ·cases d<;>first|(cases hl;done)|skip
  all_goals cases k<;>first|exact⟨_,_,rfl,rfl⟩|(rename_i a;cases a<;>exact⟨_,_,rfl,rfl⟩)
theorem qhM{K:Kr}{t:TypeId}{d:TypeDesc}(hl:jT P t=true)(hd:P.underlying t=some d){k k':Value}(hk:VR K k k'):∀(xs ys:List MapEntry) (i j:Nat) (o':Option (Nat×Value)),LE K xs ys->Instr.findNow d k xs i=none->Instr.findNow d k' ys i=some o' ->
  ∀w es,∃q w',((Instr.findAsking t k xs j).runT P w es).1=.halt q w'/\za q=true
 | [],_,_,_,_,_,h,_=>by cases h
 | x::xs,ys,i,j,o',h,h1,h2=>by
  cases ys with
  | nil=>have:=h.len;cases this
  | cons y ys =>
   obtain⟨e1,e2⟩:=h.el 0 x y rfl rfl;intro w es;unfold Instr.findAsking;show ∃q w',((Sem.bind (Op.equal t k x.key) _).runT P w es).1=.halt q w'/\za q=true;unfold Instr.findNow at h1 h2
   cases hs:Instr.sameNow d k x.key with
   | none =>
    cases hs':Instr.sameNow d k' y.key with
    | none=>rw[hs']at h2;cases h2
    | some b =>
     obtain⟨q,w',e,hq⟩:=qrz hl hd (qnH d hk e1 hs hs') w es;exact⟨q,w',yz _ w es e,hq⟩
   | some b =>
    rw[qkY d hk e1 hs]at h2;rw[hs]at h1;rw[Sem.runT_bind',qtn hd hs]
    cases b with
    | true=>cases h1
    | false=>exact qhM hl hd hk xs ys (i+1) (j+1) o' ⟨by simpa using h.len,fun n a b x1 x2=>h.el (n+1) a b (by simpa using x1) (by simpa using x2)⟩ h1 h2 w es
theorem qfS{t:TypeId}(ht:jT P t=true){k k':Value}:∀(xs ys:List MapEntry) (i:Nat) (K:Kr),VR K k k'->LE K xs ys->SR P (fun K o o'=>FR K o o') K (Instr.findAsking t k xs i) (Instr.findAsking t k' ys i)
 | [],ys,i,K,_,h=>by
  cases ys with
  | nil=>exact SR.pure .none
  | cons _ _=>have:=h.len;cases this
 | x::xs,ys,i,K,hk,h=>by
  cases ys with
  | nil=>have:=h.len;cases this
  | cons y ys =>
   obtain⟨e1,e2⟩:=h.el 0 x y rfl rfl;unfold Instr.findAsking;refine(qiw (show eqT P t=true by unfold eqT;rw[ht];rfl) hk e1).bind' (fun K1 h1 b b' e=>?_);subst e
   cases b with
   | true=>exact SR.pure (.some i _ _ (e2.mono h1))
   | false=>exact qfS ht xs ys (i+1) K1 (hk.mono h1) ⟨by simpa using h.len,fun j a b x1 x2=>let ⟨p,q⟩:=h.el (j+1) a b (by simpa using x1) (by simpa using x2);⟨p.mono h1,q.mono h1⟩⟩
theorem qju(ht:jT P t=true)(hk:VR K k k'){xs ys:List MapEntry}(h:LE K xs ys):SR P (fun K o o'=>FR K o o') K (Instr.findKey t k xs) (Instr.findKey t k' ys):=by
 unfold Instr.findKey;refine(qq t).bind' (fun K1 h1 u u' hu=>?_);obtain⟨rfl,hu⟩:=hu;have h':LE K1 xs ys:=⟨h.len,fun i x y x1 x2=>let ⟨p,q⟩:=h.el i x y x1 x2;⟨p.mono h1,q.mono h1⟩⟩
 rcases qkZ u (hk.mono h1) xs ys 0 h' with e1|⟨o,o',e1,e2,ho⟩
 ·cases e2:Instr.findNow u k' ys 0 with
  | none=>simp only[e1];exact qfS ht xs ys 0 K1 (hk.mono h1) h'
  | some o'=>simp only[e1];exact SR.doomed (qhM ht hu (hk.mono h1) xs ys 0 0 o' h' e1 e2)
 ·simp only[e1,e2];exact SR.pure ho
theorem qs8(H:VI P){key elem:TypeId}(hts:t<P.types.size)(ht:P.underlying t=some (.map key elem))(hk:jT P key=true){i i':Value}(hx:VR K x x')(hi:VR K i i')(ok:Bool):SR P VT K (Instr.lookup t x i ok) (Instr.lookup t x' i' ok):=by
 refine(qq t).bind' (fun K1 h1 u u' hu=>?_);obtain⟨rfl,hu⟩:=hu;rw[ht]at hu;cases hu
 have last:∀(K2:Kr),K1.le K2->∀(es es':Array MapEntry),EV K2 es es'->SR P VT K2 (do
   Instr.checkKey es.isEmpty 10000 key i
   let (v,ok') <-match <-Instr.findKey key i es.toList with
    | some (_,v)=>pure (v,true)
    | none=>do pure (<-zeroValue elem,false)
   pure (if ok then .tuple #[v,.bool ok']else v)) (do
   Instr.checkKey es'.isEmpty 10000 key i'
   let (v,ok') <-match <-Instr.findKey key i' es'.toList with
    | some (_,v)=>pure (v,true)
    | none=>do pure (<-zeroValue elem,false)
   pure (if ok then .tuple #[v,.bool ok']else v)):=by
  intro K2 h2 es es' he
  have hem:es'.isEmpty=es.isEmpty:=by simp[Array.isEmpty,he.size]
  rw[hem];have hi2:=(hi.mono h1).mono h2
  have fin:∀(K5:Kr) (v v':Value) (b:Bool),VR K5 v v'->SR P VT K5 (Pure.pure (if ok then Value.tuple #[v,.bool b]else v):Sem Value) (Pure.pure (if ok then Value.tuple #[v',.bool b]else v')):=by
   intro K5 v v' b hv
   cases ok with
   | false=>exact SR.pure hv
   | true=>have:=AV.two hv (VR.bool b);exact SR.pure (.tuple _ _ this.size this.el)
  refine(qhL hk _ 9999 hi2).bind' (fun K3 h3 _ _ _=>?_);refine(qju hk (hi2.mono h3) (xs:=es.toList) (ys:=es'.toList) ⟨by simpa using he.size,fun j x y x1 x2=>let ⟨p,q,_⟩:=he.el j x y (by simpa using x1) (by simpa using x2);⟨p.mono h3,q.mono h3⟩⟩).bind' (fun K4 h4 o o' ho=>?_)
  cases ho with
  | none=>exact(yw H (H.map t key elem hts ht)).bind' (fun K5 _ z z' hz=>fin K5 z z' false hz.1)
  | some j x y e=>exact fin K4 x y true e
 have hx1:=hx.mono h1;cases hx1<;>first|exact SR.qaM|skip
 ·exact last K1 (Kr.le.refl _) #[] #[] ⟨rfl,fun i x y h=>by simp at h⟩
 ·rename_i a b hab;refine SR.getObj hab (fun o o' ho _=>?_)
  cases ho with
  | map c C n he =>
   have fin:=last K1 (Kr.le.refl _) c C he;exact fin
  | _=>exact SR.lost rfl
end
end Sim
namespace Sim
section
variable {P:Program}{K:Kr}
variable {x:Value}{a b a' b':Addr}{t:TypeId}
theorem qhN(op:BinOp)(k:IntKind)(x y:Int):SR P VT K (Op.intArith op k x y) (Op.intArith op k x y):=by
 cases op<;>first|exact SR.stuck|exact SR.pure (.int _ _)
theorem qto(op:BinOp)(k:IntKind)(x y:Int):SR P VT K (Op.intDiv op k x y) (Op.intDiv op k x y):=by
 unfold Op.intDiv;split
 ·exact qjq _
 ·cases op<;>first|exact SR.stuck|exact SR.pure (.int _ _)
theorem qjv(op:BinOp)(k:IntKind)(x y:Int):SR P VT K (Op.intBits op k x y) (Op.intBits op k x y):=by
 cases op<;>first|exact SR.stuck|exact SR.pure (.int _ _)
theorem qk0(op:BinOp)(x y:Int):SR P VT K (Op.intCmp op x y) (Op.intCmp op x y):=by
 cases op<;>first|exact SR.stuck|exact SR.pure (.bool _)
theorem qvA(op:BinOp)(k:IntKind)(x:Int)(yk:IntKind)(y:Int):SR P VT K (Op.shift op k x yk y) (Op.shift op k x yk y):=by
 unfold Op.shift;split
 ·exact qjq _
 ·cases op<;>first|exact SR.stuck|exact SR.pure (.int _ _)
theorem qeu(op:BinOp)(x y:ByteArray):SR P VT K (Op.stringOp op x y) (Op.stringOp op x y):=by
 unfold Op.stringOp;dsimp only;cases op<;>first|exact SR.stuck|exact SR.pure (.bool _)|skip
 simp only;split
 ·exact SR.zT
 ·exact SR.pure (.string _)
theorem qgV(t:TypeId){x' y y':Value}(hx:VR K x x')(hy:VR K y y'):SR P (fun K v v'=>VR K v v'/\v≠.tuple #[]) K (Builtin.unsafeAdd_ #[] t #[x,y]) (Builtin.unsafeAdd_ #[] t #[x',y']):=by
 cases hx<;>first|exact SR.stuck|skip
 ·refine(qa2 hy).bind' (fun K1 h1 n n' e=>?_);subst e;dsimp only;split
  ·exact SR.zT
  ·split
   ·exact SR.qbL
   ·exact SR.zT
 ·rename_i a b hab;refine(qa2 hy).bind' (fun K1 h1 n n' e=>?_);subst e;have h:=hab.mono h1;dsimp only;split
  ·refine(qkX h.block).bind' (fun K2 h2 v v' e=>?_);obtain⟨rfl,rfl⟩:=e;exact SR.pure ⟨.ptr _ _ (h.mono h2),nofun⟩
  ·split
   ·exact SR.qbL
   ·refine(qfD h.block).bind' (fun K2 h2 s s' e=>?_);subst e
    cases s with
    | none=>exact SR.zT
    | some q =>
     obtain⟨e,cells⟩:=q;refine SR.yB ?_;rw[h.off];split
     ·exact SR.pure ⟨.ptr _ _ ⟨h2.b _ _ h.block,rfl,h.spot⟩,nofun⟩
     ·exact SR.zT
theorem qoO(h:AR K a b)(l:Bool):SR P VT K (asNumber a l) (asNumber b l):=SR.new (.number _ _ _ h) rfl (fun _K1 _ _r _r' hr _=>SR.pure (.ptr _ _ ⟨hr,rfl,rfl⟩))
theorem xm(t:TypeId){x' y y':Value}(hx:VR K x x')(hy:VR K y y'):SR P VT K (movedNumber t x y) (movedNumber t x' y'):=by
 refine(qq t).bind' (fun K1 h1 u u' hu=>?_);obtain⟨rfl,hu⟩:=hu;clear hu
 have key:SR P VT K1 (do
   let .pointer (some n):=x|Builtin.unsafeAdd_ #[] t #[x,y]
   let (a,lost) <-behindNumber n
   match <-Builtin.unsafeAdd_ #[] t #[.pointer (some a),y]with
   | .pointer (some b)=>asNumber b lost
   | v=>pure v) (do
   let .pointer (some n):=x'|Builtin.unsafeAdd_ #[] t #[x',y']
   let (a,lost) <-behindNumber n
   match <-Builtin.unsafeAdd_ #[] t #[.pointer (some a),y']with
   | .pointer (some b)=>asNumber b lost
   | v=>pure v):=by
  have hx1:=hx.mono h1;have hy1:=hy.mono h1
  cases hx1 with
  | ptr a b hab =>
   refine(jU hab).bind' (fun K2 h2 q q' hq=>?_);obtain⟨q1,q2⟩:=q;obtain⟨q1',q2'⟩:=q';obtain⟨hq,e⟩:=hq;cases e;refine(qgV t (.ptr _ _ hq) (hy1.mono h2)).bind' (fun K3 h3 v v' hv=>?_);obtain⟨hv,nv⟩:=hv
   cases hv with
   | ptr c d hcd=>exact qoO hcd _
   | bool b=>exact SR.pure (.bool b)
   | int k n=>exact SR.pure (.int k n)
   | string s=>exact SR.pure (.string s)
   | ptr0=>exact SR.pure .ptr0
   | slice0 n c=>exact SR.pure (.slice0 n c)
   | slice a b n c e=>exact SR.pure (.slice a b n c e)
   | map0=>exact SR.pure .map0
   | map a b e=>exact SR.pure (.map a b e)
   | chan0=>exact SR.pure .chan0
   | chan a b e=>exact SR.pure (.chan a b e)
   | func f g xs ys us vs e h1 h2 h3 h4=>exact SR.pure (.func f g xs ys us vs e h1 h2 h3 h4)
   | nilFunc=>exact SR.pure .nilFunc
   | iface t x y e=>exact SR.pure (.iface t x y e)
   | nilIface=>exact SR.pure .nilIface
   | agg xs ys h1 h2=>exact SR.pure (.agg xs ys h1 h2)
   | tuple xs ys h1 h2=>exact SR.pure (.tuple xs ys h1 h2)
   | junk _ e=>exact absurd rfl nv
   | junkF n ys vs=>exact SR.pure (.junkF n ys vs)
  | ptr0=>exact(qgV t .ptr0 hy1).weaken (fun _ _ _ _ h=>h.1)
  | _=>exact SR.stuck
 cases u<;>first|exact SR.qbL|exact key
theorem qgW(h:AR K a a')(k:AR K b b'):SR P EqT K (Op.twoPlaces a b) (Op.twoPlaces a' b'):=by
 refine SR.uniq (fun u1 u2 u3=>?_);refine SR.yB ?_;have hc:a'.block=b'.block↔a.block=b.block:=⟨fun x=>u2 _ _ _ h.block (by rw[x];exact k.block),fun x=>u1 _ _ _ h.block (by rw[x];exact k.block)⟩
 have c1:(a'.block != b'.block)=(a.block != b.block):=by rw[Bool.eq_iff_iff];simp only[bne_iff_ne,ne_eq];rw[hc]
 have c2:decide (a'.block≥P.globals.size)=decide (a.block≥P.globals.size):=by
  have:=u3 _ _ h.block;rw[Bool.eq_iff_iff];simp only[decide_eq_true_iff];omega
 dsimp only;rw[c1,c2];split
 ·exact SR.qbL
 ·refine(qas h).bind' (fun K4 h4 n n' e=>?_);subst e;exact(qas (k.mono h4)).bind' (fun K5 h5 m m' e=>by subst e;exact SR.pure rfl)
theorem qrA(q:IntKind)(h:AR K a a')(k:AR K b b'):SR P VT K (Op.addrSub q a b) (Op.addrSub q a' b') :=
 (qgW h k).bind' (fun K1 _ x x' e=>by subst e;exact SR.pure (.int _ _))
theorem qrB(op:BinOp)(h:AR K a a')(k:AR K b b'):SR P VT K (Op.addrCmp op a b) (Op.addrCmp op a' b'):=by
 refine(qgW h k).bind' (fun K1 _ x x' e=>?_);subst e;obtain⟨x,y⟩:=x;cases op<;>first|exact SR.zT|exact SR.pure (.bool _)
theorem qjw(q:IntKind)(h:AR K a a')(n:Int):SR P VT K (Op.addrMod q a n) (Op.addrMod q a' n):=by
 refine(qfD h.block).bind' (fun K1 h1 s s' e=>?_);subst e
 cases s with
 | none=>exact SR.zT
 | some z =>
  obtain⟨e,c⟩:=z;refine(zj e).bind' (fun K2 h2 i i' e=>?_);obtain⟨rfl,_⟩:=e;dsimp only;split
  ·exact SR.qbL
  ·exact(qas ((h.mono h1).mono h2)).bind' (fun K3 h3 m m' e=>by subst e;exact SR.pure (.int _ _))
def qg8(P:Program)(op:BinOp)(t:TypeId):Bool :=
 ((match P.underlying t with|some (.int _)|some .string=>true|_=>false) || ((match op with|.eql|.neq=>true|_=>false)&&eqT P t))&&!P.eqGuardType P.depth t
theorem qq9{op:BinOp}(ht:P.eqGuardType P.depth t=false)(x y:Operand){a a' b b':Value}(ha:VR K a a')(hb:VR K b b')(na:a≠.tuple #[])(nb:b≠.tuple #[]):SR P UT K (eqGuard op t x y a b) (eqGuard op t x y a' b'):=by
 have nil:SR P UT K (eqGuard op t x y .nilIface .nilIface) (eqGuard op t x y .nilIface .nilIface):=by
  unfold eqGuard
  have key:SR P UT K (if((match x with|.const _=>true|_=>false) || (match y with|.const _=>true|_=>false))=true then pure ()else do
    if <-Op.eqGuardIn Op.maxDepth t .nilIface .nilIface then unsupported (.noEntry "binop/eql: two nil values of an interface type with methods, neither of them the literal nil")) (if((match x with|.const _=>true|_=>false) || (match y with|.const _=>true|_=>false))=true then pure ()else do
    if <-Op.eqGuardIn Op.maxDepth t .nilIface .nilIface then unsupported (.noEntry "binop/eql: two nil values of an interface type with methods, neither of them the literal nil")):=by
   generalize ((match x with|.const _=>true|_=>false) || (match y with|.const _=>true|_=>false))=c
   cases c with
   | true=>exact SR.pure trivial
   | false =>
    refine SR.bind' (T:=EqT) (s:=Op.eqGuardIn Op.maxDepth t .nilIface .nilIface) (s':=Op.eqGuardIn Op.maxDepth t .nilIface .nilIface) ?_ (fun K1 _ b b' e=>?_)
    ·unfold Op.maxDepth Op.eqGuardIn;refine(qq t).bind' (fun K1 h1 u u' hu=>?_);obtain⟨rfl,hu⟩:=hu;cases u<;>exact SR.pure rfl
    ·subst e
     cases b with
     | true=>exact SR.zT
     | false=>exact SR.pure trivial
  cases op<;>first|exact SR.pure trivial|exact key
 have agg:∀xs ys xs' ys',SR P UT K (eqGuard op t x y (.agg xs) (.agg ys)) (eqGuard op t x y (.agg xs') (.agg ys')):=by
  intro xs ys xs' ys';unfold eqGuard;cases op<;>first|exact SR.pure trivial|skip
  all_goals
   refine SR.yB (SR.yB ?_);rw[ht];exact SR.pure trivial
 have oth:∀u u' v v':Value,(∀o,eqGuard o t x y u v=pure ())->(∀o,eqGuard o t x y u' v'=pure ())->SR P UT K (eqGuard op t x y u v) (eqGuard op t x y u' v'):=fun u u' v v' h1 h2=>by
  rw[h1,h2];exact SR.pure trivial
 cases ha with
 | nilIface =>
  cases hb with
  | nilIface=>exact nil
  | junk=>exact absurd rfl nb
  | _=>exact oth _ _ _ _ (fun o=>by cases o<;>rfl) (fun o=>by cases o<;>rfl)
 | agg xs ys h1 h2 =>
  cases hb with
  | agg us vs h3 h4=>exact agg _ _ _ _
  | junk=>exact absurd rfl nb
  | _=>exact oth _ _ _ _ (fun o=>by cases o<;>rfl) (fun o=>by cases o<;>rfl)
 | junk=>exact absurd rfl na
 | _=>exact oth _ _ _ _ (fun o=>by cases o<;>rfl) (fun o=>by cases o<;>rfl)
theorem qjx(hl:eqT P t=true){k:Value}(h:k=.tuple #[]\/x=.tuple #[])(w:World)(es:Array Event):∃q w',((Op.equal t k x).runT P w es).1=.halt q w'/\za q=true:=by
 cases hd:P.underlying t with
 | none=>unfold eqT jT qjt at hl;rw[hd]at hl;cases hl
 | some d =>
 unfold Op.equal Op.maxDepth Op.equalIn;show ∃q w',((Sem.bind (underlying t) _).runT P w es).1=.halt q w'/\za q=true;rw[Sem.runT_bind',vq hd];unfold eqT jT qjt at hl;rw[hd]at hl;rcases h with rfl|rfl
 ·cases d<;>first|(cases hl;done)|skip
  all_goals cases x<;>exact⟨_,_,rfl,rfl⟩
 ·cases d<;>first|(cases hl;done)|skip
  all_goals cases k<;>first|exact⟨_,_,rfl,rfl⟩|(rename_i a;cases a<;>exact⟨_,_,rfl,rfl⟩)|(rename_i a _ _;cases a<;>exact⟨_,_,rfl,rfl⟩)
theorem qjj{op:BinOp}(hb:qg8 P op t=true){k:Value}(h:k=.tuple #[]\/x=.tuple #[])(w:World)(es:Array Event):∃q w',((binOp op t k x).runT P w es).1=.halt q w'/\za q=true:=by
 unfold qg8 at hb;simp only[Bool.and_eq_true,Bool.or_eq_true]at hb
 have eq:(op=.eql\/op=.neq)->eqT P t=true:=fun ho=>by
  rcases hb.1 with x|x
  ·unfold eqT jT
   revert x
   cases P.underlying t with
   | none=>intro x;cases x
   | some d=>intro x;cases d<;>first|(cases x;done)|rfl
  ·exact x.2
 cases op
 case eql =>
  have e:binOp .eql t k x=(do pure (.bool (<-Op.equal t k x))):=by rcases h with rfl|rfl<;>(first|rfl|(cases x<;>rfl)|(cases k<;>rfl))
  rw[e];obtain⟨q,w',e1,e2⟩:=qjx (eq (.inl rfl)) h w es;exact⟨q,w',yz _ w es e1,e2⟩
 case neq =>
  have e:binOp .neq t k x=(do pure (.bool (!(<-Op.equal t k x)))):=by rcases h with rfl|rfl<;>(first|rfl|(cases x<;>rfl)|(cases k<;>rfl))
  rw[e];obtain⟨q,w',e1,e2⟩:=qjx (eq (.inr rfl)) h w es;exact⟨q,w',yz _ w es e1,e2⟩
 all_goals
  rcases h with rfl|rfl
  ·cases x<;>exact⟨_,_,rfl,rfl⟩
  ·cases k<;>first|exact⟨_,_,rfl,rfl⟩|(rename_i a;cases a<;>exact⟨_,_,rfl,rfl⟩)
theorem qgM{op:BinOp}(x y:Operand){a b:Value}(h:a=.tuple #[]\/b=.tuple #[]):eqGuard op t x y a b=pure ():=by
 rcases h with rfl|rfl
 ·cases op<;>first|rfl|(cases b<;>rfl)
 ·cases op<;>first|rfl|(cases a<;>rfl)
end
end Sim
namespace Sim
section
variable {P:Program}{K:Kr}
variable {t:TypeId}{x x' y y':Value}
theorem qyq(ht:eqT P t=true)(hx:VR K x x')(hy:VR K y y'):SR P VT K (do pure (.bool (<-Op.equal t x y))) (do pure (.bool (<-Op.equal t x' y'))) :=
 (qiw ht hx hy).bind' (fun _ _ b b' e=>by subst e;exact SR.pure (.bool _))
theorem qyr(ht:eqT P t=true)(hx:VR K x x')(hy:VR K y y'):SR P VT K (do pure (.bool (!(<-Op.equal t x y)))) (do pure (.bool (!(<-Op.equal t x' y')))) :=
 (qiw ht hx hy).bind' (fun _ _ b b' e=>by subst e;exact SR.pure (.bool _))
theorem VR.qwa{K:Kr}(h:VR K x y):VR ⟨fun a b=>a=b,fun _=>False,fun _=>False,fun _=>True⟩ x x:=by
 induction h with
 | bool b=>exact .bool b
 | int k n=>exact .int k n
 | string s=>exact .string s
 | ptr0=>exact .ptr0
 | ptr a b e=>exact .ptr a a ⟨rfl,rfl,rfl⟩
 | slice0 n c=>exact .slice0 n c
 | slice a b n c e=>exact .slice a a n c ⟨rfl,rfl,rfl⟩
 | map0=>exact .map0
 | map a b e=>exact .map a a rfl
 | chan0=>exact .chan0
 | chan a b e=>exact .chan a a rfl
 | func f g xs ys us vs e h1 h2 h3 h4 i1 i2 =>
  have:∀(as bs:Array Value),as.size=bs.size->(∀(i:Nat) (x y:Value),as[i]?=some x->bs[i]?=some y->VR ⟨fun a b=>a=b,fun _=>False,fun _=>False,fun _=>True⟩ x x)->∀(i:Nat) (x y:Value),as[i]?=some x->as[i]?=some y->VR ⟨fun a b=>a=b,fun _=>False,fun _=>False,fun _=>True⟩ x y:=fun as bs hs hh i x y q1 q2=>by
   rw[q1]at q2;cases q2
   have hl:i<bs.size:=by have:=(Array.getElem?_eq_some_iff.1 q1).1;omega
   exact hh i x _ q1 (Array.getElem?_eq_getElem hl)
  cases e with
  | func f hf=>exact .func _ _ _ _ _ _ (.func f trivial) rfl (this xs ys h1 i1) rfl (this us vs h3 i2)
 | nilFunc=>exact .nilFunc
 | iface t x y _ ih=>exact .iface t x x ih
 | nilIface=>exact .nilIface
 | agg xs ys h1 h2 ih=>exact .agg xs xs rfl (fun i x y q1 q2=>by
   rw[q1]at q2;cases q2
   have hl:i<ys.size:=by have:=(Array.getElem?_eq_some_iff.1 q1).1;omega
   exact ih i x _ q1 (Array.getElem?_eq_getElem hl))
 | tuple xs ys h1 h2 ih=>exact .tuple xs xs rfl (fun i x y q1 q2=>by
   rw[q1]at q2;cases q2
   have hl:i<ys.size:=by have:=(Array.getElem?_eq_some_iff.1 q1).1;omega
   exact ih i x _ q1 (Array.getElem?_eq_getElem hl))
 | junk=>exact .tuple _ _ rfl (fun i x y q=>by simp at q)
 | junkF=>exact .junkF _ _ _
theorem qpi{t:TypeId}(hx:VR K x x')(hy:VR K y y')(h1:∀k a k' b,x=.int k a->y=.int k' b->False)(h2:∀a b,x=.string a->y=.string b->False)(nx:x≠.tuple #[])(ny:y≠.tuple #[]) :
  binOp .eql t x' y'=(do pure (.bool (<-Op.equal t x' y')))/\binOp .neq t x' y'=(do pure (.bool (!(<-Op.equal t x' y')))):=by
 cases hx<;>cases hy<;>first|exact absurd rfl nx|exact absurd rfl ny|exact absurd rfl (fun h=>h1 _ _ _ _ h rfl)|exact absurd rfl (fun h=>h2 _ _ h rfl)|(constructor<;>rfl)
theorem qu6{op:BinOp}(hb:qg8 P op t=true)(hx:VR K x x')(hy:VR K y y'):SR P VT K (binOp op t x y) (binOp op t x' y'):=by
 by_cases hj:x=.tuple #[]\/y=.tuple #[]
 ·exact SR.doomed (qjj hb hj)
 have nx:x≠.tuple #[]:=fun e=>hj (.inl e);have ny:y≠.tuple #[]:=fun e=>hj (.inr e);clear hj;unfold qg8 at hb;simp only[Bool.and_eq_true,Bool.or_eq_true]at hb;obtain⟨hb,_⟩:=hb
 have hnu:(op=.eql\/op=.neq)\/∃u,P.underlying t=some u/\(match u with|.unsafePointer=>true|_=>false)=false:=by
  rcases hb with hb|⟨hb,_⟩
  ·cases hu:P.underlying t with
   | none=>rw[hu]at hb;cases hb
   | some u=>rw[hu]at hb;refine .inr ⟨u,rfl,?_⟩;cases u<;>first|rfl|cases hb
  ·cases op<;>first|exact .inl (.inl rfl)|exact .inl (.inr rfl)|cases hb
 have heq:op=.eql\/op=.neq->eqT P t=true:=fun _=>by
  rcases hb with hb|⟨_,hb⟩
  ·unfold eqT jT
   cases hu:P.underlying t with
   | none=>rw[hu]at hb;cases hb
   | some u=>rw[hu]at hb;cases u<;>first|rfl|cases hb
  ·exact hb
 by_cases hop:op=.eql\/op=.neq
 ·by_cases h1:∃k a k' b,x=.int k a/\y=.int k' b
  ·obtain⟨k,a,k',b,rfl,rfl⟩:=h1;cases hx;cases hy;rcases hop with rfl|rfl
   all_goals
    unfold binOp;dsimp only;split
    ·exact SR.stuck
    ·exact qk0 _ _ _
  ·by_cases h2:∃a b,x=.string a/\y=.string b
   ·obtain⟨a,b,rfl,rfl⟩:=h2;cases hx;cases hy;rcases hop with rfl|rfl
    all_goals
     unfold binOp;exact qeu _ _ _
   ·have e1:=qpi (t:=t) (x:=x) (y:=y) hx hy (fun k a k' b p q=>h1 ⟨k,a,k',b,p,q⟩) (fun a b p q=>h2 ⟨a,b,p,q⟩) nx ny;have hxx:∃K0:Kr,VR K0 x x/\VR K0 y y:=⟨⟨fun a b=>a=b,fun _=>False,fun _=>False,fun _=>True⟩,VR.qwa hx,VR.qwa hy⟩
    obtain⟨K0,hx0,hy0⟩:=hxx;have e2:=qpi (t:=t) (x:=x) (y:=y) hx0 hy0 (fun k a k' b p q=>h1 ⟨k,a,k',b,p,q⟩) (fun a b p q=>h2 ⟨a,b,p,q⟩) nx ny;rcases hop with rfl|rfl
    ·rw[e1.1,e2.1];exact qyq (heq (.inl rfl)) hx hy
    ·rw[e1.2,e2.2];exact qyr (heq (.inr rfl)) hx hy
 ·obtain⟨u,hu,hnu⟩:=hnu.resolve_left hop
  have qwb:∀{s s' r r':Sem Value},(∀K1,K.le K1->SR P VT K1 s s')->SR P VT K (do if(<-underlying t) matches .unsafePointer then r else s) (do if(<-underlying t) matches .unsafePointer then r' else s'):=by
   intro s s' r r' h;refine(qq t).bind' (fun K2 h2 v v' hv=>?_);obtain⟨rfl,e⟩:=hv;rw[hu]at e;cases e;cases u<;>first|exact h K2 h2|(cases hnu;done)
  have two:∀{a b a' b':Addr} {f f':Addr->Addr->Sem Value},AR K a a'->AR K b b'->(∀K2 c d c' d',AR K2 c c'->AR K2 d d'->SR P VT K2 (f c d) (f' c' d'))->SR P VT K (do f (<-behindNumber a).1 (<-behindNumber b).1) (do f' (<-behindNumber a').1 (<-behindNumber b').1):=by
   intro a b a' b' f f' ha hb hf;exact(jU ha).bind' (fun K2 h2 q q' hq=>(jU (hb.mono h2)).bind' (fun K3 h3 z z' hz=>hf K3 _ _ _ _ (hq.1.mono h3) hz.1))
  have ab:∀{a a':Addr} {f f':Addr->Sem Value},AR K a a'->(∀K2 c c',AR K2 c c'->SR P VT K2 (f c) (f' c'))->SR P VT K (do f (<-behindNumber a).1) (do f' (<-behindNumber a').1):=by
   intro a a' f f' ha hf;exact(jU ha).bind' (fun K2 h2 q q' hq=>hf K2 _ _ hq.1)
  have stk:∀{x y x' y':Value},(∀o:BinOp,(o=.eql\/o=.neq)\/∃m,binOp o t x y=Go.stuck m)->SR P VT K (binOp op t x y) (binOp op t x' y'):=fun h=>by
   obtain⟨m,e⟩:=(h op).resolve_left hop;rw[e];exact SR.stuck
  have uns:∀{x y x' y':Value},(∀o:BinOp,(o=.eql\/o=.neq)\/∃m,binOp o t x y=Go.unsupported m/\za (.unsupported m)=true)->SR P VT K (binOp op t x y) (binOp op t x' y'):=fun h=>by
   obtain⟨m,e,hl⟩:=(h op).resolve_left hop;rw[e];exact SR.zT hl
  cases hx with
  | int k a =>
   cases hy with
   | int k' b =>
    cases op<;>first|exact absurd (.inl rfl) hop|exact absurd (.inr rfl) hop|(unfold binOp;exact qvA _ _ _ _ _)|(unfold binOp;dsimp only;split;(exact SR.stuck);(first|exact qhN _ _ _ _|exact qto _ _ _ _|exact qjv _ _ _ _|exact qk0 _ _ _))
   | ptr b b' e =>
    cases op<;>first|exact absurd (.inl rfl) hop|exact absurd (.inr rfl) hop|(unfold binOp;exact SR.zT)|(unfold binOp;exact xm t (.ptr _ _ e) (.int _ _))|(unfold binOp;exact ab e (fun K2 c c' h1=>qjw _ h1 _))
   | ptr0=>cases op<;>first|exact absurd (.inl rfl) hop|exact absurd (.inr rfl) hop|(unfold binOp;exact SR.zT)|(unfold binOp;exact xm t .ptr0 (.int _ _))
   | _=>exact stk (fun o=>by cases o<;>first|exact .inl (.inl rfl)|exact .inl (.inr rfl)|exact .inr ⟨_,rfl⟩)
  | string a =>
   cases hy with
   | string b=>cases op<;>first|exact absurd (.inl rfl) hop|exact absurd (.inr rfl) hop|(unfold binOp;exact qeu _ _ _)
   | ptr b b' e=>exact uns (fun o=>by cases o<;>first|exact .inl (.inl rfl)|exact .inl (.inr rfl)|exact .inr ⟨_,rfl,rfl⟩)
   | ptr0=>exact uns (fun o=>by cases o<;>first|exact .inl (.inl rfl)|exact .inl (.inr rfl)|exact .inr ⟨_,rfl,rfl⟩)
   | _=>exact stk (fun o=>by cases o<;>first|exact .inl (.inl rfl)|exact .inl (.inr rfl)|exact .inr ⟨_,rfl⟩)
  | ptr a a' e =>
   cases hy with
   | int k b =>
    cases op<;>first|exact absurd (.inl rfl) hop|exact absurd (.inr rfl) hop|(unfold binOp;exact SR.zT)|(unfold binOp;exact qwb (fun K1 h1=>xm t (.ptr _ _ (e.mono h1)) (.int _ _)))|(unfold binOp;exact xm t (.ptr _ _ e) (.int _ _))|(unfold binOp;exact ab e (fun K2 c c' h1=>qjw _ h1 _))
   | ptr b b' e2 =>
    cases op<;>first|exact absurd (.inl rfl) hop|exact absurd (.inr rfl) hop|(unfold binOp;exact SR.zT)|(unfold binOp;exact two e e2 (fun K2 c d c' d' h1 h2=>qrA _ h1 h2))|(unfold binOp;exact two e e2 (fun K2 c d c' d' h1 h2=>qrB _ h1 h2))
   | _=>exact uns (fun o=>by cases o<;>first|exact .inl (.inl rfl)|exact .inl (.inr rfl)|exact .inr ⟨_,rfl,rfl⟩)
  | ptr0 =>
   cases hy with
   | int k b =>
    cases op<;>first|exact absurd (.inl rfl) hop|exact absurd (.inr rfl) hop|(unfold binOp;exact SR.zT)|(unfold binOp;exact qwb (fun K1 h1=>xm t .ptr0 (.int _ _)))|(unfold binOp;exact xm t .ptr0 (.int _ _))
   | _=>exact uns (fun o=>by cases o<;>first|exact .inl (.inl rfl)|exact .inl (.inr rfl)|exact .inr ⟨_,rfl,rfl⟩)
  | _ =>
   cases hy with
   | ptr b b' e=>exact uns (fun o=>by cases o<;>first|exact .inl (.inl rfl)|exact .inl (.inr rfl)|exact .inr ⟨_,rfl,rfl⟩)
   | ptr0=>exact uns (fun o=>by cases o<;>first|exact .inl (.inl rfl)|exact .inl (.inr rfl)|exact .inr ⟨_,rfl,rfl⟩)
   | _=>exact stk (fun o=>by cases o<;>first|exact .inl (.inl rfl)|exact .inl (.inr rfl)|exact .inr ⟨_,rfl⟩)
end
end Sim
namespace Sim
section
variable {P:Program}{K:Kr}
variable {x x':Value}
theorem qu7(op:UnOp)(hx:VR K x x'):SR P VT K (Op.unary op x) (Op.unary op x'):=by
 cases hx<;>cases op<;>first|exact SR.stuck|exact SR.zT|exact SR.pure (.bool _)|(unfold Op.unary;exact qhN _ _ _ _)|(unfold Op.unary;exact qjv _ _ _ _)
theorem qix(hx:VR K x x'):SR P VT K (Conv.bytesToString x) (Conv.bytesToString x'):=by
 cases hx<;>first|exact SR.stuck|exact SR.pure (.string _)|skip
 rename_i a b n c hab;refine(qdG hab n).bind' (fun K1 h1 xs ys hxy=>?_)
 have key:∀(zs us:List Value) (K2:Kr) (acc:ByteArray),zs.length=us.length->(∀(i:Nat) (x y:Value),zs[i]?=some x->us[i]?=some y->VR K2 x y)->SR P EqT K2
   (forIn zs acc fun c (s:ByteArray)=>(match c with|.int .u8 n=>pure (ForInStep.yield (s.push (UInt8.ofNat n.toNat)))|_=>Go.stuck "bytesToString: byte expected" :Sem (ForInStep ByteArray)))
   (forIn us acc fun c (s:ByteArray)=>(match c with|.int .u8 n=>pure (ForInStep.yield (s.push (UInt8.ofNat n.toNat)))|_=>Go.stuck "bytesToString: byte expected" :Sem (ForInStep ByteArray))):=by
  intro zs
  induction zs with
  | nil =>
   intro us K2 acc hl _
   cases us with
   | nil=>exact SR.pure rfl
   | cons _ _=>cases hl
  | cons z zs ih =>
   intro us K2 acc hl hv
   cases us with
   | nil=>cases hl
   | cons u us =>
    simp only[List.forIn_cons];have h0:=hv 0 z u rfl rfl;cases h0<;>first|exact SR.qaM|skip
    rename_i k n;cases k<;>first|exact SR.qaM|skip
    exact ih us K2 _ (by simpa using hl) (fun i x y h1 h2=>hv (i+1) x y (by simpa using h1) (by simpa using h2))
 have e1:∀(xs:Array Value) (g:Value->ByteArray->Sem (ForInStep ByteArray)),(forIn xs ByteArray.empty g)=forIn xs.toList ByteArray.empty g:=fun xs g=>(Array.forIn_toList).symm;rw[e1,e1];refine SR.bind' (T:=EqT) ?_ (fun K2 _ s s' e=>by subst e;exact SR.pure (.string _));have:=key xs.toList ys.toList K1 ByteArray.empty (by simpa using hxy.size) (fun i x y h1 h2=>hxy.el i x y (by simpa using h1) (by simpa using h2));exact this
def qng(P:Program)(s d:TypeId):Bool :=
 match P.underlying s,P.underlying d with
 | some (.int _),some (.int _)=>true
 | some (.slice e),some .string=>match P.underlying e with|some (.int .u8)=>true|_=>false
 | _,_=>false
theorem qrc{s d:TypeId}(h:qng P s d=true)(hx:VR K x x'):SR P VT K (convert s d x) (convert s d x'):=by
 unfold convert;refine(qq s).bind' (fun K1 h1 u u' hu=>?_);obtain⟨rfl,hu⟩:=hu;refine(qq d).bind' (fun K2 h2 v v' hv=>?_);obtain⟨rfl,hv⟩:=hv;unfold qng at h;rw[hu,hv]at h;have hx2:=(hx.mono h1).mono h2;cases u<;>first|(cases h;done)|skip
 ·cases v<;>first|(cases h;done)|skip
  cases hx2<;>first|exact SR.zT|exact SR.pure (.int _ _)
 ·rename_i e;cases v<;>first|(cases h;done)|skip
  have fin:∀y y',VR K2 y y'->SR P VT K2 (do match <-underlying e with|.int .u8=>Conv.bytesToString y|.int .i32=>Conv.runesToString y|_=>Go.stuck "Convert: a slice of what to string?") (do match <-underlying e with|.int .u8=>Conv.bytesToString y'|.int .i32=>Conv.runesToString y'|_=>Go.stuck "Convert: a slice of what to string?"):=by
   intro y y' hy;refine(qq e).bind' (fun K3 h3 q q' hq=>?_);obtain⟨rfl,hq⟩:=hq;dsimp only at h;rw[hq]at h;cases q<;>first|(cases h;done)|skip
   rename_i k;cases k<;>first|(cases h;done)|skip
   exact qix (hy.mono h3)
  cases hx2 with
  | int k n=>exact SR.pure (.string _)
  | string s=>exact SR.pure (.string _)
  | bool b=>exact fin _ _ (.bool b)
  | ptr0=>exact fin _ _ .ptr0
  | ptr a b e=>exact fin _ _ (.ptr a b e)
  | slice0 n c=>exact fin _ _ (.slice0 n c)
  | slice a b n c e=>exact fin _ _ (.slice a b n c e)
  | map0=>exact fin _ _ .map0
  | map a b e=>exact fin _ _ (.map a b e)
  | chan0=>exact fin _ _ .chan0
  | chan a b e=>exact fin _ _ (.chan a b e)
  | func f g xs ys us vs e h1 h2 h3 h4=>exact fin _ _ (.func f g xs ys us vs e h1 h2 h3 h4)
  | nilFunc=>exact fin _ _ .nilFunc
  | iface t x y e=>exact fin _ _ (.iface t x y e)
  | nilIface=>exact fin _ _ .nilIface
  | agg xs ys h1 h2=>exact fin _ _ (.agg xs ys h1 h2)
  | tuple xs ys h1 h2=>exact fin _ _ (.tuple xs ys h1 h2)
  | junkF n ys vs=>exact fin _ _ (.junkF n ys vs)
  | junk _ _ =>
   refine SR.doomed (fun w es=>?_);show ∃q w',((Sem.bind (underlying e) _).runT P w es).1=.halt q w'/\za q=true;dsimp only at h
   cases hq:P.underlying e with
   | none=>rw[hq]at h;cases h
   | some q =>
    rw[Sem.runT_bind',vq hq];rw[hq]at h;cases q<;>first|(cases h;done)|skip
    rename_i k;cases k<;>first|(cases h;done)|exact⟨_,_,rfl,rfl⟩
end
end Sim
namespace Sim
section
variable {P:Program}{K:Kr}
variable {ts:Array TypeId}{xs ys:Array Value}{x x':Value}{α:Type}
def qnd(P:Program)(ts:Array TypeId):Bool :=
 match ts[0]? with
 | some t=>match P.underlying t with|some .string|some (.slice _)=>true|_=>false
 | none=>false
theorem qnI(h:qnd P ts=true):∃t,ts[0]?=some t/\(P.underlying t=some .string\/∃e,P.underlying t=some (.slice e)):=by
 unfold qnd at h
 cases ht:ts[0]? with
 | none=>rw[ht]at h;cases h
 | some t =>
  rw[ht]at h;refine⟨t,rfl,?_⟩
  cases hu:P.underlying t with
  | none=>simp only[hu]at h;cases h
  | some u=>simp only[hu]at h;cases u<;>first|(cases h;done)|exact .inl rfl|exact .inr ⟨_,rfl⟩
theorem qx4(ho:qnd P ts=true)(t:TypeId)(h:AV K xs ys):SR P VT K (Builtin.len_ ts t xs) (Builtin.len_ ts t ys):=by
 unfold Builtin.len_;obtain⟨t,ht,hu⟩:=qnI ho;rcases h.get? 0 with⟨e1,_⟩|⟨x,y,e1,e2,hx⟩
 ·rw[ht,e1];exact SR.stuck
 rw[ht,e1,e2];refine(qq t).bind' (fun K1 h1 u u' hq=>?_);obtain⟨rfl,hq⟩:=hq;rcases hu with hu|⟨e,hu⟩
 ·rw[hu]at hq;cases hq;cases hx<;>first|exact SR.stuck|exact SR.pure (.int _ _)
 ·rw[hu]at hq;cases hq;cases hx<;>first|exact SR.stuck|exact SR.pure (.int _ _)
theorem qx3(ho:qnd P ts=true)(t:TypeId)(h:AV K xs ys):SR P VT K (Builtin.cap_ ts t xs) (Builtin.cap_ ts t ys):=by
 unfold Builtin.cap_;obtain⟨t,ht,hu⟩:=qnI ho;rcases h.get? 0 with⟨e1,_⟩|⟨x,y,e1,e2,hx⟩
 ·rw[ht,e1];exact SR.stuck
 rw[ht,e1,e2];refine(qq t).bind' (fun K1 h1 u u' hq=>?_);obtain⟨rfl,hq⟩:=hq;rcases hu with hu|⟨e,hu⟩
 ·rw[hu]at hq;cases hq;cases hx<;>first|exact SR.stuck|exact SR.pure (.int _ _)
 ·rw[hu]at hq;cases hq;cases hx<;>first|exact SR.stuck|exact SR.pure (.int _ _)
theorem qcb(hx:VR K x x'):SR P EqT K (Builtin.lenOf x) (Builtin.lenOf x'):=by
 cases hx<;>first|exact SR.stuck|exact SR.pure rfl
theorem yT(size n:Nat)(hx:VR K x x'):SR P AVT K (Builtin.firstCells size n x) (Builtin.firstCells size n x'):=by
 cases hx<;>first|exact SR.stuck|skip
 ·exact SR.pure (AV.map _ (fun b _=>.int _ _))
 ·exact SR.pure (AV.empty _)
 ·exact qdG (by assumption) _
theorem qwQ(ts:Array TypeId)(t:TypeId)(h:AV K xs ys):SR P VT K (Builtin.copy_ ts t xs) (Builtin.copy_ ts t ys):=by
 unfold Builtin.copy_
 cases ht:ts[0]? with
 | none=>exact SR.stuck
 | some t =>
  rcases h.get? 0 with⟨e1,_⟩|⟨x,y,e1,e2,hx⟩
  ·rw[e1];exact SR.stuck
  rcases h.get? 1 with⟨e3,_⟩|⟨x2,y2,e3,e4,hx2⟩
  ·rw[e1,e3];exact SR.stuck
  rw[e1,e2,e3,e4];refine(qq t).bind' (fun K1 h1 u u' hq=>?_);obtain⟨rfl,hq⟩:=hq;clear hq;cases u<;>first|exact SR.stuck|skip
  rename_i elem;have hx1:=hx.mono h1;have qev:=hx2.mono h1;cases hx1<;>first|exact SR.stuck|skip
  ·rename_i n c;refine(qcb qev).bind' (fun K2 h2 m m' e=>?_);subst e;refine(zJ elem).bind' (fun K3 h3 z z' e=>?_);subst e;exact(yT z _ ((qev.mono h2).mono h3)).bind' (fun K4 h4 cs cs' hc=>SR.pure (.int _ _))
  ·rename_i a b n c hab;refine(qcb qev).bind' (fun K2 h2 m m' e=>?_);subst e;refine(zJ elem).bind' (fun K3 h3 z z' e=>?_);subst e;refine(yT z _ ((qev.mono h2).mono h3)).bind' (fun K4 h4 cs cs' hc=>?_);exact(vU 0 (((hab.mono h2).mono h3).mono h4) hc).bind' (fun K5 _ _ _ _=>SR.pure (.int _ _))
theorem qwV{y y':Value}(hx:VR K x x')(hy:VR K y y'):SR P VT K (Builtin.min2 x y) (Builtin.min2 x' y'):=by
 cases hx<;>first
  | exact SR.zT
  | (cases hy<;>first|exact SR.stuck|exact SR.zT|exact SR.pure (.int _ _)|skip)
 rename_i a b;exact(qeu .leq a b).bind' (fun K1 _ v v' hv=>(qkL hv).bind' (fun K2 _ c c' e=>by subst e;exact SR.pure (.string _)))
theorem qx5(ts:Array TypeId)(t:TypeId)(h:AV K xs ys):SR P VT K (Builtin.min_ ts t xs) (Builtin.min_ ts t ys):=by
 unfold Builtin.min_
 have hl:xs.toList.length=ys.toList.length:=by simpa using h.size
 have hv:∀(i:Nat) (x y:Value),xs.toList[i]?=some x->ys.toList[i]?=some y->VR K x y:=fun i x y h1 h2=>h.el i x y (by simpa using h1) (by simpa using h2)
 revert hl hv
 generalize xs.toList=l;generalize ys.toList=l';intro hl hv
 cases l with
 | nil=>exact SR.stuck
 | cons a r =>
  cases l' with
  | nil=>cases hl
  | cons a' r' =>
   have key:∀(r r':List Value) (K2:Kr) (a a':Value),VR K2 a a'->r.length=r'.length->(∀(i:Nat) (x y:Value),r[i]?=some x->r'[i]?=some y->VR K2 x y)->SR P VT K2 (r.foldlM Builtin.min2 a) (r'.foldlM Builtin.min2 a'):=by
    intro r
    induction r with
    | nil =>
     intro r' K2 a a' ha hl _
     cases r' with
     | nil=>exact SR.pure ha
     | cons _ _=>cases hl
    | cons b r ih =>
     intro r' K2 a a' ha hl hv
     cases r' with
     | nil=>cases hl
     | cons b' r' =>
      simp only[List.foldlM_cons];exact(qwV ha (hv 0 b b' rfl rfl)).bind' (fun K3 h3 c c' hc=>ih r' K3 c c' hc (by simpa using hl) (fun i x y h1 h2=>(hv (i+1) x y (by simpa using h1) (by simpa using h2)).mono h3))
   exact key r r' K a a' (hv 0 a a' rfl rfl) (by simpa using hl) (fun i x y h1 h2=>hv (i+1) x y (by simpa using h1) (by simpa using h2))
def qne(P:Program)(ts:Array TypeId):Bool :=
 match ts[0]? with
 | some t=>decide (t<P.types.size)&&(match P.underlying t with|some (.slice _)=>true|_=>false)
 | none=>false
theorem qu3(H:VI P)(ho:qne P ts=true)(t:TypeId)(h:AV K xs ys)(hm:∀x,xs[0]?=some x->∀r,x≠.map (some r)):SR P VT K (Builtin.clear_ ts t xs) (Builtin.clear_ ts t ys):=by
 unfold Builtin.clear_;unfold qne at ho
 cases ht:ts[0]? with
 | none=>rw[ht]at ho;cases ho
 | some t =>
  rw[ht]at ho;rcases h.get? 0 with⟨e1,_⟩|⟨x,y,e1,e2,hx⟩
  ·rw[e1];exact SR.stuck
  have hm':=hm x e1;rw[e1,e2];refine(qq t).bind' (fun K1 h1 u u' hq=>?_);obtain⟨rfl,hq⟩:=hq;simp only[hq,Bool.and_eq_true,decide_eq_true_eq]at ho;obtain⟨hts,ho⟩:=ho;cases u<;>first|(cases ho;done)|skip
  rename_i elem;have hel:=H.slice t elem hts hq;have hx1:=hx.mono h1;have done:∀K2:Kr,SR P VT K2 (Pure.pure (Value.tuple #[]):Sem Value) (Pure.pure (Value.tuple #[])):=fun K2=>SR.pure (.tuple _ _ rfl (fun i x y h=>by simp at h))
  cases hx1 with
  | map a b e=>exact absurd rfl (hm' a)
  | map0=>exact done K1
  | slice0 n c=>exact done K1
  | slice a b n c e =>
   cases n with
   | zero=>exact done K1
   | succ n =>
    refine(yw H hel).bind' (fun K2 h2 z z' hz=>?_);obtain⟨a1,rfl,_⟩:=hz;exact(vU 0 (e.mono h2) (a1.vt.zeroCells (n+1))).bind' (fun K3 _ _ _ _=>done K3)
  | _=>exact SR.qaM
theorem qoP{β:Type}{P:Program}{s:Sem α}{f:α->Sem β}(hs:∀w es,∃a w' es',s.runT P w es=(.ok a w',es'))(hf:∀a w es,∃h w',((f a).runT P w es).1=.halt h w'/\za h=true) :
  ∀w es,∃h w',((s >>= f).runT P w es).1=.halt h w'/\za h=true:=fun w es=>by
 obtain⟨a,w',es',e⟩:=hs w es;obtain⟨h,w2,e2,hl⟩:=hf a w' es';refine⟨h,w2,?_,hl⟩;show((s.bind f).runT P w es).1=_;rw[Sem.runT_bind',e];exact e2
theorem qc6{β:Type}{P:Program}{s:Sem α}{f:α->Sem β}(hs:∀w es,∃a w' es',s.runT P w es=(.ok a w',es'))(hf:∀a w es,∃b w' es',(f a).runT P w es=(.ok b w',es')) :
  ∀w es,∃b w' es',(s >>= f).runT P w es=(.ok b w',es'):=fun w es=>by
 obtain⟨a,w',es',e⟩:=hs w es;obtain⟨b,w2,es2,e2⟩:=hf a w' es';refine⟨b,w2,es2,?_⟩;show(s.bind f).runT P w es=_;rw[Sem.runT_bind',e];exact e2
theorem qfE(P:Program)(a:α)(w:World)(es:Array Event):∃b w' es',(Pure.pure a:Sem α).runT P w es=(.ok b w',es'):=⟨_,_,_,rfl⟩
theorem qhO(a:Addr)(n:Nat):∀w es,∃b w' es',(Builtin.holdsCells a n).runT P w es=(.ok b w',es'):=by
 unfold Builtin.holdsCells;refine qc6 (fun w es=>⟨_,_,_,rfl⟩) (fun s w es=>?_)
 cases s with
 | none=>exact⟨_,_,_,rfl⟩
 | some q=>exact⟨_,_,_,rfl⟩
theorem qki(size qm n:Nat)(base:Option Addr)(x:Value):∀w es,∃b w' es',(Builtin.mayShare size qm n base x).runT P w es=(.ok b w',es'):=by
 have last:∀w es,∃b w' es',(match x with
   | .slice (some b) _ _=>do pure (!(<-Builtin.holdsCells b (n * size)) || base.any (·.block == b.block))
   | _=>pure false:Sem Bool).runT P w es=(.ok b w',es'):=by
  split
  ·exact qc6 (qhO _ _) (fun _=>qfE P _)
  ·exact qfE P _
 have jp:∀(there:Bool) w es,∃b w' es',(if(!there)=true then Pure.pure true else(match x with
   | .slice (some b) _ _=>do pure (!(<-Builtin.holdsCells b (n * size)) || base.any (·.block == b.block))
   | _=>pure false):Sem Bool).runT P w es=(.ok b w',es'):=by
  intro there
  cases there with
  | false=>exact qfE P _
  | true=>exact last
 unfold Builtin.mayShare
 cases base with
 | none=>exact jp true
 | some a =>
  exact qc6 (qhO _ _) (fun b=>qc6 (fun w es=>⟨_,_,_,rfl⟩) (fun c=>jp _))
end
end Sim
namespace Sim
section
variable {P:Program}{K:Kr}
variable {ts:Array TypeId}{xs ys:Array Value}
def qu1(P:Program)(ts:Array TypeId):Bool :=
 match ts[1]? with
 | some t=>match P.underlying t with|some (.int _)=>false|some _=>true|none=>false
 | none=>true
theorem qs2(H:VI P)(ho:qu1 P ts=true)(h0:∀t,ts[0]?=some t->t<P.types.size)(t:TypeId)(h:AV K xs ys):SR P VT K (Builtin.append_ ts t xs) (Builtin.append_ ts t ys):=by
 unfold Builtin.append_
 cases ht:ts[0]? with
 | none=>exact SR.stuck
 | some t =>
  rcases h.get? 0 with⟨e1,_⟩|⟨x,y,e1,e2,hx⟩
  ·rw[e1];exact SR.stuck
  rcases h.get? 1 with⟨e3,_⟩|⟨x2,y2,e3,e4,hx2⟩
  ·rw[e1,e3];exact SR.stuck
  rw[e1,e2,e3,e4];refine(qq t).bind' (fun K1 h1 u u' hq=>?_);obtain⟨rfl,hq⟩:=hq;cases u<;>first|exact SR.stuck|skip
  rename_i elem;have hel:=H.slice t elem (h0 t ht) hq;have hx1:=hx.mono h1;have qev:=hx2.mono h1
  have zs:(∃q,ts[1]?=some q/\∀v,P.underlying q=some v->(match v with|.int _=>true|_=>false)=false)\/ts[1]?=none:=by
   unfold qu1 at ho
   cases h1:ts[1]? with
   | none=>exact .inr rfl
   | some q =>
    rw[h1]at ho;refine .inl ⟨q,rfl,fun v hv=>?_⟩;simp only[hv]at ho;cases v<;>first|rfl|(cases ho;done)
  have grow:∀(base jD:Option Addr) (qm qA size n:Nat) (K3:Kr),VR K3 (.slice base qm qA) (.slice jD qm qA)->VR K3 x2 y2->SR P VT K3
    (choose (.appendCap (qm+n) qA elem) >>= fun yQ=>typeInfo elem >>= fun i=>askRoom (yQ * i.bytes) >>= fun _=>Builtin.firstCells size qm (.slice base qm qA) >>= fun old=>Builtin.firstCells size n x2 >>= fun new=>zeroValue elem >>= fun z=>newRow elem (old++new++Builtin.zeroCells z.cells (yQ-(qm+n))) >>= fun r=>pure (.slice (some r) (qm+n) yQ))
    (choose (.appendCap (qm+n) qA elem) >>= fun yQ=>typeInfo elem >>= fun i=>askRoom (yQ * i.bytes) >>= fun _=>Builtin.firstCells size qm (.slice jD qm qA) >>= fun old=>Builtin.firstCells size n y2 >>= fun new=>zeroValue elem >>= fun z=>newRow elem (old++new++Builtin.zeroCells z.cells (yQ-(qm+n))) >>= fun r=>pure (.slice (some r) (qm+n) yQ)):=by
   intro base jD qm qA size n K3 hs hxy;refine(xN _).bind' (fun K4 h4 c c' e=>?_);subst e;refine(zj elem).bind' (fun K5 h5 i i' e=>?_);obtain⟨rfl,_⟩:=e;refine(qc5 _).bind' (fun K6 h6 _ _ _=>?_);have l6:=(h4.trans h5).trans h6;refine(yT size qm (hs.mono l6)).bind' (fun K7 h7 o o' ho=>?_);refine(yT size n (hxy.mono (l6.trans h7))).bind' (fun K8 h8 m m' hm=>?_);refine(yw H hel).bind' (fun K9 h9 z z' hz=>?_);obtain⟨a1,rfl,_⟩:=hz;have jV:=(((ho.mono h8).mono h9).append (hm.mono h9)).append (a1.vt.zeroCells (c-(qm+n)));exact(qbb elem jV).bind' (fun K10 _ r r' hr=>SR.pure (.slice _ _ _ _ hr.1))
  have qrC:∀(size qm n:Nat) (base:Option Addr) (f:Unit->Sem Value) (x':Sem Value) (K3:Kr),SR P VT K3 ((Builtin.mayShare size qm n base x2 >>= fun b=>(if(!b)=true then(mark .noRoom >>= fun _=>(unsupported (.resourceLimit "append: a slice or a string whose bytes no memory bears"):Sem Unit))else(unsupported (.resourceLimit "append: a slice or a string whose bytes no memory bears"):Sem Unit))) >>= f) x':=by
   intro size qm n base f x' K3;refine SR.doomed (fun w es=>?_)
   have:=qoP (f:=fun b=>(if(!b)=true then(mark .noRoom >>= fun _=>(unsupported (.resourceLimit "append: a slice or a string whose bytes no memory bears"):Sem Unit))else(unsupported (.resourceLimit "append: a slice or a string whose bytes no memory bears"):Sem Unit))) (qki (P:=P) size qm n base x2) (fun b w es=>by
    cases b with
    | true=>exact⟨_,_,rfl,rfl⟩
    | false=>exact⟨_,_,rfl,rfl⟩) w es
   obtain⟨h,w',e,l⟩:=this;exact⟨h,w',yz _ w es e,l⟩
  cases hx1<;>first|exact SR.stuck|skip
  ·rename_i qm qA;refine(zJ elem).bind' (fun K2 h2 size qrD e=>?_);subst e;have hy2:=qev.mono h2;rcases zs with⟨q,hq,hv⟩|hq
   ·rw[hq];refine(qq q).bind' (fun K3 h3 v v' hw=>?_);obtain⟨rfl,hw⟩:=hw;refine SR.bind' (T:=fun _ (a b:Bool)=>a=false/\b=false) (SR.pure ⟨by have:=hv v hw;revert this;cases v<;>intro this<;>first|rfl|exact this,by have:=hv v hw;revert this;cases v<;>intro this<;>first|rfl|exact this⟩) (fun K3' h3' z z' e=>?_)
    obtain⟨rfl,rfl⟩:=e;refine(qcb ((hy2.mono h3).mono h3')).bind' (fun K4 h4 n n' e=>?_);subst e;have hz:=((hy2.mono h3).mono h3').mono h4;have l4:=((h2.trans h3).trans h3').trans h4;by_cases hle:qm+n<=qA
    ·show SR P VT K4 (ite (qm+n<=qA) _ _) (ite (qm+n<=qA) _ _);rw[if_pos hle,if_pos hle];exact(yT size n hz).bind' (fun K5 h5 m m' hm=>SR.pure (.slice0 _ _))
    ·show SR P VT K4 (ite (qm+n<=qA) _ _) (ite (qm+n<=qA) _ _);rw[if_neg hle,if_neg hle];refine(zj elem).bind' (fun K5 h5 i i' e=>?_);obtain⟨rfl,_⟩:=e;by_cases hb:((qm+n:Nat):Int)>IntKind.i64.max/\(false=true\/i.bytes=0)
     ·show SR P VT K5 (ite (((qm+n:Nat):Int)>IntKind.i64.max/\(false=true\/i.bytes=0)) _ _) (ite (((qm+n:Nat):Int)>IntKind.i64.max/\(false=true\/i.bytes=0)) _ _);rw[if_pos hb,if_pos hb];exact yb _
     ·show SR P VT K5 (ite (((qm+n:Nat):Int)>IntKind.i64.max/\(false=true\/i.bytes=0)) _ _) (ite (((qm+n:Nat):Int)>IntKind.i64.max/\(false=true\/i.bytes=0)) _ _);rw[if_neg hb,if_neg hb];refine(zj elem).bind' (fun K6 h6 j j' e=>?_);obtain⟨rfl,_⟩:=e;by_cases hc:Builtin.nextslicecap (qm+n) qA * j.bytes>2 ^ 48
      ·show SR P VT K6 (ite (Builtin.nextslicecap (qm+n) qA * j.bytes>2 ^ 48) _ _) (ite (Builtin.nextslicecap (qm+n) qA * j.bytes>2 ^ 48) _ _);rw[if_pos hc,if_pos hc];exact qrC size qm n none _ _ K6
      ·show SR P VT K6 (ite (Builtin.nextslicecap (qm+n) qA * j.bytes>2 ^ 48) _ _) (ite (Builtin.nextslicecap (qm+n) qA * j.bytes>2 ^ 48) _ _);rw[if_neg hc,if_neg hc];exact grow none none qm qA size n K6 (.slice0 _ _) ((hz.mono h5).mono h6)
   ·rw[hq];refine(qcb hy2).bind' (fun K4 h4 n n' e=>?_);subst e;have hz:=hy2.mono h4;have l4:=h2.trans h4;by_cases hle:qm+n<=qA
    ·show SR P VT K4 (ite (qm+n<=qA) _ _) (ite (qm+n<=qA) _ _);rw[if_pos hle,if_pos hle];exact(yT size n hz).bind' (fun K5 h5 m m' hm=>SR.pure (.slice0 _ _))
    ·show SR P VT K4 (ite (qm+n<=qA) _ _) (ite (qm+n<=qA) _ _);rw[if_neg hle,if_neg hle];refine(zj elem).bind' (fun K5 h5 i i' e=>?_);obtain⟨rfl,_⟩:=e;by_cases hb:((qm+n:Nat):Int)>IntKind.i64.max/\(false=true\/i.bytes=0)
     ·show SR P VT K5 (ite (((qm+n:Nat):Int)>IntKind.i64.max/\(false=true\/i.bytes=0)) _ _) (ite (((qm+n:Nat):Int)>IntKind.i64.max/\(false=true\/i.bytes=0)) _ _);rw[if_pos hb,if_pos hb];exact yb _
     ·show SR P VT K5 (ite (((qm+n:Nat):Int)>IntKind.i64.max/\(false=true\/i.bytes=0)) _ _) (ite (((qm+n:Nat):Int)>IntKind.i64.max/\(false=true\/i.bytes=0)) _ _);rw[if_neg hb,if_neg hb];refine(zj elem).bind' (fun K6 h6 j j' e=>?_);obtain⟨rfl,_⟩:=e;by_cases hc:Builtin.nextslicecap (qm+n) qA * j.bytes>2 ^ 48
      ·show SR P VT K6 (ite (Builtin.nextslicecap (qm+n) qA * j.bytes>2 ^ 48) _ _) (ite (Builtin.nextslicecap (qm+n) qA * j.bytes>2 ^ 48) _ _);rw[if_pos hc,if_pos hc];exact qrC size qm n none _ _ K6
      ·show SR P VT K6 (ite (Builtin.nextslicecap (qm+n) qA * j.bytes>2 ^ 48) _ _) (ite (Builtin.nextslicecap (qm+n) qA * j.bytes>2 ^ 48) _ _);rw[if_neg hc,if_neg hc];exact grow none none qm qA size n K6 (.slice0 _ _) ((hz.mono h5).mono h6)
  ·rename_i a b qm qA hab;refine(zJ elem).bind' (fun K2 h2 size qrD e=>?_);subst e;have hy2:=qev.mono h2;rcases zs with⟨q,hq,hv⟩|hq
   ·rw[hq];refine(qq q).bind' (fun K3 h3 v v' hw=>?_);obtain⟨rfl,hw⟩:=hw;refine SR.bind' (T:=fun _ (a b:Bool)=>a=false/\b=false) (SR.pure ⟨by have:=hv v hw;revert this;cases v<;>intro this<;>first|rfl|exact this,by have:=hv v hw;revert this;cases v<;>intro this<;>first|rfl|exact this⟩) (fun K3' h3' z z' e=>?_)
    obtain⟨rfl,rfl⟩:=e;refine(qcb ((hy2.mono h3).mono h3')).bind' (fun K4 h4 n n' e=>?_);subst e;have hz:=((hy2.mono h3).mono h3').mono h4;have l4:=((h2.trans h3).trans h3').trans h4;by_cases hle:qm+n<=qA
    ·show SR P VT K4 (ite (qm+n<=qA) _ _) (ite (qm+n<=qA) _ _);rw[if_pos hle,if_pos hle];refine(yT size n hz).bind' (fun K5 h5 m m' hm=>?_);exact(vU 0 ((hab.mono (l4.trans h5)).add _) hm).bind' (fun K6 h6 _ _ _=>SR.pure (.slice _ _ _ _ (hab.mono ((l4.trans h5).trans h6))))
    ·show SR P VT K4 (ite (qm+n<=qA) _ _) (ite (qm+n<=qA) _ _);rw[if_neg hle,if_neg hle];refine(zj elem).bind' (fun K5 h5 i i' e=>?_);obtain⟨rfl,_⟩:=e;by_cases hb:((qm+n:Nat):Int)>IntKind.i64.max/\(false=true\/i.bytes=0)
     ·show SR P VT K5 (ite (((qm+n:Nat):Int)>IntKind.i64.max/\(false=true\/i.bytes=0)) _ _) (ite (((qm+n:Nat):Int)>IntKind.i64.max/\(false=true\/i.bytes=0)) _ _);rw[if_pos hb,if_pos hb];exact yb _
     ·show SR P VT K5 (ite (((qm+n:Nat):Int)>IntKind.i64.max/\(false=true\/i.bytes=0)) _ _) (ite (((qm+n:Nat):Int)>IntKind.i64.max/\(false=true\/i.bytes=0)) _ _);rw[if_neg hb,if_neg hb];refine(zj elem).bind' (fun K6 h6 j j' e=>?_);obtain⟨rfl,_⟩:=e;by_cases hc:Builtin.nextslicecap (qm+n) qA * j.bytes>2 ^ 48
      ·show SR P VT K6 (ite (Builtin.nextslicecap (qm+n) qA * j.bytes>2 ^ 48) _ _) (ite (Builtin.nextslicecap (qm+n) qA * j.bytes>2 ^ 48) _ _);rw[if_pos hc,if_pos hc];exact qrC size qm n (some a) _ _ K6
      ·show SR P VT K6 (ite (Builtin.nextslicecap (qm+n) qA * j.bytes>2 ^ 48) _ _) (ite (Builtin.nextslicecap (qm+n) qA * j.bytes>2 ^ 48) _ _);rw[if_neg hc,if_neg hc];exact grow (some a) (some b) qm qA size n K6 (.slice _ _ _ _ (hab.mono ((l4.trans h5).trans h6))) ((hz.mono h5).mono h6)
   ·rw[hq];refine(qcb hy2).bind' (fun K4 h4 n n' e=>?_);subst e;have hz:=hy2.mono h4;have l4:=h2.trans h4;by_cases hle:qm+n<=qA
    ·show SR P VT K4 (ite (qm+n<=qA) _ _) (ite (qm+n<=qA) _ _);rw[if_pos hle,if_pos hle];refine(yT size n hz).bind' (fun K5 h5 m m' hm=>?_);exact(vU 0 ((hab.mono (l4.trans h5)).add _) hm).bind' (fun K6 h6 _ _ _=>SR.pure (.slice _ _ _ _ (hab.mono ((l4.trans h5).trans h6))))
    ·show SR P VT K4 (ite (qm+n<=qA) _ _) (ite (qm+n<=qA) _ _);rw[if_neg hle,if_neg hle];refine(zj elem).bind' (fun K5 h5 i i' e=>?_);obtain⟨rfl,_⟩:=e;by_cases hb:((qm+n:Nat):Int)>IntKind.i64.max/\(false=true\/i.bytes=0)
     ·show SR P VT K5 (ite (((qm+n:Nat):Int)>IntKind.i64.max/\(false=true\/i.bytes=0)) _ _) (ite (((qm+n:Nat):Int)>IntKind.i64.max/\(false=true\/i.bytes=0)) _ _);rw[if_pos hb,if_pos hb];exact yb _
     ·show SR P VT K5 (ite (((qm+n:Nat):Int)>IntKind.i64.max/\(false=true\/i.bytes=0)) _ _) (ite (((qm+n:Nat):Int)>IntKind.i64.max/\(false=true\/i.bytes=0)) _ _);rw[if_neg hb,if_neg hb];refine(zj elem).bind' (fun K6 h6 j j' e=>?_);obtain⟨rfl,_⟩:=e;by_cases hc:Builtin.nextslicecap (qm+n) qA * j.bytes>2 ^ 48
      ·show SR P VT K6 (ite (Builtin.nextslicecap (qm+n) qA * j.bytes>2 ^ 48) _ _) (ite (Builtin.nextslicecap (qm+n) qA * j.bytes>2 ^ 48) _ _);rw[if_pos hc,if_pos hc];exact qrC size qm n (some a) _ _ K6
      ·show SR P VT K6 (ite (Builtin.nextslicecap (qm+n) qA * j.bytes>2 ^ 48) _ _) (ite (Builtin.nextslicecap (qm+n) qA * j.bytes>2 ^ 48) _ _);rw[if_neg hc,if_neg hc];exact grow (some a) (some b) qm qA size n K6 (.slice _ _ _ _ (hab.mono ((l4.trans h5).trans h6))) ((hz.mono h5).mono h6)
def qu2(P:Program)(ts:Array TypeId):Bool :=
 match ts[1]? with
 | some t=>match P.underlying t with|some (.int _)=>true|_=>false
 | none=>false
theorem qq6(H:VI P)(ho:qu2 P ts=true)(h0:∀t,ts[0]?=some t->t<P.types.size)(t:TypeId)(h:AV K xs ys):SR P VT K (Builtin.append_ ts t xs) (Builtin.append_ ts t ys):=by
 unfold Builtin.append_
 cases ht:ts[0]? with
 | none=>exact SR.stuck
 | some t =>
  rcases h.get? 0 with⟨e1,_⟩|⟨x,y,e1,e2,hx⟩
  ·rw[e1];exact SR.stuck
  rcases h.get? 1 with⟨e3,_⟩|⟨x2,y2,e3,e4,hx2⟩
  ·rw[e1,e3];exact SR.stuck
  rw[e1,e2,e3,e4];refine(qq t).bind' (fun K1 h1 u u' hq=>?_);obtain⟨rfl,hq⟩:=hq;cases u<;>first|exact SR.stuck|skip
  rename_i elem;have hel:=H.slice t elem (h0 t ht) hq;have hx1:=hx.mono h1;have qev:=hx2.mono h1
  have zs:∃q,ts[1]?=some q/\∃k,P.underlying q=some (.int k):=by
   unfold qu2 at ho
   cases h1:ts[1]? with
   | none=>rw[h1]at ho;cases ho
   | some q =>
    rw[h1]at ho;refine⟨q,rfl,?_⟩
    cases hu:P.underlying q with
    | none=>simp only[hu]at ho;cases ho
    | some v=>simp only[hu]at ho;cases v<;>first|(cases ho;done)|exact⟨_,rfl⟩
  cases hx1<;>first|exact SR.stuck|skip
  ·rename_i qm qA;refine(zJ elem).bind' (fun K2 h2 size qrD e=>?_);subst e
   have app:∀(K3:Kr) (n:Nat),SR P AVT K3 (if n * size=0 then Pure.pure #[]else zeroValue elem >>= fun z=>Pure.pure (Builtin.zeroCells z.cells n)) (if n * size=0 then Pure.pure #[]else zeroValue elem >>= fun z=>Pure.pure (Builtin.zeroCells z.cells n)):=fun K3 n=>by
    split
    ·exact SR.pure (AV.empty _)
    ·exact(yw H hel).bind' (fun _ _ z z' hz=>by obtain⟨a1,rfl,_⟩:=hz;exact SR.pure (a1.vt.zeroCells n))
   have grow:∀(base jD:Option Addr) (qm qA n:Nat) (K3:Kr),VR K3 (.slice base qm qA) (.slice jD qm qA)->SR P VT K3
     (choose (.appendCap (qm+n) qA elem) >>= fun yQ=>typeInfo elem >>= fun i=>askRoom (yQ * i.bytes) >>= fun _=>Builtin.firstCells size qm (.slice base qm qA) >>= fun old=>(if n * size=0 then Pure.pure #[]else zeroValue elem >>= fun z=>Pure.pure (Builtin.zeroCells z.cells n)) >>= fun new=>zeroValue elem >>= fun z=>newRow elem (old++new++Builtin.zeroCells z.cells (yQ-(qm+n))) >>= fun r=>pure (.slice (some r) (qm+n) yQ))
     (choose (.appendCap (qm+n) qA elem) >>= fun yQ=>typeInfo elem >>= fun i=>askRoom (yQ * i.bytes) >>= fun _=>Builtin.firstCells size qm (.slice jD qm qA) >>= fun old=>(if n * size=0 then Pure.pure #[]else zeroValue elem >>= fun z=>Pure.pure (Builtin.zeroCells z.cells n)) >>= fun new=>zeroValue elem >>= fun z=>newRow elem (old++new++Builtin.zeroCells z.cells (yQ-(qm+n))) >>= fun r=>pure (.slice (some r) (qm+n) yQ)):=by
    intro base jD qm qA n K3 hs;refine(xN _).bind' (fun K4 h4 c c' e=>?_);subst e;refine(zj elem).bind' (fun K5 h5 i i' e=>?_);obtain⟨rfl,_⟩:=e;refine(qc5 _).bind' (fun K6 h6 _ _ _=>?_);have l6:=(h4.trans h5).trans h6;refine(yT size qm (hs.mono l6)).bind' (fun K7 h7 o o' ho=>?_);refine(app K7 n).bind' (fun K8 h8 m m' hm=>?_);refine(yw H hel).bind' (fun K9 h9 z z' hz=>?_);obtain⟨a1,rfl,_⟩:=hz;have jV:=(((ho.mono h8).mono h9).append (hm.mono h9)).append (a1.vt.zeroCells (c-(qm+n)));exact(qbb elem jV).bind' (fun K10 _ r r' hr=>SR.pure (.slice _ _ _ _ hr.1))
   have hy2:=qev.mono h2;obtain⟨q,hq,k,hv⟩:=zs;rw[hq];refine(qq q).bind' (fun K3 h3 v v' hw=>?_);obtain⟨rfl,hw⟩:=hw;rw[hv]at hw;cases hw;refine(qa2 (hy2.mono h3)).bind' (fun K3' h3' l l' e=>?_);subst e;by_cases hneg:IntKind.i64.wrap l<0
   ·show SR P VT K3' (ite (IntKind.i64.wrap l<0) _ _) (ite (IntKind.i64.wrap l<0) _ _);rw[if_pos hneg,if_pos hneg];exact yb _
   ·show SR P VT K3' (ite (IntKind.i64.wrap l<0) _ _) (ite (IntKind.i64.wrap l<0) _ _);rw[if_neg hneg,if_neg hneg];refine(zj elem).bind' (fun K4 h4 i0 i0' e=>?_);obtain⟨rfl,_⟩:=e;by_cases qdw:IntKind.i64.wrap l * i0.bytes>2 ^ 48
    ·show SR P VT K4 (ite (IntKind.i64.wrap l * i0.bytes>2 ^ 48) _ _) (ite (IntKind.i64.wrap l * i0.bytes>2 ^ 48) _ _);rw[if_pos qdw,if_pos qdw];exact(xN _).bind' (fun K5 _ c c' e=>by subst e;exact yb _)
    ·show SR P VT K4 (ite (IntKind.i64.wrap l * i0.bytes>2 ^ 48) _ _) (ite (IntKind.i64.wrap l * i0.bytes>2 ^ 48) _ _);rw[if_neg qdw,if_neg qdw];have l4:=((h2.trans h3).trans h3').trans h4;generalize hn:(IntKind.i64.wrap l).toNat=n;by_cases hle:qm+n<=qA
     ·show SR P VT K4 (ite (qm+n<=qA) _ _) (ite (qm+n<=qA) _ _);rw[if_pos hle,if_pos hle];exact(app K4 n).bind' (fun K5 h5 m m' hm=>SR.pure (.slice0 _ _))
     ·show SR P VT K4 (ite (qm+n<=qA) _ _) (ite (qm+n<=qA) _ _);rw[if_neg hle,if_neg hle];refine(zj elem).bind' (fun K5 h5 i i' e=>?_);obtain⟨rfl,_⟩:=e;by_cases hb:((qm+n:Nat):Int)>IntKind.i64.max/\(true=true\/i.bytes=0)
      ·show SR P VT K5 (ite (((qm+n:Nat):Int)>IntKind.i64.max/\(true=true\/i.bytes=0)) _ _) (ite (((qm+n:Nat):Int)>IntKind.i64.max/\(true=true\/i.bytes=0)) _ _);rw[if_pos hb,if_pos hb];exact yb _
      ·show SR P VT K5 (ite (((qm+n:Nat):Int)>IntKind.i64.max/\(true=true\/i.bytes=0)) _ _) (ite (((qm+n:Nat):Int)>IntKind.i64.max/\(true=true\/i.bytes=0)) _ _);rw[if_neg hb,if_neg hb];refine(zj elem).bind' (fun K6 h6 j j' e=>?_);obtain⟨rfl,_⟩:=e;by_cases hc:Builtin.nextslicecap (qm+n) qA * j.bytes>2 ^ 48
       ·show SR P VT K6 (ite (Builtin.nextslicecap (qm+n) qA * j.bytes>2 ^ 48) _ _) (ite (Builtin.nextslicecap (qm+n) qA * j.bytes>2 ^ 48) _ _);rw[if_pos hc,if_pos hc];exact yb _
       ·show SR P VT K6 (ite (Builtin.nextslicecap (qm+n) qA * j.bytes>2 ^ 48) _ _) (ite (Builtin.nextslicecap (qm+n) qA * j.bytes>2 ^ 48) _ _);rw[if_neg hc,if_neg hc];exact grow none none qm qA n K6 (.slice0 _ _)
  ·rename_i a b qm qA hab;refine(zJ elem).bind' (fun K2 h2 size qrD e=>?_);subst e
   have app:∀(K3:Kr) (n:Nat),SR P AVT K3 (if n * size=0 then Pure.pure #[]else zeroValue elem >>= fun z=>Pure.pure (Builtin.zeroCells z.cells n)) (if n * size=0 then Pure.pure #[]else zeroValue elem >>= fun z=>Pure.pure (Builtin.zeroCells z.cells n)):=fun K3 n=>by
    split
    ·exact SR.pure (AV.empty _)
    ·exact(yw H hel).bind' (fun _ _ z z' hz=>by obtain⟨a1,rfl,_⟩:=hz;exact SR.pure (a1.vt.zeroCells n))
   have grow:∀(base jD:Option Addr) (qm qA n:Nat) (K3:Kr),VR K3 (.slice base qm qA) (.slice jD qm qA)->SR P VT K3
     (choose (.appendCap (qm+n) qA elem) >>= fun yQ=>typeInfo elem >>= fun i=>askRoom (yQ * i.bytes) >>= fun _=>Builtin.firstCells size qm (.slice base qm qA) >>= fun old=>(if n * size=0 then Pure.pure #[]else zeroValue elem >>= fun z=>Pure.pure (Builtin.zeroCells z.cells n)) >>= fun new=>zeroValue elem >>= fun z=>newRow elem (old++new++Builtin.zeroCells z.cells (yQ-(qm+n))) >>= fun r=>pure (.slice (some r) (qm+n) yQ))
     (choose (.appendCap (qm+n) qA elem) >>= fun yQ=>typeInfo elem >>= fun i=>askRoom (yQ * i.bytes) >>= fun _=>Builtin.firstCells size qm (.slice jD qm qA) >>= fun old=>(if n * size=0 then Pure.pure #[]else zeroValue elem >>= fun z=>Pure.pure (Builtin.zeroCells z.cells n)) >>= fun new=>zeroValue elem >>= fun z=>newRow elem (old++new++Builtin.zeroCells z.cells (yQ-(qm+n))) >>= fun r=>pure (.slice (some r) (qm+n) yQ)):=by
    intro base jD qm qA n K3 hs;refine(xN _).bind' (fun K4 h4 c c' e=>?_);subst e;refine(zj elem).bind' (fun K5 h5 i i' e=>?_);obtain⟨rfl,_⟩:=e;refine(qc5 _).bind' (fun K6 h6 _ _ _=>?_);have l6:=(h4.trans h5).trans h6;refine(yT size qm (hs.mono l6)).bind' (fun K7 h7 o o' ho=>?_);refine(app K7 n).bind' (fun K8 h8 m m' hm=>?_);refine(yw H hel).bind' (fun K9 h9 z z' hz=>?_);obtain⟨a1,rfl,_⟩:=hz;have jV:=(((ho.mono h8).mono h9).append (hm.mono h9)).append (a1.vt.zeroCells (c-(qm+n)));exact(qbb elem jV).bind' (fun K10 _ r r' hr=>SR.pure (.slice _ _ _ _ hr.1))
   have hy2:=qev.mono h2;obtain⟨q,hq,k,hv⟩:=zs;rw[hq];refine(qq q).bind' (fun K3 h3 v v' hw=>?_);obtain⟨rfl,hw⟩:=hw;rw[hv]at hw;cases hw;refine(qa2 (hy2.mono h3)).bind' (fun K3' h3' l l' e=>?_);subst e;by_cases hneg:IntKind.i64.wrap l<0
   ·show SR P VT K3' (ite (IntKind.i64.wrap l<0) _ _) (ite (IntKind.i64.wrap l<0) _ _);rw[if_pos hneg,if_pos hneg];exact yb _
   ·show SR P VT K3' (ite (IntKind.i64.wrap l<0) _ _) (ite (IntKind.i64.wrap l<0) _ _);rw[if_neg hneg,if_neg hneg];refine(zj elem).bind' (fun K4 h4 i0 i0' e=>?_);obtain⟨rfl,_⟩:=e;by_cases qdw:IntKind.i64.wrap l * i0.bytes>2 ^ 48
    ·show SR P VT K4 (ite (IntKind.i64.wrap l * i0.bytes>2 ^ 48) _ _) (ite (IntKind.i64.wrap l * i0.bytes>2 ^ 48) _ _);rw[if_pos qdw,if_pos qdw];exact(xN _).bind' (fun K5 _ c c' e=>by subst e;exact yb _)
    ·show SR P VT K4 (ite (IntKind.i64.wrap l * i0.bytes>2 ^ 48) _ _) (ite (IntKind.i64.wrap l * i0.bytes>2 ^ 48) _ _);rw[if_neg qdw,if_neg qdw];have l4:=((h2.trans h3).trans h3').trans h4;generalize hn:(IntKind.i64.wrap l).toNat=n;by_cases hle:qm+n<=qA
     ·show SR P VT K4 (ite (qm+n<=qA) _ _) (ite (qm+n<=qA) _ _);rw[if_pos hle,if_pos hle];refine(app K4 n).bind' (fun K5 h5 m m' hm=>?_);exact(vU 0 ((hab.mono (l4.trans h5)).add _) hm).bind' (fun K6 h6 _ _ _=>SR.pure (.slice _ _ _ _ (hab.mono ((l4.trans h5).trans h6))))
     ·show SR P VT K4 (ite (qm+n<=qA) _ _) (ite (qm+n<=qA) _ _);rw[if_neg hle,if_neg hle];refine(zj elem).bind' (fun K5 h5 i i' e=>?_);obtain⟨rfl,_⟩:=e;by_cases hb:((qm+n:Nat):Int)>IntKind.i64.max/\(true=true\/i.bytes=0)
      ·show SR P VT K5 (ite (((qm+n:Nat):Int)>IntKind.i64.max/\(true=true\/i.bytes=0)) _ _) (ite (((qm+n:Nat):Int)>IntKind.i64.max/\(true=true\/i.bytes=0)) _ _);rw[if_pos hb,if_pos hb];exact yb _
      ·show SR P VT K5 (ite (((qm+n:Nat):Int)>IntKind.i64.max/\(true=true\/i.bytes=0)) _ _) (ite (((qm+n:Nat):Int)>IntKind.i64.max/\(true=true\/i.bytes=0)) _ _);rw[if_neg hb,if_neg hb];refine(zj elem).bind' (fun K6 h6 j j' e=>?_);obtain⟨rfl,_⟩:=e;by_cases hc:Builtin.nextslicecap (qm+n) qA * j.bytes>2 ^ 48
       ·show SR P VT K6 (ite (Builtin.nextslicecap (qm+n) qA * j.bytes>2 ^ 48) _ _) (ite (Builtin.nextslicecap (qm+n) qA * j.bytes>2 ^ 48) _ _);rw[if_pos hc,if_pos hc];exact yb _
       ·show SR P VT K6 (ite (Builtin.nextslicecap (qm+n) qA * j.bytes>2 ^ 48) _ _) (ite (Builtin.nextslicecap (qm+n) qA * j.bytes>2 ^ 48) _ _);rw[if_neg hc,if_neg hc];exact grow (some a) (some b) qm qA n K6 (.slice _ _ _ _ (hab.mono ((l4.trans h5).trans h6)))
end
end Sim
namespace Sim
section
variable {P:Program}{K:Kr}
variable {xs ys:Array Value}
theorem qgX:∀(n:Nat) (acc:ByteArray) (K:Kr) (a a':Addr),AR K a a'->SR P EqT K (Extern.Bytes.loadBytes a n acc) (Extern.Bytes.loadBytes a' n acc)
 | 0,_,_,_,_,_=>SR.pure rfl
 | n+1,acc,K,a,a',h=>by
  unfold Extern.Bytes.loadBytes;refine(qhd h).bind' (fun K1 h1 v v' hv=>?_);cases hv<;>first|exact SR.stuck|skip
  rename_i k m;cases k<;>first|exact SR.stuck|exact qgX n _ K1 _ _ ((h.mono h1).add 1)
theorem qaD{x x':Value}(hx:VR K x x'):SR P EqT K (Extern.Bytes.bytesOf x) (Extern.Bytes.bytesOf x'):=by
 cases hx<;>first|exact SR.stuck|exact SR.pure rfl|skip
 rename_i a b n c h;exact qgX n _ K a b h
theorem qjh(h:AV K xs ys):SR P VT K (Extern.BytealgCompare.compare xs) (Extern.BytealgCompare.compare ys):=by
 by_cases hs:xs.size=2
 ·have hs':ys.size=2:=h.size.symm.trans hs;obtain⟨a,b,rfl⟩:∃a b,xs=#[a,b]:=⟨xs[0],xs[1],by apply Array.ext (by simpa using hs);intro i h1 h2;rcases i with _|_|i<;>first|rfl|(simp at h2;omega)⟩
  obtain⟨c,d,rfl⟩:∃a b,ys=#[a,b]:=⟨ys[0],ys[1],by apply Array.ext (by simpa using hs');intro i h1 h2;rcases i with _|_|i<;>first|rfl|(simp at h2;omega)⟩
  exact(qaD (h.el 0 _ _ rfl rfl)).bind' (fun K1 h1 x x' e=>by
   subst e
   exact(qaD ((h.el 1 _ _ rfl rfl).mono h1)).bind' (fun K2 _ y y' e=>by subst e;exact SR.pure (.int _ _)))
 ·have:Extern.BytealgCompare.compare xs=Go.stuck "bytealg.Compare: two arguments expected" :=by
   rcases xs with⟨_|⟨a,_|⟨b,_|⟨c,r⟩⟩⟩⟩
   ·rfl
   ·rfl
   ·exact absurd rfl hs
   ·rfl
  rw[this];exact SR.stuck
theorem qgY{a a':Addr}(h:AR K a a'):SR P (fun _ (b b':Bool)=>b'=true->b=true) K (stringish a) (stringish a'):=by
 refine SR.frozen h (fun b b' hb=>?_)
 cases b with
 | true =>
  cases b' with
  | true=>exact SR.pure (fun _=>rfl)
  | false =>
   refine SR.shapeR (fun x=>?_)
   cases x with
   | none=>exact SR.pure (fun _=>rfl)
   | some q=>exact SR.frozenR (fun y=>SR.pure (fun _=>rfl))
 | false =>
  have:b'=false:=by cases b' with|true=>exact absurd (hb rfl) (by simp)|false=>rfl
  subst this;refine SR.shape h.block (fun x=>?_)
  cases x with
  | none=>exact SR.pure (fun z=>z)
  | some q =>
   obtain⟨t,n⟩:=q;exact SR.frozen ⟨h.block,rfl,rfl⟩ (fun y y' hy=>SR.pure hy)
theorem qoQ{a a' b b':Addr}(h:AR K a a')(k:AR K b b'):SR P (fun _ (m m':Bool)=>m'=true->m=true) K (mayBeOne a b) (mayBeOne a' b'):=by
 refine(qgY h).bind' (fun K1 h1 sa sa' hsa=>?_);refine(qgY (k.mono h1)).bind' (fun K2 h2 sb sb' hsb=>?_);refine SR.shape (h2.b _ _ (h1.b _ _ h.block)) (fun x=>?_);refine SR.shape (h2.b _ _ (h1.b _ _ k.block)) (fun y=>?_);refine SR.pure ?_;intro hm
 cases sa with
 | true =>
  cases sb with
  | true=>rfl
  | false =>
   have:sb'=false:=by cases sb' with|true=>exact absurd (hsb rfl) (by simp)|false=>rfl
   subst this
   cases sa' with
   | true=>exact hm
   | false=>exact absurd hm (by simp)
 | false =>
  have:sa'=false:=by cases sa' with|true=>exact absurd (hsa rfl) (by simp)|false=>rfl
  subst this
  cases sb with
  | true =>
   cases sb' with
   | true=>exact hm
   | false=>exact absurd hm (by simp)
  | false =>
   have:sb'=false:=by cases sb' with|true=>exact absurd (hsb rfl) (by simp)|false=>rfl
   subst this;exact hm
theorem qhE(ts us:Array TypeId)(h:AV K xs ys):SR P VT K (Extern.SlicesOverlaps.overlaps ts us xs) (Extern.SlicesOverlaps.overlaps ts us ys):=by
 by_cases hs:xs.size=2
 ·have hs':ys.size=2:=h.size.symm.trans hs;obtain⟨x1,x2,rfl⟩:∃a b,xs=#[a,b]:=⟨xs[0],xs[1],by apply Array.ext (by simpa using hs);intro i h1 h2;rcases i with _|_|i<;>first|rfl|(simp at h2;omega)⟩
  obtain⟨y1,y2,rfl⟩:∃a b,ys=#[a,b]:=⟨ys[0],ys[1],by apply Array.ext (by simpa using hs');intro i h1 h2;rcases i with _|_|i<;>first|rfl|(simp at h2;omega)⟩
  have h1:VR K x1 y1:=h.el 0 _ _ rfl rfl;have h2:VR K x2 y2:=h.el 1 _ _ rfl rfl;have fls:∀K1:Kr,SR P VT K1 (Pure.pure (Value.bool false):Sem Value) (Pure.pure (Value.bool false)):=fun K1=>SR.pure (.bool _)
  have head:∀{f f':TypeId->Nat->Sem Value},(∀K1,K.le K1->∀e z,SR P VT K1 (f e z) (f' e z))->SR P VT K (do
    let some t:=ts[0]? |Go.stuck "slices.overlaps: no parameter types"
    let .slice elem <-underlying t|Go.stuck "slices.overlaps: slice type expected"
    let size <-sizeOf elem
    f elem size) (do
    let some t:=ts[0]? |Go.stuck "slices.overlaps: no parameter types"
    let .slice elem <-underlying t|Go.stuck "slices.overlaps: slice type expected"
    let size <-sizeOf elem
    f' elem size):=by
   intro f f' hf
   cases ts[0]? with
   | none=>exact SR.stuck
   | some t =>
    refine(qq t).bind' (fun K1 h1 u u' hq=>?_);obtain⟨rfl,hq⟩:=hq;clear hq;cases u<;>first|exact SR.stuck|skip
    rename_i elem;refine(zJ elem).bind' (fun K2 h2 z z' e=>?_);subst e;exact hf K2 (h1.trans h2) elem z
  have tl:∀(K2:Kr) (a b c d:Addr),AR K2 a b->AR K2 c d->∀(q q':Bool),q=false->q'=false->SR P VT K2 (do
    noView a
    noView c
    if <-mayBeOne a c then return Value.bool ((<-choose (.extern "sameAddr.stringBytes" 2)) == 1)
    pure (Value.bool q)) (do
    noView b
    noView d
    if <-mayBeOne b d then return Value.bool ((<-choose (.extern "sameAddr.stringBytes" 2)) == 1)
    pure (Value.bool q')):=by
   intro K2 a b c d ha hc q q' hq hq';subst hq;subst hq';refine(qgT ha).bind' (fun K3 h3 _ _ _=>?_);refine(qgT (hc.mono h3)).bind' (fun K4 h4 _ _ _=>?_);refine(qoQ ((ha.mono h3).mono h4) ((hc.mono h3).mono h4)).bind' (fun K5 h5 m m' hm=>?_)
   cases m with
   | true =>
    cases m' with
    | true=>exact(xN _).bind' (fun K6 _ n n' e=>by subst e;exact SR.pure (.bool _))
    | false=>exact SR.chooseL 0 (fls K5) (fls K5)
   | false =>
    have:m'=false:=by cases m' with|true=>exact absurd (hm rfl) (by simp)|false=>rfl
    subst this;exact fls K5
  cases h1 with
  | slice a b la ca hab =>
   cases h2 with
   | slice c d lb cb hcd =>
    refine head (fun K2 h2 elem z=>?_);have ha:=hab.mono h2;have hc:=hcd.mono h2;by_cases h0:la=0\/lb=0\/z=0
    ·show SR P VT K2 (ite (la=0\/lb=0\/z=0) _ _) (ite (la=0\/lb=0\/z=0) _ _);rw[if_pos h0,if_pos h0];exact fls _
    ·show SR P VT K2 (ite (la=0\/lb=0\/z=0) _ _) (ite (la=0\/lb=0\/z=0) _ _);rw[if_neg h0,if_neg h0];refine SR.uniq (fun u1 u2 _=>?_);have hbl:b.block=d.block↔a.block=c.block:=⟨fun x=>u2 _ _ _ ha.block (by rw[x];exact hc.block),fun x=>u1 _ _ _ ha.block (by rw[x];exact hc.block)⟩
     have cb':(b.block != d.block)=(a.block != c.block):=by rw[Bool.eq_iff_iff];simp only[bne_iff_ne,ne_eq];rw[hbl]
     have cb2:(b.block == d.block)=(a.block == c.block):=by rw[Bool.eq_iff_iff];simp only[beq_iff_eq];exact hbl
     have res:∀K3:Kr,SR P VT K3 (Pure.pure (Value.bool (a.block == c.block&&decide (a.off<c.off+lb * z)&&decide (c.off<a.off+la * z))):Sem Value) (Pure.pure (Value.bool (b.block == d.block&&decide (b.off<d.off+lb * z)&&decide (d.off<b.off+la * z)))):=fun K3=>by
      rw[cb2,ha.off,hc.off];exact SR.pure (.bool _)
     refine SR.frozen ha (fun fa fa' hfa=>SR.frozen hc (fun fb fb' hfb=>?_));dsimp only;rw[cb'];by_cases hne:(a.block != c.block)=true
     ·have eqf:(a.block == c.block)=false:=by simpa using hne
      rw[hne]
      cases fa with
      | true =>
       cases fb with
       | true=>exact SR.zT
       | false =>
        have:fb'=false:=by cases fb' with|true=>exact absurd (hfb rfl) (by simp)|false=>rfl
        subst this;cases fa'<;>exact tl K2 a b c d ha hc _ _ (by rw[eqf];rfl) (by rw[cb2,eqf];rfl)
      | false =>
       have:fa'=false:=by cases fa' with|true=>exact absurd (hfa rfl) (by simp)|false=>rfl
       subst this;cases fb<;>cases fb'<;>exact tl K2 a b c d ha hc _ _ (by rw[eqf];rfl) (by rw[cb2,eqf];rfl)
     ·have qc8:(a.block != c.block)=false:=by simpa using hne
      rw[qc8];exact res K2
   | slice0 m k=>exact head (fun K2 _ _ _=>fls K2)
   | _=>exact SR.stuck
  | slice0 n c =>
   cases h2 with
   | slice c d lb cb hcd=>exact head (fun K2 _ _ _=>fls K2)
   | slice0 m k=>exact head (fun K2 _ _ _=>fls K2)
   | _=>exact SR.stuck
  | _=>exact SR.stuck
 ·have:Extern.SlicesOverlaps.overlaps ts us xs=Go.stuck "slices.overlaps: two slices expected" :=by
   rcases xs with⟨_|⟨a,_|⟨b,_|⟨c,r⟩⟩⟩⟩
   ·rfl
   ·cases a<;>rfl
   ·exact absurd rfl hs
   ·cases a<;>cases b<;>rfl
  rw[this];exact SR.stuck
end
end Sim
namespace Sim
section
variable {P:Program}{K:Kr}
variable {x x':Value}{t:TypeId}{ys xs:Array Value}
theorem qra(t:TypeId):SR P VT K (Instr.makeMap t none) (Instr.makeMap t none) :=
 SR.new (.map _ _ _ ⟨rfl,fun i x y h=>by simp at h⟩) rfl (fun _ _ _ _ hr _=>SR.pure (.map _ _ hr))
theorem qir(t:TypeId)(h:VR K x x'):SR P VT K (Instr.makeInterface t x) (Instr.makeInterface t x'):=by
 refine(qq t).bind' (fun K1 h1 u u' hu=>?_);obtain⟨rfl,_⟩:=hu;cases u<;>first|exact SR.stuck|exact SR.pure (.iface t _ _ (h.mono h1))
theorem qrb(h:VR K x x')(hn:x≠.nilIface):SR P VT K (Instr.panic x) (Instr.panic x'):=by
 cases h<;>first|exact SR.stuck|skip
 ·rename_i t a b e;exact SR.panic (.iface t _ _ e)
 ·exact absurd rfl hn
theorem qlo(H:VI P)(h:VR K x x')(t a:TypeId)(ha:a<P.types.size)(hi:(match P.underlying a with|some (.interface _)=>false|_=>true)=true):SR P VT K (Instr.typeAssert x t a true) (Instr.typeAssert x' t a true):=by
 refine(qq a).bind' (fun K1 h1 u u' hu=>?_);obtain⟨rfl,hu⟩:=hu;rw[hu]at hi
 have qwc:∀K2:Kr,SR P VT K2 (do pure (Value.tuple #[<-zeroValue a,.bool false])) (do pure (Value.tuple #[<-zeroValue a,.bool false])):=fun K2 =>
  (yw H ha).bind' (fun K3 _ z z' hz=>by have:=AV.two hz.1 (VR.bool (K:=K3) false);exact SR.pure (.tuple _ _ this.size this.el))
 have hx:=h.mono h1;cases hx<;>first|(cases u<;>first|(cases hi;done)|exact SR.stuck)|skip
 ·rename_i t' v v' e
  have holds:SR P VT K1 (Pure.pure (Value.tuple #[v,.bool true]):Sem Value) (Pure.pure (Value.tuple #[v',.bool true])):=by
   have:=AV.two e (VR.bool (K:=K1) true);exact SR.pure (.tuple _ _ this.size this.el)
  have key:SR P VT K1 (if t'=a then(Pure.pure (Value.tuple #[v,.bool true]):Sem Value)else(do pure (Value.tuple #[<-zeroValue a,.bool false]))) (if t'=a then(Pure.pure (Value.tuple #[v',.bool true]):Sem Value)else(do pure (Value.tuple #[<-zeroValue a,.bool false]))):=by
   split
   ·exact holds
   ·exact qwc K1
  cases u<;>first|(cases hi;done)|exact key
 ·cases u<;>first|(cases hi;done)|exact qwc K1
theorem qs5{e:TypeId}(ht:P.underlying t=some (.pointer e))(h:VR K x x'):SR P EqT K (Op.equal t x (.pointer none)) (Op.equal t x' (.pointer none)):=by
 unfold Op.equal Op.maxDepth Op.equalIn;refine(qq t).bind' (fun K1 h1 u u' hu=>?_);obtain⟨rfl,hu⟩:=hu;rw[ht]at hu;cases hu;have hx:=h.mono h1;cases hx<;>first|exact SR.stuck|exact SR.pure rfl
theorem qs6{ms:Array (String×TypeId)}(ht:P.underlying t=some (.interface ms))(h:VR K x x'):SR P EqT K (Op.equal t x .nilIface) (Op.equal t x' .nilIface):=by
 unfold Op.equal Op.maxDepth Op.equalIn;refine(qq t).bind' (fun K1 h1 u u' hu=>?_);obtain⟨rfl,hu⟩:=hu;rw[ht]at hu;cases hu;have hx:=h.mono h1;cases hx<;>first|exact SR.stuck|exact SR.pure rfl
theorem qk1{v v':Value}(h:VR K v v'):SR P EqT K (Extern.Bytes.asByte v) (Extern.Bytes.asByte v'):=by
 unfold Extern.Bytes.asByte;cases h<;>first|exact SR.stuck|skip
 rename_i k n;cases k<;>first|exact SR.stuck|exact SR.pure rfl
theorem AV.qkj{a b:Value}(h:AV K #[a,b] ys):∃a' b',ys=#[a',b']/\VR K a a'/\VR K b b':=by
 have hs:ys.size=2:=h.size.symm;refine⟨ys[0],ys[1],?_,h.el 0 _ _ rfl (by simp[hs]),h.el 1 _ _ rfl (by simp[hs])⟩;apply Array.ext
 ·simpa using hs
 ·intro i h1 h2
  have:i=0\/i=1:=by simp at h2;omega
  rcases this with rfl|rfl<;>rfl
theorem qgL(h:AV K xs ys):SR P VT K (Extern.BytealgIndexByte.indexByte xs) (Extern.BytealgIndexByte.indexByte ys):=by
 unfold Extern.BytealgIndexByte.indexByte;rcases xs with⟨_|⟨b,_|⟨c,_|⟨d,l⟩⟩⟩⟩
 ·exact SR.stuck
 ·exact SR.stuck
 ·obtain⟨b',c',rfl,hb,hc⟩:=AV.qkj h;refine(qaD hb).bind' (fun K1 h1 s s' e=>?_);subst e;refine(qk1 (hc.mono h1)).bind' (fun K2 h2 d d' e=>?_);subst e
  cases(List.range s.size).find? (fun i=>s[i]! == d)with
  | none=>exact SR.pure (.int _ _)
  | some i=>exact SR.pure (.int _ _)
 ·exact SR.stuck
theorem qnc(h:AV K xs ys):SR P VT K (Extern.BytealgCount.count xs) (Extern.BytealgCount.count ys):=by
 unfold Extern.BytealgCount.count;rcases xs with⟨_|⟨b,_|⟨c,_|⟨d,l⟩⟩⟩⟩
 ·exact SR.stuck
 ·exact SR.stuck
 ·obtain⟨b',c',rfl,hb,hc⟩:=AV.qkj h;refine(qaD hb).bind' (fun K1 h1 s s' e=>?_);subst e;refine(qk1 (hc.mono h1)).bind' (fun K2 h2 d d' e=>?_);subst e;exact SR.pure (.int _ _)
 ·exact SR.stuck
theorem qhF {g:Nat} (hg:P.globals.findIdx? (·.name == "internal/bytealg.MaxLen")=some g) (hB:K.B g g)  (h:AV K xs ys):SR P VT K (Extern.BytealgIndex.index xs) (Extern.BytealgIndex.index ys):=by
 unfold Extern.BytealgIndex.index;rcases xs with⟨_|⟨b,_|⟨c,_|⟨d,l⟩⟩⟩⟩
 ·exact SR.stuck
 ·exact SR.stuck
 ·obtain⟨b',c',rfl,hb,hc⟩:=AV.qkj h;refine(qaD hb).bind' (fun K1 h1 s s' e=>?_);subst e;refine(qaD (hc.mono h1)).bind' (fun K2 h2 d d' e=>?_);subst e;have hB2:=(h1.trans h2).b _ _ hB
  have hm:SR P EqT K2 Extern.BytealgIndex.maxLen Extern.BytealgIndex.maxLen:=by
   unfold Extern.BytealgIndex.maxLen globalAddr;refine SR.bind' (T:=fun K a a'=>AR K a a') (SR.yB ?_) (fun K3 h3 a a' ha=>(qhd ha).bind' (fun K4 _ v v' hv=>qa2 hv));rw[hg];exact SR.pure ⟨hB2,rfl,rfl⟩
  refine SR.bind' (T:=EqT) (s:=Extern.BytealgIndex.maxLen) hm (fun K3 h3 m m' e=>?_);subst e;generalize (List.range (s.size+1-d.size)).find? (fun i=>s.extract i (i+d.size) == d)=q;by_cases c1:(decide (d.size<2) || decide ((d.size:Int)>m))=true
  ·rw[if_pos c1];exact SR.qbL
  ·rw[if_neg c1];by_cases c2:s.size≥2 ^ 32-15
   ·simp only[if_pos c2];exact SR.qbL
   ·simp only[if_neg c2]
    cases q with
    | none=>exact SR.pure (.int _ _)
    | some i=>exact SR.pure (.int _ _)
 ·exact SR.stuck
theorem qpj{f:Value->Value->Bool}(_hs:xs.size=ys.size):((xs.toList.zip ys.toList).all fun(x,y)=>f x y)=true↔∀(i:Nat) (x y:Value),xs[i]?=some x->ys[i]?=some y->f x y=true:=by
 rw[List.all_eq_true];constructor
 ·intro h i x y hx hy;refine h (x,y) ?_;apply List.mem_iff_getElem?.2;exact⟨i,by rw[List.getElem?_zip_eq_some];simp[hx,hy]⟩
 ·rintro h ⟨x,y⟩ hm;obtain⟨i,hi⟩:=List.mem_iff_getElem?.1 hm;rw[List.getElem?_zip_eq_some]at hi;exact h i x y (by simpa using hi.1) (by simpa using hi.2)
theorem Qys{a a' b b':Addr}(f1:∀a b b',K.B a b->K.B a b'->b=b')(f2:∀a a' b,K.B a b->K.B a' b->a=a')(ha:AR K a a')(hb:AR K b b'):(a == b)=(a' == b'):=by
 obtain⟨x,y,z⟩:=a;obtain⟨x',y',z'⟩:=a';obtain⟨u,v,t⟩:=b;obtain⟨u',v',t'⟩:=b';have h1:=ha.block;have h2:=ha.off;have h3:=ha.spot;have k1:=hb.block;have k2:=hb.off;have k3:=hb.spot;dsimp only at h1 h2 h3 k1 k2 k3;subst h2;subst h3;subst k2;subst k3;rw[Bool.eq_iff_iff,beq_iff_eq,beq_iff_eq];constructor
 ·intro e;injection e with e1 e2 e3;subst e1;rw[f1 _ _ _ h1 k1,e2,e3]
 ·intro e;injection e with e1 e2 e3;subst e1;rw[f2 _ _ _ h1 k1,e2,e3]
theorem qfF(f1:∀a b b',K.B a b->K.B a b'->b=b')(f2:∀a a' b,K.B a b->K.B a' b->a=a'):∀(n:Nat) {x x' y y':Value},VR K x x'->VR K y y'->Instr.sameBits n x y=true->Instr.sameBits n x' y'=true
 | n,x,x',y,y',hx,hy=>by
  cases hx with
  | junk=>intro h;cases n<;>cases y<;>cases h
  | ptr a b h1 =>
   cases hy with
   | junk=>intro h;cases n<;>cases h
   | ptr c d h2 =>
    have:(some a == some c)=(some b == some d):=Qys f1 f2 h1 h2;cases n<;>simp only[Instr.sameBits]<;>rw[this]<;>exact id
   | _=>intro h;cases n<;>first|exact h|(cases h;done)
  | chan a b h1 =>
   cases hy with
   | junk=>intro h;cases n<;>cases h
   | chan c d h2 =>
    have:(some a == some c)=(some b == some d):=by
     rw[Bool.eq_iff_iff,beq_iff_eq,beq_iff_eq];constructor
     ·intro e;cases e;rw[f1 _ _ _ h1 h2]
     ·intro e;cases e;rw[f2 _ _ _ h1 h2]
    cases n<;>simp only[Instr.sameBits]<;>rw[this]<;>exact id
   | _=>intro h;cases n<;>first|exact h|(cases h;done)
  | iface t a b h1 =>
   cases hy with
   | junk=>intro h;cases n<;>cases h
   | iface u c d h2 =>
    cases n with
    | zero=>exact id
    | succ n =>
     simp only[Instr.sameBits,Bool.and_eq_true];exact fun h=>⟨h.1,qfF f1 f2 n h1 h2 h.2⟩
   | _=>intro h;cases n<;>first|exact h|(cases h;done)
  | agg as as' s1 e1 =>
   cases hy with
   | junk=>intro h;cases n<;>cases h
   | agg bs bs' s2 e2 =>
    cases n with
    | zero=>exact id
    | succ n =>
     simp only[Instr.sameBits,Bool.and_eq_true,beq_iff_eq];rintro⟨hs,h⟩
     have hs':as'.size=bs'.size:=by omega
     refine⟨hs',?_⟩;rw[qpj hs]at h;rw[qpj hs'];intro i x y hx hy
     have lx:i<as.size:=by rw[s1];exact(Array.getElem?_eq_some_iff.1 hx).1
     have ly:i<bs.size:=by rw[s2];exact(Array.getElem?_eq_some_iff.1 hy).1
     exact qfF f1 f2 n (e1 i _ _ (Array.getElem?_eq_getElem lx) hx) (e2 i _ _ (Array.getElem?_eq_getElem ly) hy) (h i _ _ (Array.getElem?_eq_getElem lx) (Array.getElem?_eq_getElem ly))
   | _=>intro h;cases n<;>first|exact h|(cases h;done)
  | _=>cases hy<;>(intro h;cases n<;>first|exact h|(cases h;done))
theorem qjy{y y':Value}(hx:VR K x x')(hy:VR K y y'):SR P VT K (Instr.keyThatStays x y) (Instr.keyThatStays x' y'):=by
 refine SR.uniq (fun f1 f2 _=>?_);unfold Instr.keyThatStays;by_cases h:Instr.sameBits 10000 x y=true
 ·rw[if_pos h,if_pos (qfF f1 f2 10000 hx hy h)];exact SR.pure hy
 ·rw[if_neg h];by_cases h':Instr.sameBits 10000 x' y'=true
  ·rw[if_pos h'];exact SR.chooseL 0 (SR.pure hy) (SR.pure hy)
  ·rw[if_neg h'];refine(xN _).bind' (fun K1 h1 n n' e=>?_);subst e;split
   ·exact SR.pure (hy.mono h1)
   ·exact SR.pure (hx.mono h1)
theorem qni{key elem:TypeId}(ht:P.underlying t=some (.map key elem))(hk:jT P key=true)(hw:K.Fs P.funcs.size){m m' i i' v v':Value}(hm:VR K m m')(hi:VR K i i')(hv:VR K v v'):SR P UT K (Instr.mapUpdate t m i v) (Instr.mapUpdate t m' i' v'):=by
 unfold Instr.mapUpdate;refine(qq t).bind' (fun K1 h1 u u' hu=>?_);obtain⟨rfl,hu⟩:=hu;rw[ht]at hu;cases hu;have hm1:=hm.mono h1;cases hm1<;>first|exact SR.stuck|skip
 ·exact qry _
 ·rename_i a b hab;refine SR.getObj hab (fun o o' ho hit=>?_)
  cases ho with
  | map c C n he =>
   have hni:¬K1.It b:=fun x=>by have:=hit.2 x;cases this
   refine(qhL hk _ 9999 (hi.mono h1)).bind' (fun K3 h3 _ _ _=>?_);refine(qju hk ((hi.mono h1).mono h3) (xs:=c.toList) (ys:=C.toList) ⟨by simpa using he.size,fun j x y x1 x2=>let ⟨p,q,_⟩:=he.el j x y (by simpa using x1) (by simpa using x2);⟨p.mono h3,q.mono h3⟩⟩).bind' (fun K4 h4 o o' ho=>?_);have le:K1.le K4:=h3.trans h4;have he4:=he.mono le;have hi4:=(hi.mono h1).mono le;have hv4:=(hv.mono h1).mono le
   have hw4:K4.Fs P.funcs.size:=by rw[le.fs,h1.fs];exact hw
   have qyt:∀K5:Kr,K1.le K5->¬K5.It b:=fun K5 l x=>hni (l.nit _ _ hab x)
   cases ho with
   | none =>
    have qy5:EV K4 (c.push {key:=i,val:=v,born:=n}) (C.push {key:=i',val:=v',born:=n}):=by
     refine⟨by simp[he4.size],fun k x y hx hy=>?_⟩;rw[Array.getElem?_push]at hx hy;by_cases e:k=c.size
     ·rw[if_pos e]at hx;rw[if_pos (e.trans he4.size)]at hy;cases hx;cases hy;exact⟨hi4,hv4,rfl⟩
     ·rw[if_neg e]at hx;rw[if_neg (fun e'=>e (e'.trans he4.size.symm))]at hy;exact he4.el k x y hx hy
    exact SR.setMap (le.b _ _ hab) hw4 (qyt K4 le) qy5 (SR.pure trivial)
   | some j x y e =>
    refine(qjy (K:=K4) (x:=((c[j]?).map (·.key)).getD i) (x':=((C[j]?).map (·.key)).getD i') ?_ hi4).bind' (fun K5 h5 q q' hq=>?_)
    ·cases hc1:c[j]? with
     | none =>
      have hC1:C[j]?=none:=by rw[Array.getElem?_eq_none_iff]at hc1⊢;rw[<-he4.size];exact hc1
      rw[hC1];exact hi4
     | some p =>
      have hlt:j<C.size:=by rw[<-he4.size];exact(Array.getElem?_eq_some_iff.1 hc1).1
      rw[Array.getElem?_eq_getElem hlt];exact(he4.el j p _ hc1 (Array.getElem?_eq_getElem hlt)).1
    ·have qAJ:EV K5 (c.modify j fun e=>{e with key:=q,val:=v}) (C.modify j fun e=>{e with key:=q',val:=v'}):=by
      refine⟨by simp[he4.size],fun k x y hx hy=>?_⟩;rw[Array.getElem?_modify]at hx hy;by_cases e:j=k
      ·rw[if_pos e]at hx hy
       cases hc1:c[k]? with
       | none=>rw[hc1]at hx;cases hx
       | some p =>
        cases hC1:C[k]? with
        | none=>rw[hC1]at hy;cases hy
        | some p' =>
         rw[hc1]at hx;rw[hC1]at hy;cases hx;cases hy;exact⟨hq,hv4.mono h5,(he4.el k p p' hc1 hC1).2.2⟩
      ·rw[if_neg e]at hx hy;exact(he4.mono h5).el k x y hx hy
     exact SR.setMap ((le.trans h5).b _ _ hab) (by rw[h5.fs];exact hw4) (qyt K5 (le.trans h5)) qAJ (SR.pure trivial)
  | _=>exact SR.lost rfl
