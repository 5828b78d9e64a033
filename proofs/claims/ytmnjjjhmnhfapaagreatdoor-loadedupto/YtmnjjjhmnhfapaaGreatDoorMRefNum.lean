import Derived.Laws.RangeAny
import Derived.Test.YtmnjjjhmnhfapaaGreatDoorMSorts
namespace Go.Proofs.YtmnjjjhmnhfapaaGreatDoor
namespace Tm
variable {k:Int->Int}
def vX(k:Int->Int)(x:Int):List Int->List Int
 | []=>[x]
 | y::t=>if k y≠0/\k y<k x then y::vX k x t else x::y::t
def ord(k:Int->Int):List Int->List Int
 | []=>[]
 | x::r=>vX k x (ord k r)
theorem qoH(k:Int->Int)(x:Int)(l:List Int):(vX k x l).length=l.length+1:=by
 induction l with
 | nil=>rfl
 | cons y t ih=>unfold vX;split<;>simp[ih]
theorem qcS(k:Int->Int)(l:List Int):(ord k l).length=l.length:=by
 induction l with
 | nil=>rfl
 | cons x r ih=>rw[ord,qoH,ih];rfl
def Calm(k:Int->Int):List Int->Prop
 | []=>True
 | [_]=>True
 | a::b::r=>¬(k b≠0/\k b<k a)/\Calm k (b::r)
theorem qtf{z:Int}(hz:k z=0)(x:Int)(s t:List Int):vX k x (s++z::t)=vX k x s++z::t:=by
 induction s with
 | nil=>simp[vX,hz]
 | cons y r ih =>
  simp only[List.cons_append];rw[vX,vX];split
  ·rw[ih];rfl
  ·rfl
theorem qtK(hk:∀x,0<=k x){z:Int}(hz:k z=0)(s t:List Int):ord k (s++z::t)=ord k s++z::ord k t:=by
 induction s with
 | nil =>
  simp only[List.nil_append,ord]
  cases h:ord k t with
  | nil=>rfl
  | cons y r =>
   rw[vX,if_neg (by have:=hk y;omega)]
 | cons x r ih=>rw[List.cons_append,ord,ih,qtf hz];rfl
theorem qjn{k:Int->Int}{x:Int}:∀{l:List Int},Up k l->(∀y∈l,k y≠0)->∃q1 q2,l=q1++q2/\vX k x l=q1++x::q2/\(∀y∈q1,k y<k x)/\(∀y∈q2,k x<=k y)
 | [],_,_=>⟨[],[],rfl,rfl,by simp,by simp⟩
 | y::t,hu,hm=>by
  have hu':=List.pairwise_cons.1 hu;by_cases h:k y≠0/\k y<k x
  ·obtain⟨q1,q2,h1,h2,h3,h4⟩:=qjn (x:=x) hu'.2 (fun z hz=>hm z (by simp[hz]));refine⟨y::q1,q2,by rw[h1];rfl,by rw[vX,if_pos h,h2];rfl,?_,h4⟩;intro z hz;rcases List.mem_cons.1 hz with rfl|hz
   ·exact h.2
   ·exact h3 z hz
  ·refine⟨[],y::t,rfl,by rw[vX,if_neg h];rfl,by simp,?_⟩;have hy:=hm y (by simp);intro z hz;rcases List.mem_cons.1 hz with rfl|hz
   ·omega
   ·have:=hu'.1 z hz;omega
theorem qgP{k:Int->Int}:∀{l:List Int},(∀y∈l,k y≠0)->Qu k l (ord k l)
 | [],_=>⟨List.Pairwise.nil,Q9.refl _ _⟩
 | x::r,hm=>by
  have ih:=qgP (l:=r) (fun y hy=>hm y (by simp[hy]));have hm':∀y∈ord k r,k y≠0:=fun y hy=>hm y (by simp[ih.2.mem.2 hy]);obtain⟨q1,q2,h1,h2,h3,h4⟩:=qjn (x:=x) ih.1 hm';rw[ord,h2];have hu:=ih.1;rw[h1]at hu;have hu':=Up.append.1 hu;constructor
  ·refine Up.append.2 ⟨hu'.1,List.pairwise_cons.2 ⟨h4,hu'.2.1⟩,fun a ha b hb=>?_⟩;rcases List.mem_cons.1 hb with rfl|hb
   ·exact Int.le_of_lt (h3 a ha)
   ·exact hu'.2.2 a ha b hb
  ·have e1:Q9 k ([x]++r) ([x]++(q1++q2)):=Q9.append (Q9.refl _ _) (by rw[<-h1];exact ih.2)
   have e2:Q9 k ([x]++q1) (q1++[x]):=Q9.comm fun a ha b hb=>by
    simp at ha;subst ha;have:=h3 b hb;omega
   have e3:=Q9.append e2 (Q9.refl k q2);refine e1.trans ?_;simpa[List.append_assoc]using e3
theorem Qu.qw9{l s:List Int}(hm:∀y∈l,k y≠0)(h:Qu k l s):s=ord k l :=
 Up.unique h.1 (qgP hm).1 (h.2.symm.trans (qgP hm).2)
def expand(lns:List Ln):Nat->Int->List Int
 | 0,r=>[r]
 | n+1,r=>if(parts lns r).length=0 then[r]else(parts lns r).flatMap (expand lns n)
theorem qek{lns:List Ln}{n:Nat}{r:Int}(h:(parts lns r).length=0):expand lns n r=[r]:=by
 cases n with
 | zero=>rfl
 | succ n=>rw[expand,if_pos h]
theorem qey{lns:List Ln}(hf:∀o∈lns,Fit o)(r:Int):0<=qd lns r:=by
 unfold qd;split
 ·rename_i o ho;have hm:=List.mem_of_find?_eq_some ho;have hp:=List.find?_some ho;simp only[isClass,Bool.and_eq_true,decide_eq_true_eq]at hp;rcases(hf o hm).kinds with⟨_,_,h,_⟩|⟨h,_⟩|⟨h,_⟩
  ·omega
  ·rw[hp.1]at h;simp at h
  ·rw[hp.1]at h;simp at h
 ·exact Int.le_refl _
end Tm
namespace Tm
theorem qfQ{lns:List Ln}(hp:∀r,(parts lns r).length<=2):∀(n:Nat) (r:Int),(expand lns n r).length<=2 ^ n
 | 0,r=>by simp[expand]
 | n+1,r=>by
  rw[expand];split
  ·have:=Nat.one_le_two_pow (n:=n+1);simpa using this
  ·have h:∀l:List Int,(l.flatMap (expand lns n)).length<=l.length * 2 ^ n:=by
    intro l
    induction l with
    | nil=>simp
    | cons a q ih =>
     rw[List.flatMap_cons,List.length_append,List.length_cons,Nat.add_mul];have:=qfQ hp n a;omega
   have h1:=h (parts lns r);have h2:=Nat.mul_le_mul_right (2 ^ n) (hp r);rw[Nat.pow_succ];omega
theorem qhn{lns:List Ln}{n:Nat}{r:Int}(h:¬(parts lns r).length=0):expand lns (n+1) r=(parts lns r).flatMap (expand lns n):=by rw[expand,if_neg h]
theorem qsh{l:List Int}{f:Int->List Int}{k:Nat}(h:k<l.length):(l.take (k+1)).flatMap f=(l.take k).flatMap f++f l[k]:=by
 rw[List.take_succ_eq_append_getElem h,List.flatMap_append];simp
theorem qfh{lns:List Ln}(hp:∀r,(parts lns r).length<=2)(n:Nat)(l:List Int):(l.flatMap (expand lns n)).length<=l.length * 2 ^ n:=by
 induction l with
 | nil=>simp
 | cons a q ih =>
  rw[List.flatMap_cons,List.length_append,List.length_cons,Nat.add_mul];have:=qfQ hp n a;omega
end Tm
namespace Tm
variable {lns:List Ln}{l:List Int}{k:Int->Int}
def isS(lns:List Ln)(q:List Int):Bool:=!(yD lns q).isNone
def lead(lns:List Ln)(l:List Int):Nat:=if 3<=l.length/\isS lns (l.take 3)=true then 3 else if 2<=l.length/\isS lns (l.take 2)=true then 2 else 1
def grow(lns:List Ln):List Int->List Int->List Int->List Int×List Int
 | seq,pas,[]=>(seq,pas)
 | seq,pas,c::r=>if qd lns c=0 then(seq,pas++c::r)else if isS lns (seq++[c])=true/\(∀y∈pas,qd lns y<qd lns c)then grow lns (seq++[c]) pas r else grow lns seq (pas++[c]) r
def implicit(r:Int):List El:=[⟨64320+r / 32768,32,2,false⟩,⟨32768+r % 32768,0,0,false⟩]
def yX(lns:List Ln)(s:List Int):List El:=match yD lns s with
 | some e=>e
 | none=>implicit (s.getD 0 0)
def elems(lns:List Ln):Nat->List Int->List El
 | 0,_=>[]
 | n+1,l=>if l=[]then[]else yX lns (grow lns (l.take (lead lns l)) [] (l.drop (lead lns l))).1++elems lns n (grow lns (l.take (lead lns l)) [] (l.drop (lead lns l))).2
def elements(lns:List Ln)(l:List Int):List El:=elems lns l.length l
theorem qh9(lns:List Ln)(l:List Int):1<=lead lns l:=by
 unfold lead;split
 ·omega
 ·split<;>omega
theorem qjP(h:l≠[]):lead lns l<=l.length:=by
 have h1:1<=l.length:=List.length_pos_iff.2 h;unfold lead;split
 ·rename_i h;exact h.1
 ·split
  ·rename_i h;exact h.1
  ·exact h1
theorem qp7(lns:List Ln)(l:List Int):lead lns l<=3:=by
 unfold lead;split
 ·omega
 ·split<;>omega
theorem qaF(lns:List Ln):∀(r s p:List Int),(grow lns s p r).1.length+(grow lns s p r).2.length=s.length+p.length+r.length
 | [],s,p=>by simp[grow]
 | c::r,s,p=>by
  unfold grow;split
  ·simp;omega
  ·split
   ·have:=qaF lns r (s++[c]) p;simp at this;simp;omega
   ·have:=qaF lns r s (p++[c]);simp at this;simp;omega
theorem qcq(lns:List Ln):∀(r s p:List Int),s.length<=(grow lns s p r).1.length
 | [],s,p=>by simp[grow]
 | c::r,s,p=>by
  unfold grow;split
  ·simp
  ·split
   ·have:=qcq lns r (s++[c]) p;simp at this;omega
   ·exact qcq lns r s (p++[c])
theorem qfe(lns:List Ln):∀(r s p:List Int) (x:Int),(x∈(grow lns s p r).1->x∈s\/x∈r)/\(x∈(grow lns s p r).2->x∈p\/x∈r)
 | [],s,p,x=>⟨fun h=>.inl h,fun h=>.inl h⟩
 | c::r,s,p,x=>by
  unfold grow;split
  ·exact⟨fun h=>.inl h,fun h=>List.mem_append.1 h⟩
  ·split
   ·obtain⟨h1,h2⟩:=qfe lns r (s++[c]) p x;refine⟨fun h=>?_,fun h=>?_⟩
    ·rcases h1 h with h|h
     ·rcases List.mem_append.1 h with h|h
      ·exact .inl h
      ·exact .inr (by rw[List.mem_singleton.1 h];exact List.mem_cons_self)
     ·exact .inr (List.mem_cons_of_mem _ h)
    ·rcases h2 h with h|h
     ·exact .inl h
     ·exact .inr (List.mem_cons_of_mem _ h)
   ·obtain⟨h1,h2⟩:=qfe lns r s (p++[c]) x;refine⟨fun h=>?_,fun h=>?_⟩
    ·rcases h1 h with h|h
     ·exact .inl h
     ·exact .inr (List.mem_cons_of_mem _ h)
    ·rcases h2 h with h|h
     ·rcases List.mem_append.1 h with h|h
      ·exact .inl h
      ·exact .inr (by rw[List.mem_singleton.1 h];exact List.mem_cons_self)
     ·exact .inr (List.mem_cons_of_mem _ h)
theorem qjo(lns:List Ln):∀(n m:Nat) (l:List Int),l.length<=n->l.length<=m->elems lns n l=elems lns m l
 | 0,m,l,h,_=>by
  have:l=[]:=List.eq_nil_of_length_eq_zero (by omega);subst this;cases m<;>simp[elems]
 | n+1,0,l,_,h=>by
  have:l=[]:=List.eq_nil_of_length_eq_zero (by omega);subst this;simp[elems]
 | n+1,m+1,l,h,h'=>by
  unfold elems;by_cases e:l=[]
  ·simp[e]
  ·rw[if_neg e,if_neg e];have h1:=qaF lns (l.drop (lead lns l)) (l.take (lead lns l)) [];have h2:=qcq lns (l.drop (lead lns l)) (l.take (lead lns l)) [];have h3:=qh9 lns l;have h4:=qjP (lns:=lns) e;simp at h1 h2;rw[qjo lns n m _ (by omega) (by omega)]
theorem qfK(h:l≠[]):elements lns l=yX lns (grow lns (l.take (lead lns l)) [] (l.drop (lead lns l))).1++elements lns (grow lns (l.take (lead lns l)) [] (l.drop (lead lns l))).2:=by
 have h1:=qaF lns (l.drop (lead lns l)) (l.take (lead lns l)) [];have h2:=qcq lns (l.drop (lead lns l)) (l.take (lead lns l)) [];have h3:=qh9 lns l;have h4:=qjP (lns:=lns) h;simp at h1 h2;unfold elements;obtain⟨n,hn⟩:∃n,l.length=n+1:=⟨l.length-1,by omega⟩
 rw[hn]
 conv=>lhs;unfold elems
 rw[if_neg h,qjo lns n _ _ (by omega) (Nat.le_refl _)]
theorem qdo(lns:List Ln):elements lns []=[]:=rfl
theorem qvm(hf:∀o∈lns,Fit o){q:List Int}(h:3<q.length):isS lns q=false:=by
 unfold isS yD
 cases hq:lns.find? (vF q)with
 | none=>rfl
 | some o =>
  have h1:=(hf o (List.mem_of_find?_eq_some hq)).few;have h2:=List.find?_some hq
  have h3:o.qh=q:=by simp[vF]at h2;exact h2.2
  rw[h3]at h1;omega
theorem qkr{lns:List Ln}(hf:∀o∈lns,Fit o):∀(r s p:List Int),3<=s.length->grow lns s p r=(s,p++r)
 | [],s,p,_=>by simp[grow]
 | c::r,s,p,h=>by
  unfold grow;split
  ·rfl
  ·rw[if_neg (by rw[qvm hf (by simp;omega)];simp),qkr hf r s (p++[c]) h];simp
def top(k:Int->Int)(p:List Int):Int:=match p.getLast? with
 | some x=>k x
 | none=>0
theorem ql8(k:Int->Int)(p:List Int)(c:Int):top k (p++[c])=k c:=by simp[top]
theorem qgQ{x:Int}(h:Calm k (x::l)):Calm k l:=by
 cases l with
 | nil=>trivial
 | cons y r=>exact h.2
theorem qhI{k:Int->Int}:∀{a b:List Int},Calm k (a++b)->Calm k a/\Calm k b
 | [],b,h=>⟨trivial,h⟩
 | [x],b,h=>⟨trivial,qgQ h⟩
 | x::y::a,b,h=>by
  have:=qhI (a:=y::a) (b:=b) h.2;exact⟨⟨h.1,this.1⟩,this.2⟩
theorem qkt(h:Calm k l)(n:Nat):Calm k (l.drop n):=by
 rw[<-List.take_append_drop n l]at h;exact(qhI h).2
theorem qpg{k:Int->Int}{c:Int}{r:List Int}(hc:k c≠0):∀{p:List Int},Calm k (p++c::r)->(∀y∈p,k y≠0)->∀y∈p,k y<=k c
 | [],_,_,y,hy=>by cases hy
 | [x],h,_,y,hy=>by
  simp at hy;subst hy;have:=h.1;omega
 | x::z::p,h,hm,y,hy=>by
  have ih:=qpg hc (p:=z::p) h.2 (fun y hy=>hm y (List.mem_cons_of_mem _ hy));rcases List.mem_cons.1 hy with rfl|hy
  ·have h1:=ih z (by simp);have h2:=h.1;have h3:=hm z (by simp);omega
  ·exact ih y hy
theorem qtX(hk:∀x,0<=k x){c:Int}{p r:List Int}(hc:k c≠0)(h:Calm k (p++c::r))(hm:∀y∈p,k y≠0):(∀y∈p,k y<k c)↔top k p<k c:=by
 rcases List.eq_nil_or_concat p with rfl|⟨q,x,rfl⟩
 ·simp[top];have:=hk c;omega
 ·rw[List.concat_eq_append]at h hm⊢;rw[ql8];constructor
  ·intro h';exact h' x (by simp)
  ·intro hx y hy;rcases List.mem_append.1 hy with hy|hy
   ·have hq:Calm k (q++x::c::r):=by simpa using h
    have:=qpg (hm x (by simp)) hq (fun y hy=>hm y (by simp[hy])) y hy;omega
   ·simp at hy;subst hy;exact hx
theorem qh7{k:Int->Int}{c:Int}{r:List Int}(hc:k c≠0):∀{p:List Int},Calm k (p++c::r)->Calm k (p++r)
 | [],h=>qgQ h
 | [x],h=>by
  cases r with
  | nil=>trivial
  | cons y r =>
   refine⟨?_,h.2.2⟩;have h1:=h.1;have h2:=h.2.1;omega
 | x::z::p,h=>⟨h.1,qh7 hc (p:=z::p) h.2⟩
theorem qgh{lns:List Ln}:∀(r s p:List Int),Calm (qd lns) (p++r)->Calm (qd lns) (grow lns s p r).2
 | [],s,p,h=>by simpa[grow]using h
 | c::r,s,p,h=>by
  unfold grow;split
  ·exact h
  ·rename_i hc;split
   ·exact qgh r _ _ (qh7 hc h)
   ·exact qgh r _ _ (by simpa using h)
theorem qob(l:List Int):Calm k (ord k l):=by
 induction l with
 | nil=>trivial
 | cons x r ih =>
  rw[ord];generalize ord k r=m at *;clear r
  induction m with
  | nil=>trivial
  | cons y t ih2 =>
   unfold vX;split
   ·rename_i h;have h1:=ih2 (qgQ ih)
    cases t with
    | nil=>exact⟨by omega,trivial⟩
    | cons z u =>
     have h2:=ih.1;unfold vX at h1⊢;split
     ·rename_i h3;rw[if_pos h3]at h1;exact⟨h2,h1⟩
     ·rename_i h3;rw[if_neg h3]at h1;exact⟨by omega,h1⟩
   ·rename_i h;exact⟨h,ih⟩
end Tm
namespace Tm
def nz(x:Int):List Int:=if x=0 then[]else[x]
def jY(e:El):Nat->List Int
 | 0=>nz e.p
 | 1=>nz e.s
 | 2=>nz e.t
 | _=>[]
def behind(bv:Bool)(e:El):Bool:=if e.p=0 then bv else e.v
def empty(e:El):Bool:=e.p == 0&&e.s == 0&&e.t == 0
def ym(b:Bool)(e:El):Nat->List Int
 | 0=>if b then[]else nz e.p
 | 1=>if b then[]else nz e.s
 | 2=>if b then[]else nz e.t
 | _=>if b then nz e.p else if empty e then[]else[65535]
def lev(sh:Bool)(k:Nat):Bool->List El->List Int
 | _,[]=>[]
 | bv,e::r=>(if sh then ym (behind bv e) e k else jY e k)++lev sh k (behind bv e) r
def level(sh:Bool)(els:List El)(k:Nat):List Int:=lev sh k false els
def qcV:Bool->List El->Bool
 | bv,[]=>bv
 | bv,e::r=>qcV (behind bv e) r
theorem qiS(e:El):∀(l:List El) (bv:Bool),qcV bv (l++[e])=behind (qcV bv l) e
 | [],_=>rfl
 | _::r,_=>qiS e r _
theorem qnx(sh:Bool)(k:Nat)(e:El):∀(l:List El) (bv:Bool),lev sh k bv (l++[e])=lev sh k bv l++(if sh then ym (behind (qcV bv l) e) e k else jY e k)
 | [],bv=>by simp[lev,qcV]
 | x::r,bv=>by simp only[List.cons_append,lev,qcV];rw[qnx sh k e r];simp
theorem qiR(sh:Bool)(k:Nat)(e:El)(l:List El):level sh (l++[e]) k=level sh l k++(if sh then ym (behind (qcV false l) e) e k else jY e k):=qnx sh k e l false
theorem qkQ(x:Int):(nz x).length<=1:=by unfold nz;split<;>simp
theorem qfL(e:El)(k:Nat):(jY e k).length<=1:=by
 unfold jY;split<;>first|exact qkQ _|simp
theorem qlt(b:Bool)(e:El)(k:Nat):(ym b e k).length<=1:=by
 unfold ym;split<;>split<;>first|exact qkQ _|exact Nat.zero_le _|(split<;>simp)
theorem qcR(sh:Bool)(k:Nat):∀(l:List El) (bv:Bool),(lev sh k bv l).length<=l.length
 | [],_=>by simp[lev]
 | e::r,bv=>by
  have:=qcR sh k r (behind bv e);have h1:=qlt (behind bv e) e k;have h2:=qfL e k;simp only[lev,List.length_append,List.length_cons];split<;>omega
def cmpL:List Int->List Int->Int
 | [],[]=>0
 | [],_::_=>-1
 | _::_,[]=>1
 | a::r,b::t=>if a<b then -1 else if b<a then 1 else cmpL r t
def zu:List (List Int)->List (List Int)->Int
 | [],[]=>0
 | [],_::_=>-1
 | _::_,[]=>1
 | a::r,b::t=>if cmpL a b=0 then zu r t else cmpL a b
theorem qe2:∀(a b:List Int),cmpL a b=-1\/cmpL a b=0\/cmpL a b=1
 | [],[]=>by simp[cmpL]
 | [],_::_=>by simp[cmpL]
 | _::_,[]=>by simp[cmpL]
 | a::r,b::t=>by
  unfold cmpL;split
  ·simp
  ·split
   ·simp
   ·exact qe2 r t
theorem qkR:∀(a:List Int),cmpL a a=0
 | []=>rfl
 | a::r=>by simp[cmpL,qkR r]
theorem qa9:∀{a b:List Int},cmpL a b=0->a=b
 | [],[],_=>rfl
 | [],_::_,h=>by simp[cmpL]at h
 | _::_,[],h=>by simp[cmpL]at h
 | a::r,b::t,h=>by
  unfold cmpL at h;split at h
  ·simp at h
  ·split at h
   ·simp at h
   ·rw[qa9 h,show a=b by omega]
theorem qis:∀(a b:List Int),cmpL b a= -cmpL a b
 | [],[]=>rfl
 | [],_::_=>rfl
 | _::_,[]=>rfl
 | a::r,b::t=>by
  have ih:=qis r t;simp only[cmpL];by_cases h1:a<b
  ·rw[if_neg (by omega),if_pos h1,if_pos h1];rfl
  ·by_cases h2:b<a
   ·rw[if_pos h2,if_neg h1,if_pos h2]
   ·rw[if_neg h2,if_neg h1,if_neg h1,if_neg h2,ih]
theorem qjp:∀{a b c:List Int},cmpL a b<=0->cmpL b c<=0->cmpL a c<=0
 | [],_,[],_,_=>by simp[cmpL]
 | [],_,_::_,_,_=>by simp[cmpL]
 | _::_,[],_,h,_=>by simp[cmpL]at h
 | _::_,_::_,[],_,h=>by simp[cmpL]at h
 | a::r,b::t,c::u,h,k=>by
  unfold cmpL at h k⊢;by_cases h1:a<b
  ·by_cases k1:b<c
   ·rw[if_pos (by omega)];decide
   ·rw[if_neg k1]at k;by_cases k2:c<b
    ·rw[if_pos k2]at k;simp at k
    ·rw[if_pos (by omega)];decide
  ·rw[if_neg h1]at h;by_cases h2:b<a
   ·rw[if_pos h2]at h;simp at h
   ·rw[if_neg h2]at h;by_cases k1:b<c
    ·rw[if_pos (by omega)];decide
    ·rw[if_neg k1]at k;by_cases k2:c<b
     ·rw[if_pos k2]at k;simp at k
     ·rw[if_neg k2]at k;rw[if_neg (by omega),if_neg (by omega)];exact qjp h k
theorem qeo:∀(a b:List (List Int)),zu a b=-1\/zu a b=0\/zu a b=1
 | [],[]=>by simp[zu]
 | [],_::_=>by simp[zu]
 | _::_,[]=>by simp[zu]
 | a::r,b::t=>by
  unfold zu;split
  ·exact qeo r t
  ·exact qe2 a b
theorem qfo:∀{a b:List (List Int)},zu a b=0->a=b
 | [],[],_=>rfl
 | [],_::_,h=>by simp[zu]at h
 | _::_,[],h=>by simp[zu]at h
 | a::r,b::t,h=>by
  unfold zu at h;split at h
  ·rename_i h1;rw[qa9 h1,qfo h]
  ·rename_i h1;exact absurd h h1
theorem qcY:∀(a:List (List Int)),zu a a=0
 | []=>rfl
 | a::r=>by rw[zu,if_pos (qkR a)];exact qcY r
theorem qgv:∀(a b:List (List Int)),zu b a= -zu a b
 | [],[]=>rfl
 | [],_::_=>rfl
 | _::_,[]=>rfl
 | a::r,b::t=>by
  have ih:=qgv r t;have h:=qis a b;simp only[zu];by_cases h1:cmpL a b=0
  ·rw[if_pos (by omega),if_pos h1,ih]
  ·rw[if_neg (by omega),if_neg h1,h]
theorem qhu:∀{a b c:List (List Int)},zu a b<=0->zu b c<=0->zu a c<=0
 | [],_,[],_,_=>by simp[zu]
 | [],_,_::_,_,_=>by simp[zu]
 | _::_,[],_,h,_=>by simp[zu]at h
 | _::_,_::_,[],_,h=>by simp[zu]at h
 | a::r,b::t,c::u,h,k=>by
  unfold zu at h k⊢;by_cases h1:cmpL a b=0
  ·have e:=qa9 h1;subst e;rw[if_pos h1]at h;by_cases k1:cmpL a c=0
   ·rw[if_pos k1]at k⊢;exact qhu h k
   ·rw[if_neg k1]at k⊢;exact k
  ·rw[if_neg h1]at h;by_cases k1:cmpL b c=0
   ·have e:=qa9 k1;subst e;rw[if_neg h1];exact h
   ·rw[if_neg k1]at k;have h2:=qjp h k
    have h3:cmpL a c≠0:=fun e=>by
     have e:=qa9 e;subst e;have:=qis a b;omega
    rw[if_neg h3];exact h2
def yF(x:Int):List UInt8:=[UInt8.ofNat (x.toNat / 65536),UInt8.ofNat (x.toNat / 256),UInt8.ofNat x.toNat]
def xZ(l:List Int):List UInt8:=l.flatMap yF++yF 0
def yy(l:List (List Int)):List UInt8:=l.flatMap xZ
def jS:List UInt8->List UInt8->Bool
 | [],[]=>false
 | [],_::_=>true
 | _::_,[]=>false
 | a::r,b::t=>if a<b then true else if b<a then false else jS r t
def qcI(a b:List UInt8):Int:=if jS a b then -1 else if jS b a then 1 else 0
theorem xe(p a b:List UInt8):jS (p++a) (p++b)=jS a b:=by
 induction p with
 | nil=>rfl
 | cons x r ih=>simp only[List.cons_append,jS];rw[if_neg (by exact UInt8.lt_irrefl x),if_neg (by exact UInt8.lt_irrefl x),ih]
theorem qrs(a:List UInt8):jS a a=false:=by
 have:=xe a [] [];simpa[jS]using this
theorem qd3{x y:Int}(hx:0<=x/\x<16777216)(hy:0<=y/\y<16777216)(h:x<y)(a b:List UInt8):jS (yF x++a) (yF y++b)=true/\jS (yF y++b) (yF x++a)=false:=by
 obtain⟨n,rfl⟩:∃n:Nat,x=n:=⟨x.toNat,by omega⟩
 obtain⟨m,rfl⟩:∃m:Nat,y=m:=⟨y.toNat,by omega⟩
 have hn:n<16777216:=by omega
 have hm:m<16777216:=by omega
 have hl:n<m:=by omega
 have q1:∀k:Nat,k<256->(UInt8.ofNat k).toNat=k:=fun k hk=>by simp[UInt8.toNat_ofNat'];omega
 have q2:∀k:Nat,(UInt8.ofNat k).toNat=k % 256:=fun k=>by simp[UInt8.toNat_ofNat']
 simp only[yF,List.cons_append,List.nil_append,jS,Int.toNat_natCast,UInt8.lt_iff_toNat_lt,q2];have e1:n / 65536 % 256=n / 65536:=Nat.mod_eq_of_lt (by omega);have e2:m / 65536 % 256=m / 65536:=Nat.mod_eq_of_lt (by omega);rw[e1,e2];by_cases h1:n / 65536<m / 65536
 ·simp[h1,Nat.not_lt.2 (Nat.le_of_lt h1)]
 ·have h1':n / 65536=m / 65536:=by omega
  rw[h1'];simp only[Nat.lt_irrefl,if_false];by_cases h2:n / 256 % 256<m / 256 % 256
  ·simp[h2,Nat.not_lt.2 (Nat.le_of_lt h2)]
  ·have h2':n / 256 % 256=m / 256 % 256:=by omega
   rw[h2'];simp only[Nat.lt_irrefl,if_false]
   have h3:n % 256<m % 256:=by omega
   simp[h3,Nat.not_lt.2 (Nat.le_of_lt h3)]
def Small(l:List Int):Prop:=∀x∈l,0<=x/\x<16777216
def Xl(l:List Int):Prop:=∀x∈l,0<x/\x<16777216
theorem Xl.small{l:List Int}(h:Xl l):Small l:=fun x hx=>by have:=h x hx;omega
theorem qkS:∀{l m:List Int},Xl l->Xl m->cmpL l m=-1->∀a b,jS (xZ l++a) (xZ m++b)=true/\jS (xZ m++b) (xZ l++a)=false
 | [],[],_,_,h,_,_=>by simp[cmpL]at h
 | [],y::m,_,hm,_,a,b=>by
  simp only[xZ,List.flatMap_nil,List.nil_append,List.flatMap_cons,List.append_assoc];exact qd3 ⟨by omega,by omega⟩ ⟨by have:=hm y (by simp);omega,(hm y (by simp)).2⟩ (hm y (by simp)).1 _ _
 | _::_,[],_,_,h,_,_=>by simp[cmpL]at h
 | x::l,y::m,hl,hm,h,a,b=>by
  have hx:=hl x (by simp);have hy:=hm y (by simp);simp only[xZ,List.flatMap_cons,List.append_assoc];unfold cmpL at h;by_cases h1:x<y
  ·exact qd3 ⟨by omega,hx.2⟩ ⟨by omega,hy.2⟩ h1 _ _
  ·rw[if_neg h1]at h;by_cases h2:y<x
   ·rw[if_pos h2]at h;simp at h
   ·rw[if_neg h2]at h;rw[show x=y by omega,xe,xe];have:=qkS (fun z hz=>hl z (by simp[hz])) (fun z hz=>hm z (by simp[hz])) h a b;simpa[xZ]using this
theorem qkT:∀{l m:List Int},Small l->Small m->cmpL l m=-1->jS (xZ l) (xZ m)=true/\jS (xZ m) (xZ l)=false
 | [],[],_,_,h=>by simp[cmpL]at h
 | [],y::m,_,hm,_=>by
  have hy:=hm y (by simp);by_cases h0:y=0
  ·subst h0;simp only[xZ,List.flatMap_nil,List.nil_append,List.flatMap_cons,List.append_assoc]
   have e:yF 0=yF 0++[]:=by simp
   constructor
   ·conv=>lhs;lhs;rw[e]
    rw[xe]
    cases hq:m.flatMap yF++yF 0 with
    | nil=>simp[yF]at hq
    | cons z r=>rfl
   ·conv=>lhs;rhs;rw[e]
    rw[xe]
    cases hq:m.flatMap yF++yF 0 with
    | nil=>simp[yF]at hq
    | cons z r=>rfl
  ·simp only[xZ,List.flatMap_nil,List.nil_append,List.flatMap_cons,List.append_assoc];have:=qd3 (x:=0) ⟨by omega,by omega⟩ hy (by omega) [] (m.flatMap yF++yF 0);simpa using this
 | _::_,[],_,_,h=>by simp[cmpL]at h
 | x::l,y::m,hl,hm,h=>by
  have hx:=hl x (by simp);have hy:=hm y (by simp);simp only[xZ,List.flatMap_cons,List.append_assoc];unfold cmpL at h;by_cases h1:x<y
  ·exact qd3 hx hy h1 _ _
  ·rw[if_neg h1]at h;by_cases h2:y<x
   ·rw[if_pos h2]at h;simp at h
   ·rw[if_neg h2]at h;rw[show x=y by omega,xe,xe];have:=qkT (fun z hz=>hl z (by simp[hz])) (fun z hz=>hm z (by simp[hz])) h;simpa[xZ]using this
theorem qfz:∀{a b:List (List Int)} {x y:List Int},a.length=b.length->(∀l∈a,Xl l)->(∀l∈b,Xl l)->Small x->Small y->zu (a++[x]) (b++[y])=-1->jS (yy (a++[x])) (yy (b++[y]))=true/\jS (yy (b++[y])) (yy (a++[x]))=false
 | [],[],x,y,_,_,_,hx,hy,h=>by
  simp only[List.nil_append,zu]at h;split at h
  ·simp at h
  ·have:=qkT hx hy h;simpa[yy]using this
 | l::a,m::b,x,y,hab,ha,hb,hx,hy,h=>by
  simp only[List.cons_append,zu]at h;simp only[List.cons_append,yy,List.flatMap_cons];split at h
  ·rename_i h0;rw[qa9 h0,xe,xe];exact qfz (by simpa using hab) (fun q hq=>ha q (by simp[hq])) (fun q hq=>hb q (by simp[hq])) hx hy h
  ·exact qkS (ha l (by simp)) (hb m (by simp)) h _ _
 | [],_::_,_,_,h,_,_,_,_,_=>by simp at h
 | _::_,[],_,_,h,_,_,_,_,_=>by simp at h
theorem qtg{a b:List (List Int)}{x y:List Int}(hab:a.length=b.length)(ha:∀l∈a,Xl l)(hb:∀l∈b,Xl l)(hx:Small x)(hy:Small y):qcI (yy (a++[x])) (yy (b++[y]))=zu (a++[x]) (b++[y]):=by
 unfold qcI;rcases qeo (a++[x]) (b++[y])with h|h|h
 ·have:=qfz hab ha hb hx hy h;rw[this.1,h];rfl
 ·have e:=qfo h;rw[e,qrs,qcY];rfl
 ·have h':=qgv (a++[x]) (b++[y]);have:=qfz hab.symm hb ha hy hx (by omega);rw[this.1,this.2,h];rfl
end Tm
variable {s:ByteArray}
theorem qdq(s:ByteArray)(pos:Nat)(h:pos<s.size):1<=(Utf8.decode s pos).2:=by
 by_cases ha:(s[pos]'h).toNat<128
 ·rw[decode_ascii s pos h ha];exact Nat.le_refl _
 ·exact(decode_high s pos h (by omega)).2
theorem qhm(s:ByteArray)(pos:Nat):(Utf8.decode s pos).1<=1114111:=by
 have hb:∀k,(s.get! (pos+k)).toNat<256:=fun k=>(s.get! (pos+k)).toNat_lt;have h0:=hb 0;have h1:=hb 1;have h2:=hb 2;have h3:=hb 3;simp only[Utf8.decode]
 repeat' split
 all_goals simp_all[Utf8.runeError,Utf8.valid]
 all_goals omega
def runesFrom(s:ByteArray):Nat->Nat->List Int
 | 0,_=>[]
 | f+1,pos=>if pos<s.size then((Utf8.decode s pos).1:Int)::runesFrom s f (pos+(Utf8.decode s pos).2)else[]
def jR(s:ByteArray):List Int:=runesFrom s s.size 0
theorem vL{f pos:Nat}(h:s.size<=pos):runesFrom s f pos=[]:=by
 cases f with
 | zero=>rfl
 | succ f=>rw[runesFrom,if_neg (by omega)]
theorem qeQ{s:ByteArray}:∀{f f' pos:Nat},s.size<=pos+f->s.size<=pos+f'->runesFrom s f pos=runesFrom s f' pos
 | 0,f',pos,h,_=>by rw[vL (by omega),vL (by omega)]
 | f+1,0,pos,_,h'=>by rw[vL (by omega),vL (by omega)]
 | f+1,f'+1,pos,h,h'=>by
  rw[runesFrom,runesFrom];split
  ·rename_i hp;have:=qdq s pos hp;rw[qeQ (f:=f) (f':=f') (by omega) (by omega)]
  ·rfl
theorem qjR{pos:Nat}(h:pos<s.size):runesFrom s s.size pos=((Utf8.decode s pos).1:Int)::runesFrom s s.size (pos+(Utf8.decode s pos).2):=by
 have e:runesFrom s s.size pos=runesFrom s (s.size+1) pos:=qeQ (by omega) (by omega);rw[e,runesFrom,if_pos h]
theorem qbp{s:ByteArray}:∀{f pos:Nat},(runesFrom s f pos).length<=s.size-pos
 | 0,pos=>by simp[runesFrom]
 | f+1,pos=>by
  rw[runesFrom];split
  ·rename_i h;have h1:=qdq s pos h;have h2:=qbp (s:=s) (f:=f) (pos:=pos+(Utf8.decode s pos).2);rw[List.length_cons];omega
  ·simp
theorem qbo{s:ByteArray}:∀{f pos:Nat},∀x∈runesFrom s f pos,0<=x/\x<=1114111
 | 0,pos,x,hx=>by simp[runesFrom]at hx
 | f+1,pos,x,hx=>by
  rw[runesFrom]at hx;split at hx
  ·rcases List.mem_cons.1 hx with rfl|hx
   ·have:=qhm s pos;omega
   ·exact qbo x hx
  ·cases hx
def zq(lns:List Tm.Ln)(s:ByteArray):List Int:=Tm.ord (Tm.qd lns) ((jR s).flatMap (Tm.expand lns 4))
namespace Tm
variable {lns:List Ln}{l:List Int}
def QdI(lns:List Ln):Prop:=∀o∈lns,∀e∈o.els,zK e=false
theorem qbG:∀(xs:List (List UInt8)) (lns l:List Ln) (n:Int),QdI lns->qF lns n xs=(l,none)->QdI l
 | [],lns,l,n,h,e=>by simp only[qF,Prod.mk.injEq,and_true]at e;subst e;exact h
 | x::r,lns,l,n,h,e=>by
  unfold qF at e;split at e
  ·exact qbG r lns l (n+1) h e
  ·split at e
   ·simp at e
   ·rename_i ln _;split at e
    ·simp at e
    ·split at e
     ·simp at e
     ·rename_i h2;refine qbG r (lns++[ln]) l (n+1) (fun o ho=>?_) e;rcases List.mem_append.1 ho with ho|ho
      ·exact h o ho
      ·rw[List.mem_singleton.1 ho];intro y hy;cases hl:zK y
       ·rfl
       ·exact absurd (List.any_eq_true.2 ⟨y,hy,hl⟩) h2
theorem qbW{s:List UInt8}{st:Int}(h:zH s st=(lns,0,0)):QdI lns/\1<=st/\st<=4:=by
 unfold zH at h;split at h
 ·simp at h
 ·rename_i hst;split at h
  ·simp at h
  ·split at h
   ·rename_i l n e heq;simp at h;obtain⟨rfl,rfl,rfl⟩:=h;exfalso
    revert heq
    suffices ∀(xs:List (List UInt8)) (lns l:List Ln) (n m q:Int),qF lns n xs=(l,some (m,q))->q≠0 by
     intro heq;exact this _ _ _ _ _ _ heq rfl
    intro xs
    induction xs with
    | nil=>intro lns l n m q e;simp[qF]at e
    | cons x r ih =>
     intro lns l n m q e;unfold qF at e;split at e
     ·exact ih _ _ _ _ _ e
     ·split at e
      ·simp at e;omega
      ·split at e
       ·simp at e;omega
       ·split at e
        ·simp at e;omega
        ·exact ih _ _ _ _ _ e
   ·rename_i l heq;simp at h;obtain⟨rfl,_⟩:=h;exact⟨qbG _ _ _ _ (fun o ho=>by cases ho) heq,by omega,by omega⟩
theorem qth(h:QdI lns)(q:List Int):∀x∈yX lns q,x.v=true->x.p≠0:=by
 intro x hx hv;unfold yX at hx;split at hx
 ·rename_i e he;unfold yD at he
  cases hq:lns.find? (vF q)with
  | none=>rw[hq]at he;cases he
  | some o =>
   rw[hq]at he;injection he with he;subst he;have:=h o (List.mem_of_find?_eq_some hq) x hx;intro h0;simp[zK,hv,h0]at this
 ·simp[implicit]at hx;rcases hx with rfl|rfl<;>cases hv
theorem qkU{lns:List Ln}(h:QdI lns):∀(n:Nat) (l:List Int),∀x∈elems lns n l,x.v=true->x.p≠0
 | 0,_,x,hx=>by simp[elems]at hx
 | n+1,l,x,hx=>by
  unfold elems at hx;split at hx
  ·cases hx
  ·rcases List.mem_append.1 hx with hx|hx
   ·exact qth h _ x hx
   ·exact qkU h n _ x hx
theorem qlR(h:QdI lns)(l:List Int):∀x∈elements lns l,x.v=true->x.p≠0:=qkU h _ l
theorem qrt(hf:∀o∈lns,Fit o)(q:List Int):(yX lns q).length<=4:=by
 unfold yX;split
 ·rename_i e he;unfold yD at he
  cases hq:lns.find? (vF q)with
  | none=>rw[hq]at he;cases he
  | some o =>
   rw[hq]at he;injection he with he;subst he;exact(hf o (List.mem_of_find?_eq_some hq)).els
 ·simp[implicit]
theorem qgR{lns:List Ln}(hf:∀o∈lns,Fit o):∀(n:Nat) (l:List Int),(elems lns n l).length<=4 * n
 | 0,_=>by simp[elems]
 | n+1,l=>by
  unfold elems;split
  ·simp
  ·have h1:=qrt hf (grow lns (l.take (lead lns l)) [] (l.drop (lead lns l))).1;have h2:=qgR hf n (grow lns (l.take (lead lns l)) [] (l.drop (lead lns l))).2;simp only[List.length_append];omega
theorem qdJ(hf:∀o∈lns,Fit o)(l:List Int):(elements lns l).length<=4 * l.length:=qgR hf _ l
def InW(x:El):Prop:=(0<=x.p/\x.p<=65535)/\(0<=x.s/\x.s<=65535)/\(0<=x.t/\x.t<=65535)
theorem qvn(hf:∀o∈lns,Fit o){q:List Int}(hq:0<=q.getD 0 0/\q.getD 0 0<=1114111):∀x∈yX lns q,InW x:=by
 intro x hx;unfold yX at hx;split at hx
 ·rename_i e he;unfold yD at he
  cases hq:lns.find? (vF q)with
  | none=>rw[hq]at he;cases he
  | some o =>
   rw[hq]at he;injection he with he;subst he;exact(hf o (List.mem_of_find?_eq_some hq)).weight x hx
 ·simp only[implicit,List.mem_cons,List.not_mem_nil,or_false]at hx;rcases hx with rfl|rfl
  ·refine⟨⟨?_,?_⟩,⟨?_,?_⟩,⟨?_,?_⟩⟩<;>simp only<;>omega
  ·refine⟨⟨?_,?_⟩,⟨?_,?_⟩,⟨?_,?_⟩⟩<;>simp only<;>omega
theorem qny{lns:List Ln}(hf:∀o∈lns,Fit o):∀(n:Nat) (l:List Int),(∀r∈l,0<=r/\r<=1114111)->∀x∈elems lns n l,InW x
 | 0,_,_,x,hx=>by simp[elems]at hx
 | n+1,l,hl,x,hx=>by
  unfold elems at hx;split at hx
  ·cases hx
  ·have hm:=qfe lns (l.drop (lead lns l)) (l.take (lead lns l)) [];rcases List.mem_append.1 hx with hx|hx
   ·refine qvn hf ?_ x hx
    cases hg:(grow lns (l.take (lead lns l)) [] (l.drop (lead lns l))).1 with
    | nil=>simp
    | cons y t =>
     have hy:=(hm y).1 (by rw[hg];simp);simp only[List.getD_cons_zero];rcases hy with hy|hy
     ·exact hl y (List.mem_of_mem_take hy)
     ·exact hl y (List.mem_of_mem_drop hy)
   ·refine qny hf n _ (fun r hr=>?_) x hx;rcases(hm r).2 hr with h|h
    ·cases h
    ·exact hl r (List.mem_of_mem_drop h)
theorem qoI(hf:∀o∈lns,Fit o)(hl:∀r∈l,0<=r/\r<=1114111):∀x∈elements lns l,InW x:=qny hf _ l hl
theorem qfA{x:Int}(h:0<=x/\x<=65535):Xl (nz x):=by
 intro y hy;unfold nz at hy;split at hy
 ·cases hy
 ·simp at hy;subst hy;omega
theorem qhJ(sh:Bool)(k:Nat):∀(l:List El) (bv:Bool),(∀x∈l,InW x)->Xl (lev sh k bv l)
 | [],_,_=>by intro y hy;cases hy
 | e::r,bv,h=>by
  intro y hy;rw[lev]at hy;rcases List.mem_append.1 hy with hy|hy
  ·have he:=h e (by simp);have w1:=qfA he.1;have w2:=qfA he.2.1;have w3:=qfA he.2.2
   have w4:Xl [65535]:=by intro z hz;simp at hz;subst hz;omega
   have w0:Xl []:=by intro z hz;cases hz
   split at hy
   ·unfold ym at hy;split at hy<;>split at hy
    ·exact w0 y hy
    ·exact w1 y hy
    ·exact w0 y hy
    ·exact w2 y hy
    ·exact w0 y hy
    ·exact w3 y hy
    ·exact w1 y hy
    ·split at hy
     ·exact w0 y hy
     ·exact w4 y hy
   ·unfold jY at hy;split at hy
    ·exact w1 y hy
    ·exact w2 y hy
    ·exact w3 y hy
    ·exact w0 y hy
  ·exact qhJ sh k r _ (fun x hx=>h x (by simp[hx])) y hy
theorem qvo{k:Int->Int}{x y:Int}(h:y∈vX k x l):y=x\/y∈l:=by
 induction l with
 | nil=>simp[vX]at h;exact .inl h
 | cons z r ih =>
  unfold vX at h;split at h
  ·rcases List.mem_cons.1 h with rfl|h
   ·exact .inr (by simp)
   ·rcases ih h with h|h
    ·exact .inl h
    ·exact .inr (by simp[h])
  ·exact List.mem_cons.1 h
theorem qoY{k:Int->Int}{y:Int}:∀{l:List Int},y∈ord k l->y∈l
 | [],h=>h
 | x::r,h=>by
  rw[ord]at h;rcases qvo h with rfl|h
  ·simp
  ·exact List.mem_cons_of_mem _ (qoY h)
end Tm
variable {lns:List Tm.Ln}{st:Int}{sh:Bool}{n m:List Int}
def levels(lns:List Tm.Ln)(st:Int)(sh:Bool)(n:List Int):List (List Int):=([0,1,2,3].map (Tm.level sh (Tm.elements lns n))).take st.toNat
def stands(lns:List Tm.Ln)(st:Int)(sh:Bool)(n:List Int):List (List Int):=levels lns st sh n++[n]
theorem vK(h:1<=st/\st<=4):(levels lns st sh n).length=st.toNat:=by
 unfold levels;rw[List.length_take];simp;omega
theorem qbX(hf:∀o∈lns,Tm.Fit o)(hn:∀r∈n,0<=r/\r<=1114111):∀l∈levels lns st sh n,Tm.Xl l:=by
 intro l hl;have h:=List.mem_of_mem_take hl;obtain⟨k,_,rfl⟩:=List.mem_map.1 h;exact Tm.qhJ sh k _ _ (Tm.qoI hf hn)
theorem qsB(hf:∀o∈lns,Tm.Fit o){sh:Bool}(hst:1<=st/\st<=4)(hn:∀r∈n,0<=r/\r<=1114111)(hm:∀r∈m,0<=r/\r<=1114111) :
  Tm.qcI (Tm.yy (stands lns st sh n)) (Tm.yy (stands lns st sh m))=Tm.zu (stands lns st sh n) (stands lns st sh m) :=
 Tm.qtg (by rw[vK hst,vK hst]) (qbX hf hn) (qbX hf hm) (fun x hx=>by have:=hn x hx;omega) (fun x hx=>by have:=hm x hx;omega)
theorem qsA:stands lns st sh n=stands lns st sh m↔n=m:=by
 constructor
 ·intro h;have:=congrArg List.getLast? h;simpa[stands]using this
 ·intro h;rw[h]
namespace Tm
def qmD:List UInt8:=[35,32,108,101,116,116,101,114,115,10,119,32,54,49,32,61,32,49,48,46,50,48,46,50,10,119,32,54,50,32,61,32,49,49,46,50,48,46,50,10,119,32,54,51,32,61,32,49,50,46,50,48,46,50,10,119,32,54,52,32,61,32,49,51,46,50,48,46,50,32,49,52,46,50,48,46,50,10,10,119,32,52,49,32,61,32,49,48,46,50,48,46,56,10,119,32,50,100,32,61,32,42,51,46,50,48,46,50,10,119,32,51,48,49,32,61,32,48,46,50,52,46,50,10,119,32,51,50,51,32,61,32,48,46,50,97,46,50,10,99,32,51,48,49,32,101,54,10,99,32,51,50,51,32,100,99,10,100,32,101,49,32,54,49,32,51,48,49,10,100,32,49,101,97,49,32,54,49,32,51,50,51,10,100,32,101,50,32,101,49,32,51,50,51]
def qfm:List (List UInt8):=[[119,32,54,51,32,54,56,32,61,32,49,53,46,50,48,46,50],
 [119,32,54,49,32,51,48,49,32,61,32,49,54,46,50,48,46,50],
 [119,32,54,49,32,51,50,51,32,61,32,49,55,46,50,48,46,50,10,119,32,54,49,32,51,50,51,32,51,48,49,32,61,32,49,56,46,50,48,46,50],
 [119,32,50,101,32,61,32,42,52,46,50,48,46,50,32,42,53,46,50,48,46,51],
 [119,32,51,48,48,32,61,32,48,46,48,46,53,10,99,32,51,48,48,32,101,54],
 [119,32,51,48,50,32,61,32,48,46,48,46,48,10,99,32,51,48,50,32,101,54],
 [100,32,99,53,32,52,49,32,51,48,97,10,99,32,51,48,97,32,101,54],
 [119,32,48,32,61,32,48,46,48,46,48]]
def js(n:Nat):Nat->List UInt8
 | 0=>qmD
 | k+1=>if n / 2 ^ k % 2=1 then js n k++[10]++qfm.getD k []else js n k
def xh(n:Nat):List UInt8:=js n 8
def jL(n:Nat):List Ln:=(qF [] 1 (split 10 (xh n))).1
def qqB(p s t:Int):Option (List El)->Bool
 | some [e]=>e.p == p&&e.s == s&&e.t == t&&!e.v
 | _=>false
def qfn(n:Nat):Bool:=decide ((zH (xh n) 1).2=(0,0))&&qqB 16 32 2 (yD (jL n) [97])&&qqB 17 32 2 (yD (jL n) [98])&&decide (parts (jL n) 97=[])&&decide (parts (jL n) 98=[])&&decide ((xh n).length<=8192)
theorem qog:((List.range 128).all qfn)=true:=by decide +kernel
theorem qoh:((List.range 128).all fun n=>qfn (n+128))=true:=by decide +kernel
end Tm
open Go.RowKit
theorem qvp{c:UInt8}{n:Nat}(h:((c.toNat:Int) == (n:Int))=true)(hn:n<256):c=UInt8.ofNat n:=by
 have h1:(c.toNat:Int)=n:=by simpa using h
 apply UInt8.toNat_inj.1;simp;omega
theorem qvq{c:UInt8}{n:Nat}(h:((c.toNat:Int) == (n:Int))=false)(hn:n<256):c≠UInt8.ofNat n:=by
 rintro rfl;simp at h;omega
theorem qt9(s:ByteArray)(h0:0<s.size)(h1:1<(s.size:Int))(h2:((s[0].toNat:Int) == 48)=true):Tm.num s.data.toList=-1:=by
 refine Tm.qjU (.inr (.inr ⟨by rw[zI];omega,?_⟩));rw[qjK s h0,qvp (n:=48) h2 (by omega)];rfl
theorem qsf(s:ByteArray)(h0:0<s.size)(h1:(s.size:Int)<=6)(h2:((s[0].toNat:Int) == 48)=false\/(s.size:Int)<=1):Tm.num s.data.toList=Tm.digits s.data.toList 0:=by
 refine Tm.qvj ?_;rintro(h|h|⟨h,h'⟩)
 ·rw[zI]at h;omega
 ·rw[zI]at h;omega
 ·rcases h2 with h2|h2
  ·rw[qjK s h0]at h';exact qvq (n:=48) h2 (by omega) (by simpa using h')
  ·rw[zI]at h;omega
