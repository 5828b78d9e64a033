import Derived.Test.YtmnjjjhmnhfapaaGreatDoorMCodeLevs2
import Derived.Test.YtmnjjjhmnhfapaaGreatDoorMCodeNorm
namespace Go.Proofs.YtmnjjjhmnhfapaaGreatDoor
set_option maxRecDepth 100000
set_option maxHeartbeats 1000000
open Go.RowKit
variable {lns:List Tm.Ln}
theorem qeb(hf:∀o∈lns,Tm.Fit o){s:ByteArray}(hs:s.size<=64):(zq lns s).length<=1024:=by
 have h1:=Tm.qfh (lns:=lns) (fun q=>qcp hf q) 4 (jR s);have h2:=qbp (s:=s) (f:=s.size) (pos:=0)
 have h3:(jR s).length<=64:=by unfold jR;omega
 have h4:=Nat.mul_le_mul_right (2 ^ 4) h3;rw[zq,Tm.qcS];omega
theorem qat(hf:∀o∈lns,Tm.Fit o)(s:ByteArray):∀r∈zq lns s,0<=r/\r<=1114111:=by
 intro r hr;have:=Tm.qoY hr;obtain⟨y,hy,hx⟩:=List.mem_flatMap.1 this;exact qdp hf 4 y (qbo y hy) r hx
theorem qkn(lns:List Tm.Ln)(s:ByteArray):Tm.Calm (Tm.qd lns) (zq lns s):=Tm.qob _
def JP(w:World)(v:Value)(ls:List (List Int)):Prop :=
 ∃vs:List Value,vs.length=ls.length/\Reads w v 1 ls.length vs/\∀(k:Nat) (x:Value) (l:List Int),vs[k]?=some x->ls[k]?=some l->Reads w x 1 l.length (ints l)
theorem JP.below{w w':World}{v:Value}{ls:List (List Int)}(h:JP w v ls)(hb:Below w.heap.size w w'):JP w' v ls:=by
 obtain⟨vs,h1,h2,h3⟩:=h;exact⟨vs,h1,h2.below hb h2.2.1,fun k x l hx hl=>(h3 k x l hx hl).below hb (h3 k x l hx hl).2.1⟩
theorem QiF(v:Value)(xs:List Value)(w:World)(hr:Reads w v 1 xs.length xs)(h1:∀u∈xs,u.oneCell'=true)(hl:xs.length<=1000000) :
  Calls Tryz.prog 134 #[v] w fun e w'=>∃v',e=.returned v'/\w'.ownsRow w.heap.size 83 1 v' xs.length xs/\Below w.heap.size w w':=by
 obtain⟨i1,ki,kz0,kz1,kz2⟩:=info_parts (show(Tryz.prog.info? 83).map (fun i=>(i.zero,i.size,i.bytes))=some (some (.slice none 0 0),1,24) by kernel_rfl);have qt8:=fun(w:World) (a:Option Addr) (n c:Nat)=>Lib.run_eql_slice_nil (P:=Tryz.prog) w 35 83 a n c 0 0 Tryz.underlying35;have hr':=hr;obtain⟨hlen,hlt,a,cap,rfl,qV,hc⟩:=hr'
 cases a with
 | none =>
  have h0:xs=[]:=by
   cases xs with
   | nil=>rfl
   | cons x r =>
    obtain⟨g,off,he,_⟩:=hc 0 x (by simp);cases he
  subst h0;clear hr hc hlt h1 hlen;go_enter Tryz.func134,Tryz.ntmps134
  go_wp2;go_ret;exact⟨_,rfl,World.ownsRow_nil _ _ _ _,Below.refl _ _⟩
 | some ad =>
  obtain⟨g,off,sp⟩:=ad
  have HC:Hid (∀j u,xs[j]?=some u->(w.alloc (.cells #[] 83)).cell? ((⟨g,off,sp⟩:Addr).add j)=some u):=fun j u hu=>by
   obtain⟨g',j0,he,zC⟩:=hc j u hu;cases he;rw[qbV];rw[qJ (hlt _ rfl)];exact zC
  have HO:Hid ((w.alloc (.cells #[] 83)).ownsRow w.heap.size 83 1 (.slice (some ⟨w.heap.size,0,none⟩) 0 0) 0 []):=World.ownsRow_made w #[] 0 (Nat.le_refl _) (Nat.zero_le _) rfl;have H1:=qb h1;clear hr hc hlt h1 hlen;go_enter Tryz.func134,Tryz.ntmps134
  go_wp2_with (at_builtin;go_must (refine qcs rfl _ _ 35 rfl w.heap.size 83 i1 (.slice none 0 0) 24 Tryz.underlying35 ki kz0 kz1 kz2 rfl _ _ _ rfl HO.out ⟨g,off,sp⟩ xs.length cap xs rfl (Nat.mul_one _).symm HC.out H1.out (by unfold maxLen;omega) (by omega) (by simp) ?_))
  intro v' w' qp hgr _ _;have HO':=qb qp;have HB:Hid (Below w.heap.size w w'):=((Below.refl _ _).alloc (Nat.le_refl _) _).grown hgr (by simp) (fun k hk=>by simp[Value.ownBlock]at hk;omega);obtain⟨a',z8,rfl⟩:=(Reads.qn qp).shape;clear qp hgr;go_wp2;go_ret;refine⟨_,rfl,?_,HB.out⟩;have:=HO'.out;simpa using this
