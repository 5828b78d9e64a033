import Derived.Deep.CutBlock
import Derived.Test.YtmnjjjhmnhfapaaGreatDoorMRefElem
import Derived.Test.YtmnjjjhmnhfapaaGreatDoorMRefParts
namespace Go.Proofs.YtmnjjjhmnhfapaaGreatDoor
open Go.RowKit
variable {w:World}{xs:List Value}
theorem Tryz.qbR:(Tryz.prog.info? 3).map (fun i=>(i.zero,i.size,i.bytes))=some (some (.int .i64 0),1,8):=by kernel_rfl
theorem Tryz.qr8:(Tryz.prog.info? 102).map (fun i=>(i.zero,i.size,i.bytes))=some (some (.agg #[.int .i64 0,.int .i64 0,.int .i64 0,.bool false]),4,32):=by kernel_rfl
theorem qg1{a:Option Addr}{m cap:Nat}{bs:List ByteArray}(h:Reads w (.slice a m cap) 1 bs.length (bs.map Value.string)){k:Nat}(hk:k<bs.length) :
  ∃g off,a=some ⟨g,off,none⟩/\g<w.heap.size/\w.cell? ⟨g,off+k,none⟩=some (.string bs[k]):=by
 obtain⟨g,off,z8,he,hg,hc⟩:=h.form (by simp;omega);cases he;exact⟨g,off,rfl,hg,hc k _ (by simp[hk])⟩
theorem qbS{x:Value}{t:TypeId}:∀j u,[x][j]?=some u->(w.alloc (.cells #[x] t)).cell? ((⟨w.heap.size,0,none⟩:Addr).add j)=some u:=by
 intro j u hj
 match j,hj with
 | 0,hj=>simp at hj;subst hj;simp[Addr.add]
theorem xE{w':World}{base:Nat}{e:TypeId}{size:Nat}{v:Value}{n:Nat}(h:w.ownsRow base e size v n xs)(hb:Below w.heap.size w w'):w'.ownsRow base e size v n xs :=
 h.kept (row:=none) ⟨hb.os,hb.tape,hb.output,hb.size,fun k hk _=>hb.block k hk⟩ (by cases hv:v.ownBlock<;>simp)
theorem qgi{base:Nat}{e:TypeId}{size:Nat}{v:Value}{n:Nat}(h:w.ownsRow base e size v n xs){a:Addr}(ha:v.ownBlock≠some a.block)(u:Value):(w.setCell a u).ownsRow base e size v n xs:=by
 refine⟨h.1,?_⟩;rcases h.2 with h2|⟨g,cap,cur,hv,hg,hh,r⟩
 ·exact Or.inl h2
 ·refine Or.inr ⟨g,cap,cur,hv,hg,?_,r⟩;rw[Below.heap_setCell _ _ _ _ (by subst hv;simp[Value.ownBlock]at ha;exact ha)];exact hh
theorem qsj{x:Tm.El}{t:TypeId}{H:Nat}(hH:w.heap.size=H):∀j u,(yJ x)[j]?=some u->(w.alloc (.cells #[.int .i64 x.p,.int .i64 x.s,.int .i64 x.t,.bool x.v] t)).cell? ((⟨H,0,none⟩:Addr).add j)=some u:=by
 subst hH;intro j u hj
 match j,hj with
 | 0,hj=>simp[yJ]at hj;subst hj;simp[Addr.add]
 | 1,hj=>simp[yJ]at hj;subst hj;simp[Addr.add]
 | 2,hj=>simp[yJ]at hj;subst hj;simp[Addr.add]
 | 3,hj=>simp[yJ]at hj;subst hj;simp[Addr.add]
structure QBt(b:Nat)(w w':World):Prop where
 size:w'.heap.size=w.heap.size
 block:∀g,g≠b->w'.heap[g]?=w.heap[g]?
structure QAO(w1:World)(kb:ByteArray)(n:Int)(vr ve:Value)(wr:World):Prop where
 below:Below w1.heap.size w1 wr
 room:w1.heap.size+1<=wr.heap.size
 c0:wr.cell? ⟨w1.heap.size,0,none⟩=some (.string kb)
 c1:wr.cell? ⟨w1.heap.size,1,none⟩=some vr
 c2:wr.cell? ⟨w1.heap.size,2,none⟩=some ve
 c3:wr.cell? ⟨w1.heap.size,3,none⟩=some (.int .i64 n)
 fr:∀o,wr.frozen? ⟨w1.heap.size,o,none⟩=false
