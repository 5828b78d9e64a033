import Derived.Deep.RegionWith
import Derived.Maps.AppendAt
import Derived.Test.YtmnjjjhmnhfapaaGreatDoorMRefTwice
import Derived.Test.YtmnjjjhmnhfapaaGreatDoorMRefParse
namespace Go.Proofs.YtmnjjjhmnhfapaaGreatDoor
open Go.RowKit
variable {W:World}{cs:Array Value}{b:Nat}
theorem qia{l:List Int}:∀u∈ints l,u.oneCell'=true:=by
 intro u hu;obtain⟨x,_,rfl⟩:=List.mem_map.1 hu;rfl
theorem qco{w:World}{base jD:Nat}{e:TypeId}{size:Nat}{v:Value}{n:Nat}{xs:List Value}(h:w.ownsRow base e size v n xs)(hb:jD<=base):w.ownsRow jD e size v n xs:=by
 refine⟨h.1,?_⟩;rcases h.2 with h2|⟨g,cap,cur,hv,hg,r⟩
 ·exact .inl h2
 ·exact .inr ⟨g,cap,cur,hv,by omega,r⟩
structure QAN(w1:World)(B:Nat)(st:Int)(sh:Bool)(v:Value)(wr:World):Prop where
 below:Below (B+2) w1 wr
 zc:∀g,g<w1.heap.size->g≠B+2->wr.heap[g]?=w1.heap[g]?
 c0:wr.cell? ⟨B+2,0,none⟩=some v
 c1:wr.cell? ⟨B+2,1,none⟩=some (.int .i64 st)
 c2:wr.cell? ⟨B+2,2,none⟩=some (.bool sh)
 fr:∀o,wr.frozen? ⟨B+2,o,none⟩=false
structure Up(b:Nat)(w w':World):Prop where
 size:w.heap.size<=w'.heap.size
 block:∀g,g≠b->g<w.heap.size->w'.heap[g]?=w.heap[g]?
theorem ql{t:TypeId}(hb:b=W.heap.size)(o:Nat):(W.alloc (.cells cs t)).cell? ⟨b,o,none⟩=cs[o]?:=by
 subst hb;rw[cell_of_row _ _ o cs t (0,0) (heap_alloc_new W _)]
theorem qJ{x:Obj}(hb:b<W.heap.size)(o:Nat):(W.alloc x).cell? ⟨b,o,none⟩=W.cell? ⟨b,o,none⟩ :=
 World.cell?_of_block (w:=W) (Below.heap_alloc W x b hb)
theorem zx{t:TypeId}(hb:b=W.heap.size)(o:Nat):(W.alloc (.cells cs t)).frozen? ⟨b,o,none⟩=false:=by
 subst hb;simp
theorem zP{x:Obj}(hb:b<W.heap.size)(o:Nat):(W.alloc x).frozen? ⟨b,o,none⟩=W.frozen? ⟨b,o,none⟩ :=
 World.frozen?_of_block (w:=W) (Below.heap_alloc W x b hb)
