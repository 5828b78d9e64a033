import Derived.Defers
import Derived.Recover
import Derived.Test.YtmnjjjhmnhfapaaGreatDoorMCodeNum
import Derived.Test.YtmnjjjhmnhfapaaGreatDoorMRefNew
namespace Go.Proofs.YtmnjjjhmnhfapaaGreatDoor
set_option maxRecDepth 100000
set_option maxHeartbeats 1000000
open Go.RowKit
theorem vZ(bd c l e:Nat)(vc vl ve:Value)(q n:Int)(w:World)(hcl:¬c=l)(hce:¬c=e)(hle:¬l=e)(hd:¬bd=c)
  (hc:w.cell? ⟨c,0,none⟩=some vc) (hl:w.cell? ⟨l,0,none⟩=some vl) (he:w.cell? ⟨e,0,none⟩=some ve) (hcf:w.frozen? ⟨c,0,none⟩=false) (hlf:w.frozen? ⟨l,0,none⟩=false) (hef:w.frozen? ⟨e,0,none⟩=false) (hb:w.cell? ⟨bd,1,none⟩=some (.int .i64 n)) :
  CallsD Tryz.prog 119 #[.pointer (some ⟨bd,0,none⟩),.pointer (some ⟨c,0,none⟩),.pointer (some ⟨l,0,none⟩),.pointer (some ⟨e,0,none⟩)] (.panicking [{v:=.iface 30 (.int .i64 q),recovered:=false}]) w fun x u' w' =>
   x=.returned (.tuple #[])/\u'=.panicking [{v:=.iface 30 (.int .i64 q),recovered:=true}]/\w'=(((w.setCell ⟨c,0,none⟩ (.pointer none)).setCell ⟨l,0,none⟩ (.int .i64 n)).setCell ⟨e,0,none⟩ (.int .i64 1)).setCell ⟨e,0,none⟩ (.int .i64 q):=by
 have hta:∀w:World,(Instr.typeAssert (.iface 30 (.int .i64 q)) 20 30 true).run Tryz.prog w=.ok (.tuple #[.int .i64 q,.bool true]) w:=fun w=>by kernel_rfl
 have h1:¬l=c:=fun h=>hcl h.symm;have h2:¬e=c:=fun h=>hce h.symm;have h3:¬e=l:=fun h=>hle h.symm;have h4:¬c=bd:=fun h=>hd h.symm;refine callsD_of_wpS Tryz.func119 rfl fun c₀ cs hu=>?_;apply wpS_seq;apply wpS_region;simp[wpOpsS,go_sem,recoverD,hu,Tryz.ntmps119,Exit.thenS];refine wpS_of_wp ?_
 change Code.wp _ _ _ {tmps:=#[.pointer (some ⟨bd,0,none⟩),.pointer (some ⟨c,0,none⟩),.pointer (some ⟨l,0,none⟩),.pointer (some ⟨e,0,none⟩),.iface 30 (.int .i64 q),undef,undef,.iface 30 (.int .i64 q),undef,undef,undef,undef,undef,undef,undef,undef,undef,undef,undef],defers:=[]} w
 go_wp2;cases c₀;simp_all[bodyPostS,results,Tryz.results119]
theorem qpY(bd c l e:Addr)(w:World) :
  CallsD Tryz.prog 119 #[.pointer (some bd),.pointer (some c),.pointer (some l),.pointer (some e)] .returning w fun x u' w'=>x=.returned (.tuple #[])/\u'=.returning/\w'=w:=by
 refine callsD_of_wpS Tryz.func119 rfl fun c₀ cs hu=>?_;apply wpS_seq;apply wpS_region;simp[wpOpsS,go_sem,recoverD,hu,Tryz.ntmps119,Exit.thenS];refine wpS_of_wp ?_
 change Code.wp _ _ _ {tmps:=#[.pointer (some bd),.pointer (some c),.pointer (some l),.pointer (some e),.nilIface,undef,undef,.nilIface,undef,undef,undef,undef,undef,undef,undef,undef,undef,undef,undef],defers:=[]} w
 go_wp2;cases c₀;simp_all[bodyPostS,results,Tryz.results119]
