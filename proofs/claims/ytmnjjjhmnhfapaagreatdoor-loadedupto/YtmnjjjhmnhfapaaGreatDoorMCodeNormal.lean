import Derived.Test.YtmnjjjhmnhfapaaGreatDoorMCodeNorm
namespace Go.Proofs.YtmnjjjhmnhfapaaGreatDoor
set_option maxRecDepth 100000
open Go.RowKit
theorem Qp9(lns:List Tm.Ln)(qR:∀o∈lns,Tm.Fit o)(xB:∀r,Tm.ends lns 4 r=true)(bc bm:Nat)(s:ByteArray)(w:World)(hc:w.cell? ⟨bc,0,none⟩=some (.map (some bm)))(hrd:ZX w bm lns) :
  Calls Tryz.prog 105 #[.pointer (some ⟨bc,0,none⟩),.string s] w fun e w'=>qg3 lns s w e w':=by
 have HRD:=qb hrd;have QiE:=qb xB;clear hrd xB;by_cases hs:s.size<=64
 ·have hd:decide (64<(s.size:Int))=false:=by simp<;>omega
  go_enter Tryz.func105,Tryz.ntmps105
  go_wp2_with fail
  refine(jo s _).mono ?_;rintro e w0 ⟨rfl,rfl⟩;rw[hd];go_wp2_with fail
  refine(qbU lns qR QiE.out bm s _ hs HRD.out).mono ?_;rintro e w1 ⟨v,rfl,qp,hb⟩;have HO:=qb qp;have HB:=qb hb;clear qp hb;go_wp2;go_ret2;unfold qg3;rw[if_pos hs];exact⟨v,rfl,HO.out,HB.out⟩
 ·have hd:decide (64<(s.size:Int))=true:=by simp<;>omega
  go_enter Tryz.func105,Tryz.ntmps105
  go_wp2_with fail
  refine(jo s _).mono ?_;rintro e w0 ⟨rfl,rfl⟩;rw[hd];go_wp2;go_ret2;unfold qg3;rw[if_neg hs];exact⟨rfl,rfl⟩
