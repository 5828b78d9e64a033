import Derived.Test.YtmnjjjhmnhfapaaGreatDoorMCodeBuild
import Derived.Test.YtmnjjjhmnhfapaaGreatDoorMLawOpens
namespace Go.Proofs.YtmnjjjhmnhfapaaGreatDoor
set_option maxRecDepth 100000
set_option maxHeartbeats 1000000
open Go.RowKit
variable {s:List UInt8}{st:Int}{lns:List Tm.Ln}
theorem qmc(h1:¬(st<1\/4<st))(h2:¬8192<s.length):(Tm.zH s st).2=z9 s:=by
 unfold Tm.zH z9;rw[if_neg h1,if_neg h2];split<;>rename_i h<;>rw[h]
theorem qk9(h:(Tm.together lns).2=0):(Tm.together lns).1=0:=by
 unfold Tm.together at h⊢;split<;>rename_i h1<;>rw[h1]at h<;>simp only at h⊢
 ·exact absurd h (by decide)
 ·split<;>rename_i h2<;>rw[h2]at h<;>simp only at h⊢
  ·exact absurd h (by decide)
  ·split<;>rename_i h3<;>rw[h3]at h<;>simp only at h⊢
   exact absurd h (by decide)
def XQ(s:ByteArray)(st:Int)(sh:Bool)(B:Nat)(c:Option Addr)(w:World):Prop :=
 ∀a,c=some a->∃bc bm lns,a=⟨bc,0,none⟩/\Xk w B bc bm st sh lns/\Tm.zH s.data.toList st=(lns,0,0)
theorem XQ.none{s:ByteArray}{sh:Bool}{B:Nat}{w:World}:XQ s st sh B none w:=fun a h=>by cases h
theorem qeH:QvQ XQ:=fun s st sh B B' c w w' h hB hs hk a ha=>by
 obtain⟨bc,bm,lns,h1,h2,h3⟩:=h a ha;exact⟨bc,bm,lns,h1,h2.stays hB hs hk,h3⟩
theorem qla(h1:¬(st<1\/4<st))(h2:¬8192<s.length)(h:Tm.qF [] 1 (Tm.split 10 s)=(lns,none))(h0:(z9 s).2=0):Tm.zH s st=(lns,0,0):=by
 have e:(z9 s).1=0:=by
  unfold z9 at h0⊢;rw[h]at h0⊢;simp only at h0⊢;exact qk9 h0
 unfold Tm.zH;unfold z9 at e h0;rw[if_neg h1,if_neg h2];rw[h]at e h0⊢;simp only at e h0⊢;rw[e,h0]
theorem XP.said{B:Nat}{s:ByteArray}{sh:Bool}{c:Option Addr}{w':World}(h:XP B s st sh c w')(h1:¬(st<1\/4<st))(h2:¬8192<s.data.toList.length):XQ s st sh B c w':=by
 intro a ha;by_cases h0:(z9 s.data.toList).2=0
 ·obtain⟨bc,bm,lns,hc,qp,hr⟩:=h.2 h0;rw[hc]at ha;injection ha with ha;exact⟨bc,bm,lns,ha.symm,qp,qla h1 h2 hr h0⟩
 ·rw[h.1 h0]at ha;cases ha
theorem qt6:Qws XQ:=by
 refine⟨qeH,?_⟩;intro s st sh w hs;have hb0:Below w.heap.size w (w.alloc (.cells #[.int .i64 st,.bool sh] 27)):=(Below.refl _ _).alloc (Nat.le_refl _) _;have HB0:=qb hb0;clear hb0;by_cases h1:st<1\/4<st
 ·have HT:=qb (Tm.qiT (t:=s.data.toList) h1);by_cases h0:st<1
  ·have hd:decide (st<1)=true:=by simpa using h0
   clear h1;go_enter Tryz.func34,Tryz.ntmps34
   go_wp2
   go_ret3
   refine⟨none,?_,?_,XQ.none,HB0.out⟩
   ·rw[HT.out];rfl
   ·rw[HT.out];simp
  ·have hd:decide (st<1)=false:=by simpa using h0
   have hd':decide (4<st)=true:=by simp;omega
   clear h1;go_enter Tryz.func34,Tryz.ntmps34
   go_wp2
   go_ret3
   refine⟨none,?_,?_,XQ.none,HB0.out⟩
   ·rw[HT.out];rfl
   ·rw[HT.out];simp
 ·have hd:decide (st<1)=false:=by simp;omega
  have hd':decide (4<st)=false:=by simp;omega
  by_cases h2:8192<s.data.toList.length
  ·have HT:=qb (Tm.qlb (t:=s.data.toList) h1 h2)
   have hl:decide (8192<(s.size:Int))=true:=by rw[zI]at h2;simp;omega
   clear h1 h2;go_enter Tryz.func34,Tryz.ntmps34
   go_wp2
   go_ret3
   refine⟨none,?_,?_,XQ.none,HB0.out⟩
   ·rw[HT.out];rfl
   ·rw[HT.out];simp
  ·have HT:=qb (qmc h1 h2);have HBA:Hid (∀{B:Nat} {c:Option Addr} {w':World},XP B s st sh c w'->XQ s st sh B c w'):=fun h=>h.said h1 h2
   have hl:decide (8192<(s.size:Int))=false:=by rw[zI]at h2;simp;omega
   have hsz:s.size<=8192:=by rw[zI]at h2;omega
   clear h1 h2;go_enter Tryz.func34,Tryz.ntmps34
   go_wp2_with fail
   refine(qr1 s st sh _ hsz).mono ?_;rintro e w1 ⟨c,rfl,qw,hb1⟩
   have hc:c=none↔(z9 s.data.toList).2≠0:=by
    constructor
    ·intro h h0;obtain⟨bc,bm,lns,hx,_⟩:=qw.2 h0;rw[hx]at h;cases h
    ·exact qw.1
   have HC:=qb hc;have HS:Hid (XQ s st sh w.heap.size c w1):=qeH _ _ _ _ _ _ _ _ (HBA.out qw) (by simp) (Nat.le_refl _) (fun _ _ _=>rfl);have HB1:Hid (Below w.heap.size w w1):=HB0.out.trans (hb1.mono (by simp));clear hc hb1 qw;generalize z9 s.data.toList=p at *;obtain⟨n,q⟩:=p;simp only at HC;go_wp2
   go_ret3
   refine⟨c,?_,?_,HS.out,HB1.out⟩
   ·rw[HT.out];rfl
   ·rw[HT.out];exact HC.out
