import Derived.Test.YtmnjjjhmnhfapaaGreatDoorMCodeAny
import Derived.Test.YtmnjjjhmnhfapaaGreatDoorMRefNew
namespace Go.Proofs.YtmnjjjhmnhfapaaGreatDoor
set_option maxRecDepth 100000
set_option maxHeartbeats 2000000
open Go.RowKit
def qvM(r:Option Tm.El)(e:Ending):Prop:=match r with
 | some x=>e=.returned (.agg #[.int .i64 x.p,.int .i64 x.s,.int .i64 x.t,.bool x.v])
 | none=>yU e 1
theorem qpZ{r:Option Tm.El}{x:Tm.El}{e:Ending}(h:r=some x)(he:e=.returned (.agg #[.int .i64 x.p,.int .i64 x.s,.int .i64 x.t,.bool x.v])):qvM r e:=by subst h;exact he
theorem qr2{w:World}{v:Value}{b0 b1 b2:ByteArray}(h:Reads w v 1 3 [.string b0,.string b1,.string b2]) :
  ∃g off cap,v=.slice (some ⟨g,off,none⟩) 3 cap/\g<w.heap.size/\w.cell? ⟨g,off,none⟩=some (.string b0)/\w.cell? ⟨g,off+1,none⟩=some (.string b1)/\w.cell? ⟨g,off+2,none⟩=some (.string b2):=by
 obtain⟨g,off,cap,rfl,hg,hc⟩:=h.form (by simp);exact⟨g,off,cap,rfl,hg,by simpa using hc 0 _ rfl,hc 1 _ rfl,hc 2 _ rfl⟩
theorem qh6(s:ByteArray)(w:World)(hs:s.size<=8192)(qeT:(Tm.elem s.data.toList).isSome=true) :
  Calls Tryz.prog 216 #[.string s] w fun e w'=>qvM (Tm.elem s.data.toList) e/\Below w.heap.size w w':=by
 have Qly:=qb qeT;clear qeT;have hbs:=qkp s;have HE:=qb (qkq s);go_enter Tryz.func216,Tryz.ntmps216
 go_wp2_with fail
 refine(QeE s _).mono ?_;rintro e w1 ⟨rfl,rfl⟩;generalize star s=vb at *;generalize bare s=sv at *;go_wp2_with fail
 refine(Qga sv 46 _ (by omega)).mono ?_;rintro e w1 ⟨v,bs,rfl,hrd,hsp,hbl,hb⟩;have hc:=(qvN hb).1;have hf:=(qvN hb).2;have hz:=hb.size;simp at hz
 have y0:w1.cell? ⟨w.heap.size,0,none⟩=some (.int .i64 0):=by rw[hc _ _ (by simp),ql rfl];rfl
 have y1:w1.cell? ⟨w.heap.size,1,none⟩=some (.int .i64 0):=by rw[hc _ _ (by simp),ql rfl];rfl
 have y2:w1.cell? ⟨w.heap.size,2,none⟩=some (.int .i64 0):=by rw[hc _ _ (by simp),ql rfl];rfl
 have y3:w1.cell? ⟨w.heap.size,3,none⟩=some (.bool false):=by rw[hc _ _ (by simp),ql rfl];rfl
 have fy:∀o,w1.frozen? ⟨w.heap.size,o,none⟩=false:=fun o=>by rw[hf _ _ (by simp),zx rfl]
 have HB:Hid (Below w.heap.size w w1):=((Below.refl _ _).alloc (Nat.le_refl _) _).trans (hb.mono (by simp));clear hc hf hb;by_cases h3:bs.length=3
 ·obtain⟨b0,b1,b2,rfl⟩:=ql6 h3;obtain⟨g,off,cap,rfl,hg,c0,c1,c2⟩:=qr2 (by simpa using hrd);have hgl:=hbl g rfl;simp at hgl
  have g1:¬g=w.heap.size:=by omega
  have g2:¬w.heap.size=g:=by omega
  have hsz:=qe7 hsp (by omega);have hs0:=hsz b0 (by simp);have hs1:=hsz b1 (by simp);have hs2:=hsz b2 (by simp);have HS:=qb hsp
  have hE3:Tm.elem s.data.toList=Tm.qaa vb [b0.data.toList,b1.data.toList,b2.data.toList]:=by rw[HE.out,<-hsp];rfl
  have HE3:=qb hE3;clear hrd hsp hsz h3 hbl hE3 HE
  have qtR:(ze 65535 b0.data.toList=false)\/(ze 65535 b0.data.toList=true/\ze 65535 b1.data.toList=false)\/(ze 65535 b0.data.toList=true/\ze 65535 b1.data.toList=true/\ze 65535 b2.data.toList=false)\/(ze 65535 b0.data.toList=true/\ze 65535 b1.data.toList=true/\ze 65535 b2.data.toList=true):=by
   cases ze 65535 b0.data.toList<;>cases ze 65535 b1.data.toList<;>cases ze 65535 b2.data.toList<;>simp
  have Qp0:Hid (¬(ze 65535 b0.data.toList=true/\ze 65535 b1.data.toList=true/\ze 65535 b2.data.toList=true)->Tm.elem s.data.toList=none):=by
   intro h;rw[HE3.out];refine qp1 (fun h'=>h ?_);simp only[ze,decide_eq_true_eq];omega
  have hl3:(([b0,b1,b2].length:Int) != 3)=false:=rfl;rcases qtR with h0|⟨h0,h1⟩|⟨h0,h1,h2⟩|⟨h0,h1,h2⟩
  ·have h:=Qly.out;rw[Qp0.out (by rw[h0];simp)]at h;cases h
  ·have h:=Qly.out;rw[Qp0.out (by rw[h1];simp)]at h;cases h
  ·have h:=Qly.out;rw[Qp0.out (by rw[h2];simp)]at h;cases h
  ·have HN:Hid (Tm.elem s.data.toList=some ⟨Tm.num b0.data.toList,Tm.num b1.data.toList,Tm.num b2.data.toList,vb⟩):=by
    unfold Hid;rw[HE3.out];simp only[ze,decide_eq_true_eq]at h0 h1 h2;exact qiP ⟨⟨h0.1,h1.1,h2.1⟩,h0.2,h1.2,h2.2⟩
   clear Qp0;go_wp2_with fail
   refine(zl 1 _).mono ?_;rintro e w' ⟨rfl,rfl⟩;go_wp2_with fail
   go_region_held3 (fun wx=>wx.cell? ⟨g,off,none⟩=some (.string b0)/\wx.cell? ⟨g,off+1,none⟩=some (.string b1)/\wx.cell? ⟨g,off+2,none⟩=some (.string b2)) (go_keep)
    (first|(go_at_call_of 205 (Value.string b0);refine(zW b0 _ _ (by unfold maxLen;omega) h0).mono ?_;rintro e w' ⟨rfl,rfl⟩)|(go_at_call_of 205 (Value.string b1);refine(zW b1 _ _ (by unfold maxLen;omega) h1).mono ?_;rintro e w' ⟨rfl,rfl⟩)|(go_at_call_of 205 (Value.string b2);refine(zW b2 _ _ (by unfold maxLen;omega) h2).mono ?_;rintro e w' ⟨rfl,rfl⟩))
   all_goals go_wp2
   all_goals
    refine bodyPost_ret (v:=.agg #[.int .i64 (Tm.num b0.data.toList),.int .i64 (Tm.num b1.data.toList),.int .i64 (Tm.num b2.data.toList),.bool vb]) (by simp[results,Tryz.results216,go_sem,y0,y1,y2,y3]) rfl ⟨qpZ HN.out rfl,?_⟩
    (repeat(first|with_reducible exact HB.out|with_reducible refine Below.drew ?_|with_reducible refine Below.setCell ?_ (by simp) _))
 ·have h:=Qly.out;rw[HE.out,Tm.qnY (by rw[<-hsp,List.length_map];exact h3)]at h;cases h
