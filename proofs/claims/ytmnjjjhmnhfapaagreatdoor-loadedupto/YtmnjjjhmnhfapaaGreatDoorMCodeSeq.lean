import Derived.RegionDies
import Derived.Test.YtmnjjjhmnhfapaaGreatDoorMCodeElem
import Derived.Test.YtmnjjjhmnhfapaaGreatDoorMCodeEnds
namespace Go.Proofs.YtmnjjjhmnhfapaaGreatDoor
set_option maxRecDepth 100000
set_option maxHeartbeats 8000000
open Go.RowKit
variable {bs:List ByteArray}{k:Nat}
theorem qig(s:ByteArray)(w:World)(hs:s.size<=8192)(qvU:Tm.elem s.data.toList=none) :
  Calls Tryz.prog 216 #[.string s] w fun e w'=>yU e 1/\Below w.heap.size w w':=by
 have hbs:=qkp s;have HE:=qb ((qkq s).symm.trans qvU);clear qvU;go_enter Tryz.func216,Tryz.ntmps216
 go_wp2_with fail
 refine(QeE s _).mono ?_;rintro e w1 ⟨rfl,rfl⟩;generalize star s=vb at *;generalize bare s=sv at *;go_wp2_with fail
 refine(Qga sv 46 _ (by omega)).mono ?_;rintro e w1 ⟨v,bs,rfl,hrd,hsp,hbl,hb⟩;have HB:Hid (Below w.heap.size w w1):=((Below.refl _ _).alloc (Nat.le_refl _) _).trans (hb.mono (by simp));clear hb;by_cases h3:bs.length=3
 ·obtain⟨b0,b1,b2,rfl⟩:=ql6 h3;obtain⟨g,off,cap,rfl,hg,c0,c1,c2⟩:=qr2 (by simpa using hrd);have hsz:=qe7 hsp (by omega);have hs0:=hsz b0 (by simp);have hs1:=hsz b1 (by simp);have hs2:=hsz b2 (by simp)
  have hE3:Tm.qaa vb [b0.data.toList,b1.data.toList,b2.data.toList]=none:=by rw[<-HE.out,<-hsp];rfl
  have qtR:(ze 65535 b0.data.toList=false)\/(ze 65535 b0.data.toList=true/\ze 65535 b1.data.toList=false)\/(ze 65535 b0.data.toList=true/\ze 65535 b1.data.toList=true/\ze 65535 b2.data.toList=false):=by
   cases h0:ze 65535 b0.data.toList
   ·exact .inl rfl
   ·cases h1:ze 65535 b1.data.toList
    ·exact .inr (.inl ⟨rfl,rfl⟩)
    ·cases h2:ze 65535 b2.data.toList
     ·exact .inr (.inr ⟨rfl,rfl,rfl⟩)
     ·exfalso;simp only[ze,decide_eq_true_eq]at h0 h1 h2;rw[qiP ⟨⟨h0.1,h1.1,h2.1⟩,h0.2,h1.2,h2.2⟩]at hE3;cases hE3
  have hl3:(([b0,b1,b2].length:Int) != 3)=false:=rfl;clear hrd hsp hsz h3 hbl hE3 HE;rcases qtR with h0|⟨h0,h1⟩|⟨h0,h1,h2⟩
  ·go_wp2_with fail
   refine(zl 1 _).mono ?_;rintro e w' ⟨rfl,rfl⟩;go_wp2_with fail
   go_region_dies
   all_goals(go_at_call_of 205 (Value.string b0);refine(yR b0 _ _ (by unfold maxLen;omega) h0).mono ?_;rintro e w' ⟨rfl,rfl⟩;exact⟨rfl,rfl,HB.out.drew⟩)
  ·go_wp2_with fail
   refine(zl 1 _).mono ?_;rintro e w' ⟨rfl,rfl⟩;go_wp2_with fail
   go_region_dies
   all_goals go_wp2_with (go_at_call_of 205 (Value.string b0);refine(zW b0 _ _ (by unfold maxLen;omega) h0).mono ?_;rintro e w' ⟨rfl,rfl⟩)
   all_goals(try(first|(refine wpAny_ready (rs:=[7]) (by decide +kernel) (by simp) ?_;refine AllReady.cons rfl (fun K hK=>?_) ?_;go_simp;rotate_left;exact AllReady.nil)|(refine wpAny_ready (rs:=[7,10]) (by decide +kernel) (by simp) ?_;refine AllReady.cons rfl (fun K hK=>?_) ?_;go_simp;rotate_left;refine AllReady.cons rfl (fun K hK=>?_) ?_;go_simp;refine hK _ _ ?_;clear hK K;rotate_left;exact AllReady.nil)|(refine wpAny_ready (rs:=[6]) (by decide +kernel) (by simp) ?_;refine AllReady.cons rfl (fun K hK=>?_) ?_;go_simp;refine hK _ _ ?_;clear hK K;rotate_left;exact AllReady.nil)|(refine wpAny_ready (rs:=[6,10]) (by decide +kernel) (by simp) ?_;refine AllReady.cons rfl (fun K hK=>?_) ?_;go_simp;refine hK _ _ ?_;clear hK K;rotate_left;refine AllReady.cons rfl (fun K hK=>?_) ?_;go_simp;refine hK _ _ ?_;clear hK K;rotate_left;exact AllReady.nil)))
   all_goals(try(go_at_call_of 205 (Value.string b1);refine(yR b1 _ _ (by unfold maxLen;omega) h1).mono ?_;rintro e w' ⟨rfl,rfl⟩;exact⟨rfl,rfl,HB.out.drew⟩))
   all_goals(try(first|(refine wpAny_ready (rs:=[7]) (by decide +kernel) (by simp) ?_;refine AllReady.cons rfl (fun K hK=>?_) ?_;go_simp;rotate_left;exact AllReady.nil)|(refine wpAny_ready (rs:=[7,10]) (by decide +kernel) (by simp) ?_;refine AllReady.cons rfl (fun K hK=>?_) ?_;go_simp;rotate_left;refine AllReady.cons rfl (fun K hK=>?_) ?_;go_simp;refine hK _ _ ?_;clear hK K;rotate_left;exact AllReady.nil)|(refine wpAny_ready (rs:=[6]) (by decide +kernel) (by simp) ?_;refine AllReady.cons rfl (fun K hK=>?_) ?_;go_simp;refine hK _ _ ?_;clear hK K;rotate_left;exact AllReady.nil)|(refine wpAny_ready (rs:=[6,10]) (by decide +kernel) (by simp) ?_;refine AllReady.cons rfl (fun K hK=>?_) ?_;go_simp;refine hK _ _ ?_;clear hK K;rotate_left;refine AllReady.cons rfl (fun K hK=>?_) ?_;go_simp;refine hK _ _ ?_;clear hK K;rotate_left;exact AllReady.nil)))
   all_goals(try(go_at_call_of 205 (Value.string b1);refine(yR b1 _ _ (by unfold maxLen;omega) h1).mono ?_;rintro e w' ⟨rfl,rfl⟩;exact⟨rfl,rfl,HB.out.drew⟩))
   all_goals(try(first|(refine wpAny_ready (rs:=[7]) (by decide +kernel) (by simp) ?_;refine AllReady.cons rfl (fun K hK=>?_) ?_;go_simp;rotate_left;exact AllReady.nil)|(refine wpAny_ready (rs:=[7,10]) (by decide +kernel) (by simp) ?_;refine AllReady.cons rfl (fun K hK=>?_) ?_;go_simp;rotate_left;refine AllReady.cons rfl (fun K hK=>?_) ?_;go_simp;refine hK _ _ ?_;clear hK K;rotate_left;exact AllReady.nil)|(refine wpAny_ready (rs:=[6]) (by decide +kernel) (by simp) ?_;refine AllReady.cons rfl (fun K hK=>?_) ?_;go_simp;refine hK _ _ ?_;clear hK K;rotate_left;exact AllReady.nil)|(refine wpAny_ready (rs:=[6,10]) (by decide +kernel) (by simp) ?_;refine AllReady.cons rfl (fun K hK=>?_) ?_;go_simp;refine hK _ _ ?_;clear hK K;rotate_left;refine AllReady.cons rfl (fun K hK=>?_) ?_;go_simp;refine hK _ _ ?_;clear hK K;rotate_left;exact AllReady.nil)))
   all_goals(try(go_at_call_of 205 (Value.string b1);refine(yR b1 _ _ (by unfold maxLen;omega) h1).mono ?_;rintro e w' ⟨rfl,rfl⟩;exact⟨rfl,rfl,HB.out.drew⟩))
  ·go_wp2_with fail
   refine(zl 1 _).mono ?_;rintro e w' ⟨rfl,rfl⟩;go_wp2_with fail
   go_region_dies
   all_goals go_wp2_with (go_at_call_of 205 (Value.string b0);refine(zW b0 _ _ (by unfold maxLen;omega) h0).mono ?_;rintro e w' ⟨rfl,rfl⟩)
   all_goals(try(first|(refine wpAny_ready (rs:=[11]) (by decide +kernel) (by simp) ?_;refine AllReady.cons rfl (fun K hK=>?_) ?_;go_simp;rotate_left;exact AllReady.nil)|(refine wpAny_ready (rs:=[10]) (by decide +kernel) (by simp) ?_;refine AllReady.cons rfl (fun K hK=>?_) ?_;go_simp;refine hK _ _ ?_;clear hK K;rotate_left;exact AllReady.nil)|(refine wpAny_ready (rs:=[7]) (by decide +kernel) (by simp) ?_;refine AllReady.cons rfl (fun K hK=>?_) ?_;go_simp;rotate_left;exact AllReady.nil)|(refine wpAny_ready (rs:=[7,10]) (by decide +kernel) (by simp) ?_;refine AllReady.cons rfl (fun K hK=>?_) ?_;go_simp;rotate_left;refine AllReady.cons rfl (fun K hK=>?_) ?_;go_simp;refine hK _ _ ?_;clear hK K;rotate_left;exact AllReady.nil)|(refine wpAny_ready (rs:=[6]) (by decide +kernel) (by simp) ?_;refine AllReady.cons rfl (fun K hK=>?_) ?_;go_simp;refine hK _ _ ?_;clear hK K;rotate_left;exact AllReady.nil)|(refine wpAny_ready (rs:=[6,10]) (by decide +kernel) (by simp) ?_;refine AllReady.cons rfl (fun K hK=>?_) ?_;go_simp;refine hK _ _ ?_;clear hK K;rotate_left;refine AllReady.cons rfl (fun K hK=>?_) ?_;go_simp;refine hK _ _ ?_;clear hK K;rotate_left;exact AllReady.nil)))
   all_goals(try(go_at_call_of 205 (Value.string b2);refine(yR b2 _ _ (by unfold maxLen;omega) h2).mono ?_;rintro e w' ⟨rfl,rfl⟩;exact⟨rfl,rfl,HB.out.drew⟩))
   all_goals(try(go_wp2_with (go_at_call_of 205 (Value.string b1);refine(zW b1 _ _ (by unfold maxLen;omega) h1).mono ?_;rintro e w' ⟨rfl,rfl⟩)))
   all_goals(try(first|(refine wpAny_ready (rs:=[11]) (by decide +kernel) (by simp) ?_;refine AllReady.cons rfl (fun K hK=>?_) ?_;go_simp;rotate_left;exact AllReady.nil)|(refine wpAny_ready (rs:=[10]) (by decide +kernel) (by simp) ?_;refine AllReady.cons rfl (fun K hK=>?_) ?_;go_simp;refine hK _ _ ?_;clear hK K;rotate_left;exact AllReady.nil)|(refine wpAny_ready (rs:=[7]) (by decide +kernel) (by simp) ?_;refine AllReady.cons rfl (fun K hK=>?_) ?_;go_simp;rotate_left;exact AllReady.nil)|(refine wpAny_ready (rs:=[7,10]) (by decide +kernel) (by simp) ?_;refine AllReady.cons rfl (fun K hK=>?_) ?_;go_simp;rotate_left;refine AllReady.cons rfl (fun K hK=>?_) ?_;go_simp;refine hK _ _ ?_;clear hK K;rotate_left;exact AllReady.nil)|(refine wpAny_ready (rs:=[6]) (by decide +kernel) (by simp) ?_;refine AllReady.cons rfl (fun K hK=>?_) ?_;go_simp;refine hK _ _ ?_;clear hK K;rotate_left;exact AllReady.nil)|(refine wpAny_ready (rs:=[6,10]) (by decide +kernel) (by simp) ?_;refine AllReady.cons rfl (fun K hK=>?_) ?_;go_simp;refine hK _ _ ?_;clear hK K;rotate_left;refine AllReady.cons rfl (fun K hK=>?_) ?_;go_simp;refine hK _ _ ?_;clear hK K;rotate_left;exact AllReady.nil)))
   all_goals(try(go_at_call_of 205 (Value.string b2);refine(yR b2 _ _ (by unfold maxLen;omega) h2).mono ?_;rintro e w' ⟨rfl,rfl⟩;exact⟨rfl,rfl,HB.out.drew⟩))
   all_goals(try(go_wp2_with (go_at_call_of 205 (Value.string b1);refine(zW b1 _ _ (by unfold maxLen;omega) h1).mono ?_;rintro e w' ⟨rfl,rfl⟩)))
   all_goals(try(first|(refine wpAny_ready (rs:=[11]) (by decide +kernel) (by simp) ?_;refine AllReady.cons rfl (fun K hK=>?_) ?_;go_simp;rotate_left;exact AllReady.nil)|(refine wpAny_ready (rs:=[10]) (by decide +kernel) (by simp) ?_;refine AllReady.cons rfl (fun K hK=>?_) ?_;go_simp;refine hK _ _ ?_;clear hK K;rotate_left;exact AllReady.nil)|(refine wpAny_ready (rs:=[7]) (by decide +kernel) (by simp) ?_;refine AllReady.cons rfl (fun K hK=>?_) ?_;go_simp;rotate_left;exact AllReady.nil)|(refine wpAny_ready (rs:=[7,10]) (by decide +kernel) (by simp) ?_;refine AllReady.cons rfl (fun K hK=>?_) ?_;go_simp;rotate_left;refine AllReady.cons rfl (fun K hK=>?_) ?_;go_simp;refine hK _ _ ?_;clear hK K;rotate_left;exact AllReady.nil)|(refine wpAny_ready (rs:=[6]) (by decide +kernel) (by simp) ?_;refine AllReady.cons rfl (fun K hK=>?_) ?_;go_simp;refine hK _ _ ?_;clear hK K;rotate_left;exact AllReady.nil)|(refine wpAny_ready (rs:=[6,10]) (by decide +kernel) (by simp) ?_;refine AllReady.cons rfl (fun K hK=>?_) ?_;go_simp;refine hK _ _ ?_;clear hK K;rotate_left;refine AllReady.cons rfl (fun K hK=>?_) ?_;go_simp;refine hK _ _ ?_;clear hK K;rotate_left;exact AllReady.nil)))
   all_goals(try(go_at_call_of 205 (Value.string b2);refine(yR b2 _ _ (by unfold maxLen;omega) h2).mono ?_;rintro e w' ⟨rfl,rfl⟩;exact⟨rfl,rfl,HB.out.drew⟩))
   all_goals(try(go_wp2_with (go_at_call_of 205 (Value.string b1);refine(zW b1 _ _ (by unfold maxLen;omega) h1).mono ?_;rintro e w' ⟨rfl,rfl⟩)))
   all_goals(try(first|(refine wpAny_ready (rs:=[11]) (by decide +kernel) (by simp) ?_;refine AllReady.cons rfl (fun K hK=>?_) ?_;go_simp;rotate_left;exact AllReady.nil)|(refine wpAny_ready (rs:=[10]) (by decide +kernel) (by simp) ?_;refine AllReady.cons rfl (fun K hK=>?_) ?_;go_simp;refine hK _ _ ?_;clear hK K;rotate_left;exact AllReady.nil)|(refine wpAny_ready (rs:=[7]) (by decide +kernel) (by simp) ?_;refine AllReady.cons rfl (fun K hK=>?_) ?_;go_simp;rotate_left;exact AllReady.nil)|(refine wpAny_ready (rs:=[7,10]) (by decide +kernel) (by simp) ?_;refine AllReady.cons rfl (fun K hK=>?_) ?_;go_simp;rotate_left;refine AllReady.cons rfl (fun K hK=>?_) ?_;go_simp;refine hK _ _ ?_;clear hK K;rotate_left;exact AllReady.nil)|(refine wpAny_ready (rs:=[6]) (by decide +kernel) (by simp) ?_;refine AllReady.cons rfl (fun K hK=>?_) ?_;go_simp;refine hK _ _ ?_;clear hK K;rotate_left;exact AllReady.nil)|(refine wpAny_ready (rs:=[6,10]) (by decide +kernel) (by simp) ?_;refine AllReady.cons rfl (fun K hK=>?_) ?_;go_simp;refine hK _ _ ?_;clear hK K;rotate_left;refine AllReady.cons rfl (fun K hK=>?_) ?_;go_simp;refine hK _ _ ?_;clear hK K;rotate_left;exact AllReady.nil)))
   all_goals(try(go_at_call_of 205 (Value.string b2);refine(yR b2 _ _ (by unfold maxLen;omega) h2).mono ?_;rintro e w' ⟨rfl,rfl⟩;exact⟨rfl,rfl,HB.out.drew⟩))
   all_goals(try(go_wp2_with (go_at_call_of 205 (Value.string b1);refine(zW b1 _ _ (by unfold maxLen;omega) h1).mono ?_;rintro e w' ⟨rfl,rfl⟩)))
 ·have hl3:((bs.length:Int) != 3)=true:=by rw[bne_iff_ne];omega
  obtain⟨a,cap,rfl⟩:=hrd.shape;clear hrd hsp hbl HE;go_wp2_with fail
  refine(zA 1 _).mono ?_;rintro e w' ⟨rfl,rfl⟩;go_wp2;exact⟨rfl,rfl,HB.out⟩
def qmk(r:Option (List Tm.El))(B:Nat)(e:Ending)(w':World):Prop:=match r with
 | some es=>∃v,e=.returned v/\Reads w' v 4 es.length (qG es)/\(∀g,v.ownBlock=some g->B<=g)
 | none=>yU e 1
theorem qn7{r:Option (List Tm.El)}{B:Nat}{e:Ending}{w':World}(h:r=none)(he:yU e 1):qmk r B e w':=by subst h;exact he
theorem qlg(l:List Tm.El)(x:Tm.El):qG (l++[x])=qG l++yJ x:=by simp[qG]
theorem qih(vs:Value)(bs:List ByteArray)(w:World)(hr:Reads w vs 1 bs.length (bs.map Value.string))(hl:bs.length<=8193)(hz:∀b∈bs,b.size<=8192) :
  Calls Tryz.prog 207 #[vs] w fun e w'=>qmk (Tm.zB (lets bs)) w.heap.size e w'/\Below w.heap.size w w':=by
 obtain⟨a,cap,rfl⟩:=hr.shape;obtain⟨i0,hi,hz0,hz1,hz2⟩:=info_parts Tryz.qr8;have HR:=qb hr;have HZ:=qb hz;clear hr hz;go_enter Tryz.func207,Tryz.ntmps207
 go_wp2_with (at_make;go_must (refine wpList_make_own _ rfl _ _ 84 rfl w.heap.size 102 i0 (.agg #[.int .i64 0,.int .i64 0,.int .i64 0,.bool false]) 4 Tryz.underlying84 hi hz0 hz1 _ _ _ bs.length rfl rfl (by omega) (by rw[hz2];omega) (by unfold maxLen;omega) (Nat.le_refl _) ?_))
 intro w1 qp qdH;have hb1:Below w.heap.size w w1:=(Below.refl _ _).grown qdH (Nat.le_refl _) (fun k hk=>by cases hk);clear qdH;go_wp2_with fail
 go_loopw [3,11] (fun v i wr=>∃(k:Nat) (es:List Tm.El),k<=bs.length/\i=.int .i64 k/\es.length=k/\Tm.VQ (lets bs) 0 k es/\wr.ownsRow w.heap.size 102 4 v k (qG es)/\Below w.heap.size w wr) (fun _ i _=>bs.length-(intOf i).toNat)
 case atStart=>exact⟨0,[],Nat.zero_le _,rfl,rfl,Tm.Qn8 _ _,qp,hb1⟩
 case round =>
  obtain⟨k,es,hk,rfl,hek,qQ,j8,hb⟩:=hrel;obtain⟨av,cv,rfl⟩:=(Reads.qn j8).shape;have Qdd:=qb qQ;have HEK:=qb hek;have HB:=qb hb;have hzr:=hb.size;by_cases hlt:k<bs.length
  ·obtain⟨g,off,rfl,hg,hc⟩:=qg1 (HR.out.below hb HR.out.2.1) hlt;have hsk:=HZ.out _ (List.getElem_mem hlt)
   have hk':k<(lets bs).length:=by rw[jC];exact hlt
   have hgl:=qtA hlt hk'
   cases hel:Tm.elem bs[k].data.toList with
   | none =>
    have HNO:=qb (Tm.Qn9 qQ hk' (by rw[hgl];exact hel));have HEL:=qb hel;clear qQ hb qp hb1 hel hek hgl;go_wp2_with fail
    refine(qig bs[k] _ hsk HEL.out).mono ?_;rintro e w' ⟨rfl,hbw⟩;have HB2:Hid (Below w.heap.size w w'):=HB.out.trans (hbw.mono hzr);clear hbw;go_wp2;exact⟨rfl,qn7 HNO.out rfl,HB2.out⟩
   | some x =>
    have HST:=qb (Tm.Qml qQ hk' (by rw[hgl];exact hel));have HEL:=qb hel;clear qQ hb qp hb1 hel hek hgl;go_wp2_with fail
    refine(qh6 bs[k] _ hsk (by rw[HEL.out];rfl)).mono ?_;rintro e w2 ⟨qw,hbw⟩;rw[HEL.out]at qw;obtain rfl:e=_:=qw;have HB2:Hid (Below w.heap.size w w2):=HB.out.trans (hbw.mono hzr);have hzw:=hbw.size;have HO2:=qb (xE j8 hbw);clear hbw j8;go_wp2_with (at_builtin;go_must (refine wpList_append_own _ rfl _ _ 84 rfl w.heap.size 102 i0 (.agg #[.int .i64 0,.int .i64 0,.int .i64 0,.bool false]) 4 32 Tryz.underlying84 hi hz0 hz1 hz2 rfl (by decide) _ _ _ rfl (HO2.out.alloc _) ⟨w2.heap.size,0,none⟩ 1 1 (yJ x) rfl rfl (qsj (x:=x) rfl) (by intro u hu;simp[yJ]at hu;rcases hu with rfl|rfl|rfl|rfl<;>rfl) (by unfold maxLen;omega) (by omega) (by simp;omega) ?_))
    intro v' w3 zR qfY _;have HB3:Hid (Below w.heap.size w w3):=(HB2.out.alloc (by omega) _).grown qfY (by simp;omega) (fun j hj=>(HO2.out.lt j hj).1)
    have HO3:Hid (w3.ownsRow w.heap.size 102 4 v' (k+1) (qG (es++[x]))):=by unfold Hid;rw[qlg];exact zR
    clear zR qfY;go_wp2;go_roundw
    case rel=>exact⟨k+1,es++[x],by omega,by go_num,by simp[HEK.out],HST.out,HO3.out,HB3.out⟩
    case measure=>simp[intOf];omega
  ·have HF:Hid (qmk (Tm.zB (lets bs)) w.heap.size (.returned (.slice av k cv)) wr):=by
    have e1:=Tm.Qoa qQ (by rw[jC];omega);rw[List.drop_zero]at e1;unfold Hid;rw[e1];subst hek;exact⟨_,rfl,Reads.qn j8,fun g hg=>(j8.lt g hg).1⟩
   clear qQ hb qp hb1 j8 hek;go_wp2;go_ret;exact⟨HF.out,HB.out⟩
def qho(r:Option Tm.Ln)(B:Nat)(e:Ending)(w':World):Prop:=match r with
 | some l=>∃v1 v2,e=.returned (.agg #[v1,v2])/\Reads w' v1 1 l.qh.length (ints l.qh)/\(∀g,v1.ownBlock=some g->B<=g)/\Reads w' v2 4 l.els.length (qG l.els)/\(∀g,v2.ownBlock=some g->B<=g)
 | none=>yU e 1
theorem jg{r:Option Tm.Ln}{B:Nat}{e:Ending}{w':World}(h:r=none)(he:yU e 1):qho r B e w':=by subst h;exact he
theorem quh(h:k<bs.length)(he:bs[k].data.toList=[61]):lets bs=lets (bs.take k)++[61]::lets (bs.drop (k+1)):=by
 unfold lets
 conv=>lhs;rw[<-List.take_append_drop k bs,List.drop_eq_getElem_cons h]
 rw[List.map_append,List.map_cons,he]
theorem qsk(h:∀j (_:j<k) (hj:j<bs.length),bs[j].data.toList≠[61]): [61] ∉ lets (bs.take k):=by
 intro hm;unfold lets at hm;obtain⟨b,hb,he⟩:=List.mem_map.1 hm;obtain⟨j,hj,rfl⟩:=List.getElem_of_mem hb;rw[List.getElem_take]at he;exact h j (by simp at hj;omega) (by simp at hj;omega) he
theorem Reads.upto{w:World}{g off n cap:Nat}(h:Reads w (.slice (some ⟨g,off,none⟩) n cap) 1 bs.length (bs.map Value.string))(hk:k<=bs.length) :
  Reads w (.slice (some ⟨g,off,none⟩) k cap) 1 (bs.take k).length ((bs.take k).map Value.string):=by
 obtain⟨h1,hlt,a,z8,he,qV,hc⟩:=h;cases he
 have hlen:(bs.take k).length=k:=by simp;omega
 refine⟨by simp,fun g' hg'=>hlt g' (by simpa[Value.ownBlock]using hg'),_,_,by rw[hlen],⟨by omega,by omega⟩,fun j u hu=>?_⟩
 have hj:(bs.map Value.string)[j]?=some u:=by
  have:j<(bs.take k).length:=by
   by_cases e:j<(bs.take k).length
   ·exact e
   ·rw[List.getElem?_eq_none (by simpa using e)]at hu;cases hu
  rw[<-hu];simp only[List.getElem?_map,List.getElem?_take];rw[if_pos (by omega)]
 obtain⟨g',j0,he,zC⟩:=hc j u hj;cases he;exact⟨g,off,rfl,zC⟩
theorem Reads.behind{w:World}{g off n cap:Nat}(h:Reads w (.slice (some ⟨g,off,none⟩) n cap) 1 bs.length (bs.map Value.string))(hk:k<=bs.length) :
  Reads w (.slice (some ⟨g,off+k,none⟩) (bs.length-k) (cap-k)) 1 (bs.drop k).length ((bs.drop k).map Value.string):=by
 obtain⟨h1,hlt,a,z8,he,qV,hc⟩:=h;cases he
 have hlen:(bs.drop k).length=bs.length-k:=by simp
 refine⟨by simp,fun g' hg'=>hlt g' (by simpa[Value.ownBlock]using hg'),_,_,by rw[hlen],⟨by omega,by omega⟩,fun j u hu=>?_⟩
 have hj:(bs.map Value.string)[k+j]?=some u:=by
  rw[<-hu];simp only[List.getElem?_map,List.getElem?_drop]
 obtain⟨g',j0,he,zC⟩:=hc (k+j) u hj;cases he;exact⟨g,off+k,rfl,by rw[<-zC];congr 2;omega⟩
theorem qhX(vs:Value)(bs:List ByteArray)(n:Int)(w:World)(hr:Reads w vs 1 bs.length (bs.map Value.string))(hl:bs.length<=8193)(hz:∀b∈bs,b.size<=8192) :
  Calls Tryz.prog 192 #[vs] w fun e w'=>qho (Tm.qC n ([119]::lets bs)) w.heap.size e w'/\Below w.heap.size w w':=by
 have hb0:Below w.heap.size w (w.alloc (.cells #[.slice none 0 0,.slice none 0 0] 238)):=(Below.refl _ _).alloc (Nat.le_refl _) _;have HR:=qb (hr.below hb0 hr.2.1);have HB0:=qb hb0;have HZ:=qb hz;obtain⟨a,cap,rfl⟩:=hr.shape;clear hz hb0;go_enter Tryz.func192,Tryz.ntmps192
 go_wp2_with fail
 refine(Qsl _ bs ⟨#[61]⟩ _ HR.out (by omega)).mono ?_;rintro e w1 ⟨qw,rfl⟩;rcases qw with⟨k,hk,rfl,qxx,qdQ⟩|⟨rfl,hno⟩
 ·have qvV:bs[k].data.toList=[61]:=qxx;have qma:=quh hk qvV;have hfr:=qsk (k:=k) qdQ;have HP:=qb ((congrArg (fun x=>Tm.qC n ([119]::x)) qma).trans (Tm.qhj (n:=n) hfr));obtain⟨g,off,rfl,hg,_⟩:=qg1 hr hk;have qR:=hr.fits
  have hc2:cap<=9223372036854775807:=by have:=qR.2.2;unfold maxLen at this;omega
  have hc3:=qR.2.1;simp only[jC,List.length_take,List.length_drop]at HP;clear qxx qdQ qvV qma hfr hr qR;by_cases hk1:k<1
  ·have hd:decide ((k:Int)<1)=true:=by simp;omega
   have HN:Hid (Tm.qC n ([119]::lets bs)=none):=by unfold Hid;rw[HP.out,if_neg (by omega)]
   go_wp2_with fail
   refine(zA 1 _).mono ?_;rintro e w' ⟨rfl,rfl⟩;go_wp2;exact⟨rfl,jg HN.out rfl,HB0.out⟩
  have hd1:decide ((k:Int)<1)=false:=by simp;omega
  by_cases hk3:3<k
  ·have hd:decide (3<(k:Int))=true:=by simp;omega
   have HN:Hid (Tm.qC n ([119]::lets bs)=none):=by unfold Hid;rw[HP.out,if_neg (by omega)]
   go_wp2_with fail
   refine(zA 1 _).mono ?_;rintro e w' ⟨rfl,rfl⟩;go_wp2;exact⟨rfl,jg HN.out rfl,HB0.out⟩
  have hd3:decide (3<(k:Int))=false:=by simp;omega
  go_wp2_with fail
  refine(zl 1 _).mono ?_;rintro e w' ⟨rfl,rfl⟩;by_cases he0:bs.length=k+1
  ·have HN:Hid (Tm.qC n ([119]::lets bs)=none):=by unfold Hid;rw[HP.out,if_neg (by omega)]
   have hd:decide (((bs.length-(k+1):Nat):Int)<1)=true:=by simp;omega
   go_wp2_with fail
   all_goals
    refine(zA 1 _).mono ?_;rintro e w' ⟨rfl,rfl⟩;go_wp2;exact⟨rfl,jg HN.out rfl,HB0.out⟩
  have qV:¬cap=k+1:=by omega
  by_cases he4:4<bs.length-(k+1)
  ·have HN:Hid (Tm.qC n ([119]::lets bs)=none):=by unfold Hid;rw[HP.out,if_neg (by omega)]
   have hd:decide (((bs.length-(k+1):Nat):Int)<1)=false:=by simp;omega
   have hd':decide (4<((bs.length-(k+1):Nat):Int))=true:=by simp;omega
   go_wp2_with fail
   refine(zA 1 _).mono ?_;rintro e w' ⟨rfl,rfl⟩;go_wp2;exact⟨rfl,jg HN.out rfl,HB0.out⟩
  have hd:decide (((bs.length-(k+1):Nat):Int)<1)=false:=by simp;omega
  have hd':decide (4<((bs.length-(k+1):Nat):Int))=false:=by simp;omega
  have HR1:=qb (HR.out.upto (k:=k) (by omega));have HR2:=qb (HR.out.behind (k:=k+1) (by omega));have HZ1:Hid (∀b∈bs.take k,b.size<=8192):=fun b hb=>HZ.out b (List.mem_of_mem_take hb);have HZ2:Hid (∀b∈bs.drop (k+1),b.size<=8192):=fun b hb=>HZ.out b (List.mem_of_mem_drop hb)
  have hsz:w.heap.size<(w.alloc (.cells #[.slice none 0 0,.slice none 0 0] 238)).heap.size:=by simp
  have q0:(w.alloc (.cells #[.slice none 0 0,.slice none 0 0] 238)).cell? ⟨w.heap.size,0,none⟩=some (.slice none 0 0):=by rw[ql rfl];rfl
  have q1:(w.alloc (.cells #[.slice none 0 0,.slice none 0 0] 238)).cell? ⟨w.heap.size,1,none⟩=some (.slice none 0 0):=by rw[ql rfl];rfl
  have qf:∀o,(w.alloc (.cells #[.slice none 0 0,.slice none 0 0] 238)).frozen? ⟨w.heap.size,o,none⟩=false:=fun o=>by rw[zx rfl]
  go_wp2_with fail
  refine(zl 1 _).mono ?_;rintro e w1 ⟨rfl,rfl⟩;go_wp2_with fail
  refine(qfI _ (bs.take k) _ HR1.out (by simp;omega) HZ1.out).mono ?_;rintro e w1 ⟨qw,hb1⟩;unfold qbQ at qw;rw[qlL,qkm]at qw;cases ha:(lets (bs.take k)).all Tm.zN
  ·rw[ha]at qw;obtain rfl:e=_:=qw
   have HN:Hid (Tm.qC n ([119]::lets bs)=none):=by unfold Hid;rw[HP.out,if_neg (by rw[ha];simp)]
   have HB1:Hid (Below w.heap.size w w1):=HB0.out.trans (hb1.mono (by omega));clear hb1;go_wp2;exact⟨rfl,jg HN.out rfl,HB1.out⟩
  ·rw[ha]at qw;obtain⟨v1,rfl,jW,qf4⟩:=qw
   have HP2:Hid (Tm.qC n ([119]::lets bs)=(Tm.zB (lets (bs.drop (k+1)))).map fun es=>⟨[119],(lets (bs.take k)).map Tm.num,es,n⟩):=by unfold Hid;rw[HP.out,if_pos ⟨ha,by omega,by omega,by omega,by omega⟩]
   have HB1:Hid (Below w.heap.size w w1):=HB0.out.trans (hb1.mono (by omega));have hs1:=hb1.size;have HR3:=qb (HR2.out.below hb1 HR2.out.2.1)
   have p0:w1.cell? ⟨w.heap.size,0,none⟩=some (.slice none 0 0):=by rw[hb1.cell (p:=⟨w.heap.size,0,none⟩) hsz];exact q0
   have p1:w1.cell? ⟨w.heap.size,1,none⟩=some (.slice none 0 0):=by rw[hb1.cell (p:=⟨w.heap.size,1,none⟩) hsz];exact q1
   have pf:∀o,w1.frozen? ⟨w.heap.size,o,none⟩=false:=fun o=>by rw[hb1.frozen (p:=⟨w.heap.size,o,none⟩) hsz];exact qf o
   have QcF:=qb jW;have QzP:=qb qf4;clear hb1 jW qf4 ha;go_wp2_with fail
   refine(qih _ (bs.drop (k+1)) _ HR3.out (by simp;omega) HZ2.out).mono ?_;rintro e w2 ⟨qw,hb2⟩
   cases hel:Tm.zB (lets (bs.drop (k+1)))with
   | none =>
    rw[hel]at qw;obtain rfl:e=_:=qw
    have HN:Hid (Tm.qC n ([119]::lets bs)=none):=by unfold Hid;rw[HP2.out,hel];rfl
    have HB2:Hid (Below w.heap.size w w2):=HB1.out.trans (hb2.mono (by omega));clear hb2 hel;go_wp2;exact⟨rfl,jg HN.out rfl,HB2.out⟩
   | some es =>
    rw[hel]at qw;obtain⟨v2,rfl,qef,qlX⟩:=qw
    have HN:Hid (Tm.qC n ([119]::lets bs)=some ⟨[119],(lets (bs.take k)).map Tm.num,es,n⟩):=by unfold Hid;rw[HP2.out,hel];rfl
    have HB2:Hid (Below w.heap.size w w2):=HB1.out.trans (hb2.mono (by omega))
    have qmm:w.heap.size<w1.heap.size:=by omega
    have hs2:=hb2.size
    have t0:w2.cell? ⟨w.heap.size,0,none⟩=some (.slice none 0 0):=by rw[hb2.cell (p:=⟨w.heap.size,0,none⟩) qmm];exact p0
    have t1:w2.cell? ⟨w.heap.size,1,none⟩=some (.slice none 0 0):=by rw[hb2.cell (p:=⟨w.heap.size,1,none⟩) qmm];exact p1
    have tf:∀o,w2.frozen? ⟨w.heap.size,o,none⟩=false:=fun o=>by rw[hb2.frozen (p:=⟨w.heap.size,o,none⟩) qmm];exact pf o
    have Qmn:=qb qef;have QzQ:=qb qlX;have Qei:=qb (QcF.out.below hb2 QcF.out.2.1)
    have HK2:Hid (∀(x y:Value) (g:Nat),w.heap.size+1<=g->((w2.setCell ⟨w.heap.size,0,none⟩ x).setCell ⟨w.heap.size,1,none⟩ y).heap[g]?=w2.heap[g]?):=fun x y g hg=>by
     rw[Below.heap_setCell _ _ _ _ (by simp;omega),Below.heap_setCell _ _ _ _ (by simp;omega)]
    have HBa:Hid (∀g,v1.ownBlock=some g->w.heap.size+1<=g):=fun g hg=>by have:=QzP.out g hg;simpa using this
    have HBb:Hid (∀g,v2.ownBlock=some g->w.heap.size+1<=g):=fun g hg=>by have:=QzQ.out g hg;omega
    have QzR:Hid (Reads ((w2.setCell ⟨w.heap.size,0,none⟩ v1).setCell ⟨w.heap.size,1,none⟩ v2) v1 1 ((lets (bs.take k)).map Tm.num).length (ints ((lets (bs.take k)).map Tm.num))):=by
     have:=Qei.out.jI (w':=(w2.setCell ⟨w.heap.size,0,none⟩ v1).setCell ⟨w.heap.size,1,none⟩ v2) (by simp[World.setCell]) (fun g hg=>HK2.out _ _ g (HBa.out g hg));unfold Hid;rw[List.length_map,jC];exact this
    have QzS:Hid (Reads ((w2.setCell ⟨w.heap.size,0,none⟩ v1).setCell ⟨w.heap.size,1,none⟩ v2) v2 4 es.length (qG es)) :=
     Qmn.out.jI (by simp[World.setCell]) (fun g hg=>HK2.out _ _ g (HBb.out g hg))
    have HBF:Hid (Below w.heap.size w ((w2.setCell ⟨w.heap.size,0,none⟩ v1).setCell ⟨w.heap.size,1,none⟩ v2)):=(HB2.out.setCell (p:=⟨w.heap.size,0,none⟩) (Nat.le_refl _) _).setCell (p:=⟨w.heap.size,1,none⟩) (Nat.le_refl _) _;obtain⟨ln,hln⟩:∃ln,(bs.take k).length=ln:=⟨_,rfl⟩
    have QzT:Hid (Reads w1 v1 1 ln (ints ((lets (bs.take k)).map Tm.num))):=by unfold Hid;rw[<-hln];exact QcF.out
    clear hln;obtain⟨a1,qX,rfl⟩:=QzT.out.shape;obtain⟨a2,zD,rfl⟩:=Qmn.out.shape;clear hb2 hel qef qlX;go_wp2;refine bodyPost_ret (v:=.agg #[.slice a1 ln qX,.slice a2 es.length zD]) (by simp[results,Tryz.results192,go_sem,t0,t1]) rfl ⟨?_,HBF.out⟩;rw[HN.out];exact⟨_,_,rfl,QzR.out,fun g hg=>by have:=HBa.out g hg;omega,QzS.out,fun g hg=>by have:=HBb.out g hg;omega⟩
 ·have qxy: [61] ∉ lets bs:=by
   intro hm;unfold lets at hm;obtain⟨b,hb,he⟩:=List.mem_map.1 hm;obtain⟨j,hj,rfl⟩:=List.getElem_of_mem hb;exact hno j hj he
  have HN:=qb (Tm.qez (n:=n) qxy);clear hno qxy hr;go_wp2_with fail
  refine(zA 1 _).mono ?_;rintro e w' ⟨rfl,rfl⟩;go_wp2;exact⟨rfl,jg HN.out rfl,HB0.out⟩
