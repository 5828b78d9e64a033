/- Loaded is true for every table of the statement, every option and every two lists of entries whose bulk together is at most 1048576, under every schedule of the goroutines that Load starts: behind the same Puts and Deletes on two indexes of one table Load answers, of each entry, what Put answers, and makes the same index (P12). -/
import Derived.Conc.LeavingOf
import Derived.Test.YtmnjjjhmnhfapaaGreatDoorMCardEnts
namespace Go.Proofs.YtmnjjjhmnhfapaaGreatDoor
set_option maxRecDepth 100000
open Go.ChangeShapes Go.WideShapes Go.ChangeAt Go.RowKit
open Go.ChangeMaps (open_string shut_string)
variable {W:World}{a:Option Addr}
theorem qs1{H:Type}{enc:TypeId×Value->H}{k c:Nat}{d:DataW H}{ps:List MemPlace}(h:DataW.Trod enc Tryz.prog W 0 (fun _=>true) true 50 (.slice a k c) d ps):k<=Rows.uptoBulk d:=by
 obtain⟨n,hn⟩:=h;rcases Deep.open_slice Tryz.underlying50 hn with⟨h1,h2⟩|⟨a,len,cap,m,k,D,Pl,h1,_,hl,hm,hmm,h2,hx⟩
 ·simp[Value.cells]at h1;obtain⟨rfl,rfl,rfl⟩:=h1;exact Nat.zero_le _
 ·simp[Value.cells]at h1;obtain⟨rfl,rfl,rfl⟩:=h1;injection h2 with h2 _;subst h2;simp only[Rows.uptoBulk];refine Nat.le_trans ?_ (Nat.le_trans (Nat.le_add_right _ _) (Nat.le_add_right _ _));refine Nat.le_trans ?_ (qnM _);simp
theorem qjf{base:Nat}{k c:Nat}(hv:Value.okWide Tryz.prog W .any base 50 (.slice a k c)):∀g,(Value.slice a k c).ownBlock=some g->∃cs e f,W.heap[g]?=some (.cells cs e f):=by
 intro g hg
 cases a with
 | none=>cases hg
 | some a =>
  have hga:a.block=g:=by simpa[Value.ownBlock]using hg
  subst hga;unfold Value.okWide at hv;rw[Tryz.underlying50]at hv;unfold Cell.okWide at hv;simp only[Tryz.underlying50]at hv;unfold Cell.ok at hv;rw[Tryz.underlying50]at hv;obtain⟨_,_,_,_,row,cells,hs,_⟩:=hv;unfold World.shape? at hs
  cases ho:W.heap[a.block]? with
  | none=>rw[ho]at hs;cases hs
  | some o =>
   rw[ho]at hs
   cases o with
   | cells c e f=>exact⟨c,e,f,rfl⟩
   | _=>cases hs
theorem qow:((List.range Tryz.prog.globals.size).all fun g=>(((begin Tryz.prog (fun _ _=>0) default).world.heap[g]?).bind Obj.row?).isSome)=true:=by kernel_rfl
theorem qox(h:W.ShapedOpen Tryz.prog):∀g,g<Tryz.prog.globals.size->∃cs e f,W.heap[g]?=some (.cells cs e f):=fun g hg=>by
 have:=List.all_eq_true.1 qow g (by simpa using hg);obtain⟨⟨z,t⟩,hz⟩:=Option.isSome_iff_exists.1 this;obtain⟨cs,q,_⟩:=h.1 g z t hg hz;exact⟨cs,t,_,q⟩
theorem qll{p:Pinned}{s:OpenSpec}{c:OpenClaim}(f:FuncId)(fn:Func)(hn:c.program=p.name)(hs:c.sum=p.sum)(hsp:c.spec=s.name)(qgI:c.start=.entering)(qq3:c.outside=[])(hin:c.inits=[])(hun:c.under=none)(hi4:c.initsInPlace=[]/\c.initsUnfollowed=false/\c.initsRecurse=false/\c.initsNamed=[]/\c.initsPassed=[])(hnb:c.noBlocks=false)(hlv:c.leaving=true)(hfo:c.followed=none)(qAq:c.narrowed=s.cond.isSome)(qx1:c.still=false)
  (hfn:p.checked.prog.funcNamed c.func=some f) (hf:p.checked.prog.funcs[f]?=some fn) (closed:joinedFacts p.checked.prog f fn s.bare c=true) (qyV:fn.isInstance p.checked.prog c.origin c.targs) (qyW:fn.isWrapper p.checked.prog c.wrapper c.mainSum)
  (h:∀os:Os,os.Started->∀(H:Type) (enc:TypeId×Value->H),(∀a b,enc a=enc b->a=b)->∀F:Stop.Interp,ReturnsInLeavingWide c.assume p.checked os f .any (c.pre enc p.checked.prog fn s) ((s.at F).post enc p.checked.prog fn c.apart c.fresh c.handsOn c.again)):c.holds p s:=by
 simp only[joinedFacts,Bool.and_eq_true,beq_iff_eq,Array.all_eq_true_iff_forall_mem,List.all_eq_true,decide_eq_true_eq]at closed;obtain⟨⟨⟨⟨⟨⟨⟨⟨⟨⟨⟨⟨⟨⟨⟨⟨⟨⟨⟨⟨⟨⟨⟨⟨⟨⟨⟨⟨⟨⟨⟨k1,k2⟩,k3⟩,k4⟩,k5⟩,k6⟩,k7⟩,k8⟩,k9⟩,k10⟩,k11⟩,k12⟩,k13⟩,k14⟩,k15⟩,k16⟩,k17⟩,qAr⟩,k18⟩,k19⟩,k20⟩,k21⟩,k22⟩,k23⟩,qAs⟩,k24⟩,qAt⟩,qAu⟩,k25⟩,k26⟩,k27⟩,k28⟩:=closed
 have hq:∀os:Os,Stop.quiet p.checked.prog os:=fun os k hk=>by rw[k9]at hk;cases hk
 refine⟨k1,hn,hs,hsp,k2,k3,by unfold OpenClaim.startFits;rw[qgI];exact k24,by unfold OpenClaim.startTold;rw[qgI];exact⟨hin,hun,hi4⟩,f,fn,hfn,hf,⟨k4,k19⟩,(fun hb=>by rw[hnb]at hb;cases hb),by unfold OpenClaim.namedList;rw[hfo];exact k5,qyV,qyW,
  k6.trans k7.symm,⟨k8.trans k9.symm,by unfold Program.envWorded;rw[k9];rfl,qAs⟩,k10,k11,k12,k13,k14,⟨k15,k27,k28⟩,⟨k16,k20⟩,⟨k17,k21,k25,k26⟩,⟨k22,qAt,qAu,qAr⟩,(by rw[qq3,qAq];cases hsh:c.shortTexts with|none=>simp|some _=>rw[hsh]at k23;cases k23),fun n hn'=>varReadable_some (k18 n hn'),
  ⟨_,by unfold OpenClaim.world;rw[qq3,qgI];exact WideRow.started_initial,hq _⟩,[],by unfold OpenClaim.lists;rw[hfo],fun os st _ H enc inj=>?_⟩
 have st':os.Started:=by unfold OpenClaim.world at st;rw[qq3,qgI]at st;exact st
 rw[OpenClaim.post_not_still qx1];unfold OpenClaim.form;rw[qgI,k6];intro F
 have e1:c.okInput=Input.okWide:=by unfold OpenClaim.okInput;rw[hnb]
 have e2:c.atReturn p.checked.prog=leavingAtReturn p.checked.prog:=by unfold OpenClaim.atReturn;rw[hlv]
 have e3:c.always p.checked.prog []=nothingAlways:=by unfold OpenClaim.always;rw[hfo]
 have e4:s.post enc p.checked.prog fn F c.outside c.apart c.fresh c.handsOn c.again=(s.at F).post enc p.checked.prog fn c.apart c.fresh c.handsOn c.again:=by rw[qq3];rfl
 rw[e1,e2,e3];show ReturnsInOpen _ _ _ _ _ _ _ _ (s.post enc p.checked.prog fn F c.outside c.apart c.fresh c.handsOn c.again) _ _;rw[e4];exact h os st' H enc inj F k24
theorem qlm(os:Os)(started:os.Started)(H:Type)(enc:TypeId×Value->H)(F:Stop.Interp) :
  ReturnsInLeavingWide {} Tryz.checked os 9 .any ((Rows.OpenSpec.upto Rows.loadedSpec).preRow enc Tryz.prog Tryz.f9 Rows.loadedUptoRow.domain false Rows.loadedUptoRow.laid) (((Rows.OpenSpec.upto Rows.loadedSpec).at F).post enc Tryz.prog Tryz.f9 false true false false):=by
 have hx:∃places,DataW.whole enc Tryz.prog ((World.laidAll Tryz.prog os Rows.loadedUptoRow.laid).forCall (fun _ _=>0) ⟨#[],#[(.int .i64 0:Value),.int .i64 0,.bool false,.slice none 0 0,.slice none 0 0],[]⟩).memory Tryz.f9.params.toList Rows.loadedSpec.vars false #[(.int .i64 0:Value),.int .i64 0,.bool false,.slice none 0 0,.slice none 0 0].toList 8=some ([.lit (.int .i64 0),.lit (.int .i64 0),.lit (.bool false),.nil,.nil],[],places):=⟨[],by kernel_rfl⟩
 obtain⟨places,hx⟩:=hx
 refine returnsInLeavingWide_of_good own started
  (qfX (enc:=enc) (C:=Tryz.checked) false (World.laidAll Tryz.prog os Rows.loadedUptoRow.laid) #[(.int .i64 0:Value),.int .i64 0,.bool false,.slice none 0 0,.slice none 0 0] (World.laidAll_os _ _ _)
   (World.shaped_of_ZipB (by kernel_rfl) (by kernel_rfl)) (by kernel_rfl)
   (OpenSpec.preRow_of_cond 8 hx (by kernel_rfl) (fun k hk=>by cases hk;kernel_rfl) (by kernel_rfl)
    (by rw[MakeChecks.laidMetH_plain _ _ _ (by kernel_rfl)];exact laidMet_laidAll _ (by kernel_rfl) (by kernel_rfl)))) ?_
 intro w tape i _ hsh _ qAv yO _;obtain⟨_,_,_,fn',qeV,_,_,_,_,qyX⟩:=qAv;have e:fn'=Tryz.f9:=Option.some.inj (qeV.symm.trans Tryz.func9);subst e;obtain⟨⟨hp,hl⟩,hz⟩:=yO;obtain⟨ds,gs,before,hw,hc,qyY⟩:=OpenSpec.pre_parts hp;have hW:=DataW.Whole.of_heap (w':=w.forCall tape i) (by rfl) hw;generalize hWW:w.forCall tape i=W at *;generalize w.heap.size=base at *;generalize i.args=args at *;have qgJ:∀(j:Nat) t v,Tryz.f9.params[j]?=some t->args[j]?=some v->Value.okWide Tryz.prog W .any base t v:=qyX;have hW':=hW;obtain⟨p,q,hA0,hV,rfl,_,_⟩:=hW;have hA:DataW.TrodAll enc Tryz.prog W 0 (fun _=>true) true Tryz.f9.params.toList args.toList ds p:=hA0;rw[Tryz.params9]at hA qgJ;obtain⟨v0,vs0,d0,ds0,p0,q0,qjg,rfl,rfl,h0,k0⟩:=trodAll_cons hA;obtain⟨v1,vs1,d1,ds1,p1,q1,rfl,rfl,rfl,h1,k1⟩:=trodAll_cons k0;obtain⟨v2,vs2,d2,ds2,p2,q2,rfl,rfl,rfl,h2,k2⟩:=trodAll_cons k1;obtain⟨v3,vs3,d3,ds3,p3,q3,rfl,rfl,rfl,h3,k3⟩:=trodAll_cons k2;obtain⟨v4,vs4,d4,ds4,p4,q4,rfl,rfl,rfl,h4,k4⟩:=trodAll_cons k3;obtain⟨rfl,rfl,rfl⟩:=trodAll_nil k4
 obtain rfl:args=#[v0,v1,v2,v3,v4]:=by cases args;simp_all
 obtain⟨rfl,rfl⟩:=trodVars_none hV;obtain⟨a0,rfl,rfl,rfl,w0⟩:=open_int Tryz.underlying3 (qgJ 0 3 v0 rfl rfl) h0;have r0:=bounds_i64 w0;obtain⟨a1,rfl,rfl,rfl,w1⟩:=open_int Tryz.underlying3 (qgJ 1 3 v1 rfl rfl) h1;have r1:=bounds_i64 w1;obtain⟨a2,rfl,rfl,rfl⟩:=open_bool Tryz.underlying4 (qgJ 2 4 v2 rfl rfl) h2;obtain⟨a3,t3⟩:=qkl (qgJ 3 50 v3 rfl rfl) h3;obtain⟨a4,t4⟩:=qkl (qgJ 4 50 v4 rfl rfl) h4;obtain⟨al,vW,rfl,_⟩:=id t3;obtain⟨am,yj,rfl,_⟩:=id t4;have hk:=qwj (qyY _ rfl);have hb4:=qs1 h4;simp only[List.append_nil]at hk;simp only[Rows.uptoBulkAll]at hk;have hgl:=qox hsh
 have hgs:Tryz.prog.globals.size<=W.heap.size:=by
  have qje:Tryz.prog.globals.size-1<Tryz.prog.globals.size:=by decide +kernel
  obtain⟨c,e,f,hq⟩:=hgl _ qje;have:=(Array.getElem?_eq_some_iff.1 hq).1;omega
 have h3g:3<=Tryz.prog.globals.size:=by decide +kernel
 simp only[List.append_nil]at hW';obtain⟨N,last,o,w',t',g1,g2,g3,g4⟩:=Sim.qpv a0 a1 a2 a3 a4 al am vW yj W r0 r1 (fun g hg=>hgl g (by omega)) hgs (qjf (qgJ 3 50 _ rfl rfl)) (qjf (qgJ 4 50 _ rfl rfl)) t3 t4 (by omega);refine⟨N,last,o,w',t',g1,g2,g3,g4.mono fun v hF=>?_⟩;obtain⟨rfl,hbl⟩:=hF;refine ChangeSpec.post_blind ?_;exact⟨_,_,_,[],_,[],hW',trodAll_mk1 (shut_bool Tryz.underlying4 _),qpy hbl (by rw[Tryz.params9];decide +kernel) hA0,rfl,hbl.frame _,fun h=>by cases h⟩
theorem qna:Rows.LoadedUptoSaid :=
 qll 9 Tryz.f9 rfl rfl rfl rfl rfl rfl rfl ⟨rfl,rfl,rfl,rfl,rfl⟩ rfl rfl rfl rfl rfl (by kernel_rfl) Tryz.func9 (by kernel_rfl)
  (of_decide_eq_true (by kernel_rfl)) (by unfold Func.isWrapper;first|(rw[if_pos (by decide +kernel)];kernel_rfl)|(rw[if_neg (by decide +kernel)];exact⟨rfl,rfl⟩))
  (fun os started H enc _ F=>by rw[OpenClaim.pre_eq_preRow];exact qlm os started H enc F)
theorem loaded_upto_card_said:Rows.LoadedUptoCardSaid:=by
 unfold Rows.LoadedUptoCardSaid Rows.loadedUptoCard
 exact qrN .later _ _ _ _
  qna (by kernel_rfl) loadedUpto_row_tie rfl ⟨rfl,rfl⟩ (by kernel_rfl) rfl
  (fun f fn hf hfn=>by
   obtain rfl:f=9:=Option.some.inj ((show Tryz.prog.funcNamed Rows.loadedUptoRow.func=some 9 by kernel_rfl).symm.trans hf) |>.symm;obtain rfl:fn=Tryz.f9:=(Option.some.inj (Tryz.func9.symm.trans hfn)).symm
   exact⟨by kernel_rfl,fun j t ht=>by
    rw[Tryz.params9]at ht;have hm:t∈[3,3,4,50,50]:=List.mem_of_getElem? (l:=[3,3,4,50,50]) (by simpa using ht)
    have qQ:([3,3,4,50,50].all fun u=>!Tryz.prog.wantsStandIn u)=true:=by kernel_rfl
    exact(show Tryz.prog.wantsStandIn t=false by simpa using List.all_eq_true.1 qQ t hm)⟩)
  (by kernel_rfl)
#print axioms loaded_upto_card_said
