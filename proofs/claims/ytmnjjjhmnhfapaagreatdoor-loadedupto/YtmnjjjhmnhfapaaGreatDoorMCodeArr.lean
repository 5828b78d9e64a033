import Derived.Test.YtmnjjjhmnhfapaaGreatDoorMCodeParts
namespace Go.Proofs.YtmnjjjhmnhfapaaGreatDoor
set_option maxRecDepth 100000
set_option maxHeartbeats 4000000
open Go.RowKit
variable {w:World}{g n cap:Nat}{p s r:List Int}
theorem qdK{base:Nat}{xs:List Int}(h:w.ownsRow base 3 1 (.slice (some ⟨g,0,none⟩) n cap) n (ints xs)):Qo w g 0 xs:=by
 intro j x hj;rcases h.2 with⟨he,_⟩|⟨g',z8,cur,he,hb,hg,h1,h2,h3,h4⟩
 ·cases he
 ·cases he
  have hx:(ints xs)[j]?=some (.int .i64 x):=by simp[ints,hj]
  have hlen:=h.1
  have hjl:j<n * 1:=by
   have:=(List.getElem?_eq_some_iff.1 hx).1;omega
  have hc:cur[j]?=some (.int .i64 x):=by
   rw[<-h4,List.getElem?_take,if_pos (by omega)]at hx;simpa using hx
  constructor
  ·rw[cell_of_row _ _ _ cur _ (0,0) hg];simpa using hc
  ·simp[World.frozen?,hg]
theorem qnO{w':World}{base off k:Nat}{xs ys:List Int}(h:w.ownsRow base 3 1 (.slice (some ⟨g,0,none⟩) n cap) n (ints xs))(ht:Zv g off k w w')(hi:Qo w' g 0 ys)(hl:ys.length=xs.length):w'.ownsRow base 3 1 (.slice (some ⟨g,0,none⟩) n cap) n (ints ys):=by
 have hlen:=h.1;refine⟨by rw[zw]at hlen⊢;omega,?_⟩;rcases h.2 with⟨he,_⟩|⟨g',z8,cur,he,hb,hg,h1,h2,h3,h4⟩
 ·cases he
 ·cases he;obtain⟨qaT,c1,c2,_⟩:=ht.cells cur _ _ hg;refine .inr ⟨g,cap,qaT,rfl,hb,c1,h1,h2,by rw[c2];exact h3,?_⟩;apply List.ext_getElem?;intro j;rw[List.getElem?_take];split
  ·rename_i hj
   have hjy:j<ys.length:=by rw[zw]at hlen;omega
   have hc:=(hi.at hjy).1;rw[cell_of_row _ _ _ qaT _ (0,0) c1]at hc;rw[qlT hjy];simpa using hc
  ·rename_i hj;rw[List.getElem?_eq_none (by rw[zw]at hlen⊢;omega)]
theorem Qo.sub(h:Qo w g 0 (p++s++r)):Qo w g p.length s:=by
 intro j x hj;have hjl:=(List.getElem?_eq_some_iff.1 hj).1;have:=h (p.length+j) x (by rw[List.append_assoc,List.getElem?_append_right (by omega),List.getElem?_append_left (by omega)];rw[show p.length+j-p.length=j from by omega];exact hj);rw[Nat.zero_add]at this;exact this
theorem Qo.qw8{w':World}{s':List Int}{cur:Array Value}{e:TypeId}(hg:w.heap[g]?=some (.cells cur e (0,0)))(h:Qo w g 0 (p++s++r))(ht:Zv g p.length s.length w w')(hs:Qo w' g p.length s')(hl:s'.length=s.length):Qo w' g 0 (p++s'++r):=by
 obtain⟨qaT,c1,c2,c3⟩:=ht.cells cur _ _ hg;intro j x hj
 have hfz:w'.frozen? ⟨g,0+j,none⟩=false:=by simp[World.frozen?,c1]
 refine⟨?_,hfz⟩;by_cases h1:j<p.length
 ·rw[List.append_assoc,List.getElem?_append_left h1]at hj;have h0:=(h j x (by rw[List.append_assoc,List.getElem?_append_left h1];exact hj)).1;rw[cell_of_row _ _ _ cur _ (0,0) hg]at h0;rw[cell_of_row _ _ _ qaT _ (0,0) c1,c3 _ (by omega)];exact h0
 ·by_cases h2:j<p.length+s.length
  ·rw[List.append_assoc,List.getElem?_append_right (by omega),List.getElem?_append_left (by omega)]at hj;have h0:=(hs (j-p.length) x hj).1;rw[show p.length+(j-p.length)=0+j from by omega]at h0;exact h0
  ·rw[List.getElem?_append_right (by simp;omega)]at hj;have h0:=(h j x (by rw[List.getElem?_append_right (by simp;omega)];rw[<-hj];simp[hl])).1;rw[cell_of_row _ _ _ cur _ (0,0) hg]at h0;rw[cell_of_row _ _ _ qaT _ (0,0) c1,c3 _ (by omega)];exact h0
theorem qlU{base:Nat}{xs:List Value}(h:w.ownsRow base 3 1 (.slice (some ⟨g,0,none⟩) n cap) n xs):base<=g/\n<=cap/\cap<=maxLen/\∃cur,w.heap[g]?=some (.cells cur 3 (0,0)):=by
 rcases h.2 with⟨he,_⟩|⟨g',z8,cur,he,hb,hg,h1,h2,_⟩
 ·cases he
 ·cases he;exact⟨hb,h1,h2,cur,hg⟩
theorem qlV(lns:List Tm.Ln)(bm base g n cap z8:Nat)(p b c:List Int)(w:World){F K:Nat}(hF:F=p.length)(hK:K=b.length)(qp:w.ownsRow base 3 1 (.slice (some ⟨g,0,none⟩) n cap) n (ints (p++b++c)))(hm:∀x∈b,Tm.qd lns x≠0)(hR:∀x∈b,0<=x/\x<=1114111)(hN:NB lns bm base w)(hlen:n<=100000) :
  Calls Tryz.prog 165 #[.slice (some ⟨g,F,none⟩) K z8,qE bm] w fun e w'=>e=.returned (.tuple #[])/\w'.ownsRow base 3 1 (.slice (some ⟨g,0,none⟩) n cap) n (ints (p++Tm.ord (Tm.qd lns) b++c))/\Below base w w':=by
 subst hF hK;obtain⟨hbg,hnc,hcm,cur,qzi⟩:=qlU qp;have hl:=qp.1;rw[zw]at hl
 have hbl:b.length<=100000:=by simp at hl;omega
 have hC:Cmp lns bm g w:=by
  obtain⟨w0,h1,h2,h3⟩:=hN.base;exact⟨w0,h1,h2,by omega⟩
 refine(Qf3 lns bm b g p.length b.length z8 w rfl hbl hR (qdK qp).sub hC).mono ?_;rintro e w' ⟨rfl,⟨s,hso,hI⟩,hT⟩;have hs:=hso.qw9 hm;subst hs;have hsl:(Tm.ord (Tm.qd lns) b).length=b.length:=Tm.qcS _ _;have hI2:=Qo.qw8 qzi (qdK qp) hT hI hsl;exact⟨rfl,qnO qp hT hI2 (by simp[hsl]),hT.below (Below.refl _ _) hbg⟩
theorem qnP(lns:List Tm.Ln)(qR:∀o∈lns,Tm.Fit o)(bm base g cap:Nat)(xs:List Int)(w:World)(hR:∀x∈xs,0<=x/\x<=1114111)(hN:NB lns bm base w)(qp:w.ownsRow base 3 1 (.slice (some ⟨g,0,none⟩) xs.length cap) xs.length (ints xs))(jl:base<=w.heap.size)(hlen:xs.length<=100000) :
  Calls Tryz.prog 130 #[.map (some bm),.slice (some ⟨g,0,none⟩) xs.length cap] w fun e w'=>e=.returned (.tuple #[])/\w'.ownsRow base 3 1 (.slice (some ⟨g,0,none⟩) xs.length cap) xs.length (ints (Tm.ord (Tm.qd lns) xs))/\Below base w w':=by
 have hmf:∀(fn:Fn) (first cap:Array Value) (w:World),(Instr.makeFunc fn first cap).run Tryz.prog w=.ok (.func fn first cap) w:=fun _ _ _ _=>rfl;obtain⟨hbg,hnc,hcm,_⟩:=qlU qp;unfold maxLen at hcm;have hf1:=qiH;have HR:=qb hR;have HN:=qb hN;have VC:=qb qp;have HKN:=qb (Tm.qey qR);obtain⟨n,hn⟩:∃n,xs.length=n:=⟨_,rfl⟩
 rw[hn]at VC hnc hlen;rw[hn];have HXN:=qb hn;have HBC:Hid (qE bm=.func (.func 166) #[.map (some bm)] #[]):=rfl;clear hR hN qp hn;go_enter Tryz.func130,Tryz.ntmps130
 go_wp2;go_loopw [4,9] (fun vf vi wr=>∃(a b c:List Int) (fi ii:Nat),vf=.int .i64 (fi:Int)/\vi=.int .i64 (ii:Int)/\a.length=fi/\fi+b.length=ii/\xs=a++b++c/\(∀x∈b,Tm.qd lns x≠0)/\(∀q,Tm.ord (Tm.qd lns) (a++q)=Tm.ord (Tm.qd lns) a++Tm.ord (Tm.qd lns) q)/\wr.ownsRow base 3 1 (.slice (some ⟨g,0,none⟩) n cap) n (ints (Tm.ord (Tm.qd lns) a++b++c))/\Below base w wr) (fun _ vi _=>n-(intOf vi).toNat)
 case atStart=>exact⟨[],[],xs,0,0,rfl,rfl,rfl,rfl,rfl,by simp,fun q=>rfl,VC.out,Below.refl _ _⟩
 case round =>
  obtain⟨a,b,c,fi,ii,rfl,rfl,hfi,hii,hx,hbm,qxa,yx,hb2⟩:=hrel;have HX:=qb hx;have HBM:=qb hbm;have QpL:=qb qxa;have HO2:=qb yx;have HB2:=qb hb2;have HFI:=qb hfi;have hz2:=hb2.size
  have hnl:ii+c.length=n:=by have h:=HXN.out;rw[hx]at h;simp at h;omega
  have hal:(Tm.ord (Tm.qd lns) a).length=fi:=by rw[Tm.qcS,hfi]
  have HAL:=qb hal;clear hx hbm qxa yx hb2 hfi hal
  cases c with
  | nil =>
   have hin:ii=n:=by simpa using hnl
   have hbb:Tm.ord (Tm.qd lns) xs=Tm.ord (Tm.qd lns) a++Tm.ord (Tm.qd lns) b:=by rw[HX.out,List.append_nil];exact QpL.out b
   have HBB:=qb hbb
   have hd:decide ((ii:Int)<(n:Int))=false:=by simp<;>omega
   clear hbb;by_cases hcf:cap=fi
   ·have hb0:b=[]:=List.eq_nil_of_length_eq_zero (by omega);subst hb0
    have hfn:fi=n:=by simp at hii;omega
    have HF:Hid (wr.ownsRow base 3 1 (.slice (some ⟨g,0,none⟩) n cap) n (ints (Tm.ord (Tm.qd lns) xs))):=by unfold Hid;rw[HBB.out];have h:=HO2.out;simpa[Tm.ord]using h
    go_wp2_with fail
    refine(QbM _ _ _ _).mono ?_;rintro e w3 ⟨rfl,rfl⟩;go_wp2;go_end0;exact⟨rfl,HF.out,HB2.out⟩
   ·have hfc:fi<=cap:=by omega
    have ZZ:=qb (qlV lns bm base g n cap (cap-fi) (Tm.ord (Tm.qd lns) a) b [] wr (F:=fi) (K:=n-fi) HAL.out.symm (by omega) HO2.out HBM.out (fun x hx=>HR.out x (by rw[HX.out];simp[hx])) (HN.out.below HB2.out) hlen);rw[HBC.out]at ZZ;go_wp2_with fail
    refine ZZ.out.mono ?_;rintro e w3 ⟨rfl,zR,hb3⟩
    have HF:Hid (w3.ownsRow base 3 1 (.slice (some ⟨g,0,none⟩) n cap) n (ints (Tm.ord (Tm.qd lns) xs))):=by unfold Hid;rw[HBB.out];have h:=zR;rw[List.append_nil]at h;exact h
    have HBF:Hid (Below base w w3):=HB2.out.trans hb3;clear zR hb3;go_wp2;go_end0;exact⟨rfl,HF.out,HBF.out⟩
  | cons x c =>
   have hd:decide ((ii:Int)<(n:Int))=true:=by simp at hnl;simp<;>omega
   have hxr:=HR.out x (by rw[HX.out];simp)
   have hmi:(Tm.ord (Tm.qd lns) a++b).length=ii:=by have:=HAL.out;simp;omega
   have cx:=(qdK HO2.out) ii x (qjF (a:=Tm.ord (Tm.qd lns) a++b) (c:=c) hmi.symm);rw[Nat.zero_add]at cx;obtain⟨cx,_⟩:=cx
   have hil:(ii:Int)<(n:Int):=by simpa using hd
   obtain⟨w0,hw1,hw2,hw3⟩:=(HN.out.below HB2.out).base;obtain⟨f,vp,vs,yq,hfv,_,_⟩:=(hw1.below hw2).at hxr.1;have YY:=qb yq;clear yq hw1 hw2 hmi;go_wp2_with (at_lookup;go_must (refine zQ rfl _ _ rfl bm lns.length f rfl YY.out x rfl (yV hxr) _ hfv ?_))
   refine(qeY _ _).mono ?_;rintro e w2 ⟨rfl,hb3⟩;have HB3:Hid (Below base w w2):=HB2.out.trans (hb3.mono (by omega));have HO3:=qb (xE HO2.out hb3);have hz3:=hb3.size;clear hb3;cases hcl:(Tm.qd lns x != 0)
   ·have h0:Tm.qd lns x=0:=by simpa using hcl
    have hcf:¬cap=fi:=by omega
    have qA3:fi<=ii:=by omega
    have ZZ:=qb (qlV lns bm base g n cap (cap-fi) (Tm.ord (Tm.qd lns) a) b (x::c) w2 (F:=fi) (K:=ii-fi) HAL.out.symm (by omega) HO3.out HBM.out (fun y hy=>HR.out y (by rw[HX.out];simp[hy])) (HN.out.below HB3.out) hlen);rw[HBC.out]at ZZ;have HST:=qb (fun q=>Tm.qtK HKN.out h0 b q)
    have HA2:Hid (Tm.ord (Tm.qd lns) (a++b++[x])=Tm.ord (Tm.qd lns) a++Tm.ord (Tm.qd lns) b++[x]):=by
     unfold Hid;have h:=HST.out [];rw[List.append_assoc,QpL.out,h];simp[Tm.ord,List.append_assoc]
    have Qyy:Hid (∀q,Tm.ord (Tm.qd lns) ((a++b++[x])++q)=Tm.ord (Tm.qd lns) (a++b++[x])++Tm.ord (Tm.qd lns) q):=fun q=>by
     have h:=HST.out q;rw[HA2.out,show a++b++[x]++q=a++(b++x::q)from by simp,QpL.out,h];simp[List.append_assoc]
    clear hcl h0;go_wp2_with fail
    refine ZZ.out.mono ?_;rintro e w3 ⟨rfl,zR,hb3⟩
    have HO4:Hid (w3.ownsRow base 3 1 (.slice (some ⟨g,0,none⟩) n cap) n (ints (Tm.ord (Tm.qd lns) (a++b++[x])++[]++c))):=by unfold Hid;rw[HA2.out];have h:=zR;simpa[List.append_assoc]using h
    have HB4:Hid (Below base w w3):=HB3.out.trans hb3;clear zR hb3;go_wp2;go_roundw
    case rel=>exact⟨a++b++[x],[],c,ii+1,ii+1,by go_num,by go_num,by have:=HFI.out;simp;omega,rfl,by rw[HX.out];simp,by simp,Qyy.out,HO4.out,HB4.out⟩
    case measure=>simp[intOf]<;>omega
   ·have Qzj:Hid (∀y∈b++[x],Tm.qd lns y≠0):=fun y hy=>by
     rcases List.mem_append.1 hy with h|h
     ·exact HBM.out y h
     ·simp at h;subst h;simpa using hcl
    have HO4:Hid (w2.ownsRow base 3 1 (.slice (some ⟨g,0,none⟩) n cap) n (ints (Tm.ord (Tm.qd lns) a++(b++[x])++c))):=by have h:=HO3.out;unfold Hid;simpa[List.append_assoc]using h
    clear hcl;go_wp2;go_roundw
    case rel=>exact⟨a,b++[x],c,fi,ii+1,rfl,by go_num,HFI.out,by simp;omega,by rw[HX.out];simp,Qzj.out,QpL.out,HO4.out,HB3.out⟩
    case measure=>simp[intOf]<;>omega
theorem qlW(bm:Nat)(w:World):Calls Tryz.prog 130 #[.map (some bm),.slice none 0 0] w fun e w'=>e=.returned (.tuple #[])/\w'=w:=by
 have hmf:∀(fn:Fn) (first cap:Array Value) (w:World),(Instr.makeFunc fn first cap).run Tryz.prog w=.ok (.func fn first cap) w:=fun _ _ _ _=>rfl;go_enter Tryz.func130,Tryz.ntmps130
 go_wp2;go_loopw [4,9] (fun vf vi wr=>vf=.int .i64 0/\vi=.int .i64 0/\wr=w) (fun _ _ _=>0)
 case atStart=>exact⟨rfl,rfl,rfl⟩
 case round =>
  obtain⟨rfl,rfl,rfl⟩:=hrel;go_wp2_with fail
  refine(QbM _ _ _ _).mono ?_;rintro e w3 ⟨rfl,rfl⟩;go_wp2;go_end0;exact⟨rfl,rfl⟩
