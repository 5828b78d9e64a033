import Derived.Deep.LoopGhost
import Derived.Test.YtmnjjjhmnhfapaaGreatDoorMCodeApi
import Derived.Test.YtmnjjjhmnhfapaaGreatDoorMCodeNew
import Derived.Test.YtmnjjjhmnhfapaaGreatDoorMCodeNormal
namespace Go.Proofs.YtmnjjjhmnhfapaaGreatDoor
set_option maxRecDepth 100000
set_option maxHeartbeats 4000000
open Go.RowKit
theorem qgs:∀(a b:List UInt8),Op.bytesLess a b=Tm.jS a b
 | [],[]=>rfl
 | [],_::_=>rfl
 | _::_,[]=>rfl
 | a::x,b::y=>by
  rw[Op.bytesLess,Tm.jS,qgs x y];by_cases h1:a<b
  ·simp[h1]
  ·by_cases h2:b<a
   ·have:a≠b:=fun h=>by subst h;exact h1 h2
    simp[h1,h2,this]
   ·have:a=b:=UInt8.le_antisymm (UInt8.not_lt.1 h2) (UInt8.not_lt.1 h1);subst this;simp[UInt8.lt_irrefl]
def qby(c n:Int):Int:=if c<0 then(-(c+1)) % n else c % n
theorem qhs{c n:Int}(hn:0<n):0<=qby c n/\qby c n<n:=by
 unfold qby;split
 ·exact⟨Int.emod_nonneg _ (by omega),Int.emod_lt_of_pos _ hn⟩
 ·exact⟨Int.emod_nonneg _ (by omega),Int.emod_lt_of_pos _ hn⟩
theorem qmA(c n:Int)(w:World)(hc:-9223372036854775808<=c/\c<=9223372036854775807)(hn:0<n/\n<=1000000) :
  Calls Tryz.prog 24 #[.int .i64 c,.int .i64 n] w fun e w'=>e=.returned (.int .i64 (qby c n))/\w'=w:=by
 obtain⟨hc1,hc2⟩:=hc;obtain⟨hn1,hn2⟩:=hn
 have hn0:(n == 0)=false:=by simp;omega
 have hn9:(n == -1)=false:=by simp;omega
 by_cases h:c<0
 ·have HP:Hid (qby c n=(-(c+1)).tmod n):=by unfold Hid qby;rw[if_pos h,Int.tmod_eq_emod_of_nonneg (by omega)]
  go_enter Tryz.func24,Tryz.ntmps24
  go_wp2;go_ret;exact⟨yf (by rw[HP.out,Int.neg_tmod]),rfl⟩
 ·have HP:Hid (qby c n=c.tmod n):=by unfold Hid qby;rw[if_neg h,Int.tmod_eq_emod_of_nonneg (by omega)]
  go_enter Tryz.func24,Tryz.ntmps24
  go_wp2;go_ret;exact⟨yf (by rw[HP.out,Int.tmod_eq_emod_of_nonneg h]),rfl⟩
def yH(s:ByteArray):ByteArray:=if 64<s.size then s.extract 0 64 else s
theorem qgt(s:ByteArray):(yH s).size<=64:=by
 unfold yH;split
 ·simp[ByteArray.size_extract];omega
 ·omega
theorem qj2(s:ByteArray)(w:World):Calls Tryz.prog 20 #[.string s] w fun e w'=>e=.returned (.string (yH s))/\w'=w:=by
 by_cases h:64<s.size
 ·have hd:decide (64<(s.size:Int))=true:=by simp;omega
  have hc:yH s=s.extract 0 64:=by unfold yH;rw[if_pos h]
  have HC:=qb hc;clear hc;go_enter Tryz.func20,Tryz.ntmps20
  go_wp2;go_ret;exact⟨by rw[HC.out];rfl,rfl⟩
 ·have hd:decide (64<(s.size:Int))=false:=by simp;omega
  have HC:Hid (yH s=s):=by unfold Hid yH;rw[if_neg h]
  go_enter Tryz.func20,Tryz.ntmps20
  go_wp2;go_ret;exact⟨by rw[HC.out];rfl,rfl⟩
namespace Tm
theorem qut{lns:List Ln}(h:(together lns).2=0)(r:Int):ends lns 4 r=true:=by
 by_cases h0:(parts lns r).length=0
 ·exact qkz h0
 unfold parts at h0
 cases hf:lns.find? (yW r)with
 | none=>rw[hf]at h0;simp at h0
 | some o =>
  have hm:=List.mem_of_find?_eq_some hf;have hp:=List.find?_some hf;simp only[yW,Bool.and_eq_true,decide_eq_true_eq,beq_iff_eq]at hp
  have hb:lns.find? (vP lns)=none:=by
   cases hb:lns.find? (vP lns)with
   | none=>rfl
   | some q=>unfold together at h;rw[hb]at h;simp at h
  have h1:=List.find?_eq_none.1 hb o hm;rw[qgd,hp.1,hp.2]at h1;simpa using h1
def depth(lns:List Ln)(l:List Int):Nat :=
 if l.all (ends lns 0)then 0 else if l.all (ends lns 1)then 1 else if l.all (ends lns 2)then 2 else if l.all (ends lns 3)then 3 else 4
def qA1(k:Int->Int)(a b:Int):Bool:=decide (k b≠0/\k b<k a)
end Tm
open Classical in
theorem qlh{s:List UInt8}{st:Int}{lns:List Tm.Ln}(h:Tm.zH s st=(lns,0,0))(r:Int):Tm.ends lns 4 r=true:=by
 refine Tm.qut ?_ r;unfold Tm.zH at h;split at h
 ·simp at h
 ·split at h
  ·simp at h
  ·split at h
   ·rename_i n e heq;simp at h;exact absurd h.2.2 (qaP _ _ _ _ _ _ heq)
   ·rename_i heq;injection h with h1 h2;subst h1;exact congrArg Prod.snd h2
theorem qmB{n k:Nat}(h:n / 2 ^ k % 2=1):Tm.js n (k+1)=Tm.js n k++[10]++Tm.qfm.getD k []:=by rw[Tm.js,if_pos h]
theorem qmC{n k:Nat}(h:¬n / 2 ^ k % 2=1):Tm.js n (k+1)=Tm.js n k:=by rw[Tm.js,if_neg h]
theorem qgu:∀k,k<8->(Tm.qfm.getD k []).length<=60:=by decide
theorem qdx(n:Nat):∀k,k<=8->(Tm.js n k).length<=300+70 * k
 | 0,_=>by show Tm.qmD.length<=300;decide +kernel
 | k+1,h=>by
  have ih:=qdx n k (by omega);have h2:=qgu k (by omega);rw[Tm.js];split
  ·simp only[List.length_append,List.length_cons,List.length_nil];omega
  ·omega
theorem qsw:∀n:Nat,n<256->∀k,k<8->(bits BinOp.and IntKind.i64 ((n:Int) / 2 ^ k) 1 == 1)=decide (n / 2 ^ k % 2=1):=by decide +kernel
theorem qsx(n:Nat)(w:World)(hn:n<256) :
  Calls Tryz.prog 104 #[.int .i64 n] w fun e w'=>∃s:ByteArray,e=.returned (.string s)/\s.data.toList=Tm.xh n/\Below w.heap.size w w':=by
 obtain⟨W,hW⟩:∃W,w.alloc (.cells #[.string ⟨#[119,32,54,51,32,54,56,32,61,32,49,53,46,50,48,46,50]⟩,.string ⟨#[119,32,54,49,32,51,48,49,32,61,32,49,54,46,50,48,46,50]⟩,.string ⟨#[119,32,54,49,32,51,50,51,32,61,32,49,55,46,50,48,46,50,10,119,32,54,49,32,51,50,51,32,51,48,49,32,61,32,49,56,46,50,48,46,50]⟩,.string ⟨#[119,32,50,101,32,61,32,42,52,46,50,48,46,50,32,42,53,46,50,48,46,51]⟩,.string ⟨#[119,32,51,48,48,32,61,32,48,46,48,46,53,10,99,32,51,48,48,32,101,54]⟩,.string ⟨#[119,32,51,48,50,32,61,32,48,46,48,46,48,10,99,32,51,48,50,32,101,54]⟩,.string ⟨#[100,32,99,53,32,52,49,32,51,48,97,10,99,32,51,48,97,32,101,54]⟩,.string ⟨#[119,32,48,32,61,32,48,46,48,46,48]⟩] 9)=W:=⟨_,rfl⟩
 have hb0:Below w.heap.size w W:=by rw[<-hW];exact(Below.refl _ _).alloc (Nat.le_refl _) _
 have HB0:=qb hb0
 have QqA:Hid (∀k,k<8->∃s:ByteArray,W.cell? ⟨w.heap.size,k,none⟩=some (.string s)/\s.data.toList=Tm.qfm.getD k []):=by
  intro k hk;rw[<-hW,ql rfl];rcases(show k=0\/k=1\/k=2\/k=3\/k=4\/k=5\/k=6\/k=7 by omega)with rfl|rfl|rfl|rfl|rfl|rfl|rfl|rfl<;>exact⟨_,rfl,rfl⟩
 clear hb0;go_enter Tryz.func104,Tryz.ntmps104
 go_wp2_with fail
 go_loopw [3,5] (fun vs i wr=>∃(k:Nat) (s:ByteArray),k<=8/\i=.int .i64 k/\vs=.string s/\s.data.toList=Tm.js n k/\wr=W) (fun _ i _=>8-(intOf i).toNat)
 case atStart=>exact⟨0,_,by omega,rfl,rfl,rfl,rfl⟩
 case round =>
  obtain⟨k,s,hk,rfl,rfl,hs,rfl⟩:=hrel;have HS:=qb hs;clear hs;by_cases hlt:k<8
  ·obtain⟨m,hm,hmm⟩:=QqA.out k hlt;have HMM:=qb hmm
   have i1:(0:Int)<=(k:Int):=by omega
   have i2:(k:Int)<8:=by omega
   clear hmm;have hbb:=qsw n hn k hlt
   have hsz:s.size<=1000:=by have h1:=qdx n k hk;rw[<-HS.out]at h1;simp at h1;omega
   have hmz:m.size<=60:=by have h1:=qgu k hlt;rw[<-HMM.out]at h1;simpa using h1
   have z1:¬9223372036854775807<s.size+1:=by omega
   have z2:¬9223372036854775807<s.size+1+m.size:=by omega
   by_cases hbit:n / 2 ^ k % 2=1
   ·rw[decide_eq_true hbit]at hbb
    have HT:Hid ((s++⟨#[10]⟩++m).data.toList=Tm.js n (k+1)):=by
     unfold Hid;rw[qmB hbit,<-HS.out,<-HMM.out];simp
    clear hbit;go_wp2;go_roundw
    case rel=>exact⟨k+1,_,by omega,by go_num,rfl,HT.out,by first|rfl|trivial⟩
    case measure=>simp[intOf];omega
   ·rw[decide_eq_false hbit]at hbb
    have HT:Hid (s.data.toList=Tm.js n (k+1)):=by
     unfold Hid;rw[qmC hbit];exact HS.out
    clear hbit;go_wp2;go_roundw
    case rel=>exact⟨k+1,s,by omega,by go_num,rfl,HT.out,by first|rfl|trivial⟩
    case measure=>simp[intOf];omega
  ·have hk8:k=8:=by omega
   subst hk8;go_wp2;go_ret;exact⟨s,rfl,HS.out,HB0.out⟩
namespace Tm
theorem qsy{n:Nat}(h:n<256):qfn n=true:=by
 by_cases h1:n<128
 ·exact List.all_eq_true.1 qog n (List.mem_range.2 h1)
 ·have:=List.all_eq_true.1 qoh (n-128) (List.mem_range.2 (by omega));simpa[show n-128+128=n by omega]using this
theorem qkA{p s t:Int}{o:Option (List El)}(h:qqB p s t o=true):o=some [⟨p,s,t,false⟩]:=by
 unfold qqB at h;split at h
 ·rename_i e;simp at h;obtain⟨⟨⟨h1,h2⟩,h3⟩,h4⟩:=h;obtain⟨a,b,c,d⟩:=e;simp at h1 h2 h3 h4;subst h1 h2 h3 h4;rfl
 ·cases h
structure Qb3(lns:List Ln):Prop where
 a:yD lns [97]=some [⟨16,32,2,false⟩]
 b:yD lns [98]=some [⟨17,32,2,false⟩]
 pa:parts lns 97=[]
 pb:parts lns 98=[]
theorem quu{n:Nat}(h:n<256){st:Int}(hst:1<=st/\st<=4):∃lns,zH (xh n) st=(lns,0,0)/\Qb3 lns:=by
 have hg:=qsy h;unfold qfn at hg;simp only[Bool.and_eq_true,decide_eq_true_eq]at hg;obtain⟨⟨⟨⟨⟨h1,h2⟩,h3⟩,h4⟩,h5⟩,h6⟩:=hg;refine⟨jL n,?_,qkA h2,qkA h3,h4,h5⟩;unfold zH at h1⊢;rw[if_neg (by omega),if_neg (by omega)]at h1⊢;unfold jL;generalize qF [] 1 (split 10 (xh n))=p at h1⊢;obtain⟨l,o⟩:=p
 cases o with
 | none=>simp only at h1⊢;rw[<-h1]
 | some q=>obtain⟨m,e⟩:=q;simp only at h1⊢;rw[h1]
end Tm
variable {lns:List Tm.Ln}{st:Int}{sh:Bool}{a b:ByteArray}{S T:Nat->Prop}{w u:World}{n:Nat}{xs:List Value}
theorem qwz:jR ⟨#[97]⟩=[97]:=by decide +kernel
theorem qwA:jR ⟨#[98]⟩=[98]:=by decide +kernel
theorem qmE{s:ByteArray}{r:Int}(hr:jR s=[r])(hp:Tm.parts lns r=[]):zq lns s=[r]:=by
 unfold zq;rw[hr];simp only[List.flatMap_cons,List.flatMap_nil,List.append_nil];rw[Tm.qek (by rw[hp];rfl)];rfl
theorem qdy{r:Int}{e:List Tm.El}(h:Tm.yD lns [r]=some e):Tm.elements lns [r]=e:=by
 rw[Tm.qfK (by simp)]
 have hl:Tm.lead lns [r]=1:=by
  unfold Tm.lead;rw[if_neg (fun h=>by simp at h),if_neg (fun h=>by simp at h)]
 rw[hl];simp only[List.take_succ_cons,List.take_zero,List.drop_succ_cons,List.drop_zero,Tm.grow];rw[Tm.qdo,List.append_nil,Tm.yX,h]
theorem qen(h:Tm.Qb3 lns):zq lns ⟨#[97]⟩=[97]:=qmE qwz h.pa
theorem qoi(h:Tm.Qb3 lns):zq lns ⟨#[98]⟩=[98]:=qmE qwA h.pb
theorem qht(h:Tm.Qb3 lns)(hst:1<=st/\st<=4):qe lns st sh ⟨#[97]⟩ ⟨#[98]⟩=-1:=by
 unfold qe stands levels;rw[qen h,qoi h,qdy h.a,qdy h.b];obtain⟨t,ht⟩:∃t:Nat,st.toNat=t+1:=⟨st.toNat-1,by omega⟩
 rw[ht];simp only[List.map_cons,List.take_succ_cons,List.cons_append,Tm.zu]
 have:Tm.cmpL (Tm.level sh [⟨16,32,2,false⟩] 0) (Tm.level sh [⟨17,32,2,false⟩] 0)=-1:=by cases sh<;>decide
 rw[this];rfl
theorem qqC(lns:List Tm.Ln)(st:Int)(sh:Bool)(a:ByteArray):qe lns st sh a a=0:=Tm.qcY _
theorem qsz(lns:List Tm.Ln)(st:Int)(sh:Bool)(a b:ByteArray):qe lns st sh b a= -qe lns st sh a b:=Tm.qgv _ _
theorem qoj(lns:List Tm.Ln)(st:Int)(sh:Bool)(a b:ByteArray):qe lns st sh a b=-1\/qe lns st sh a b=0\/qe lns st sh a b=1:=Tm.qeo _ _
theorem qqD:qe lns st sh a b=0↔zq lns a=zq lns b :=
 ⟨fun h=>qsA.1 (Tm.qfo h),fun h=>by unfold qe;rw[h];exact Tm.qcY _⟩
theorem qok{c:ByteArray}(h:qe lns st sh a b<=0)(k:qe lns st sh b c<=0):qe lns st sh a c<=0:=Tm.qhu h k
theorem qo0(hf:∀o∈lns,Tm.Fit o)(hst:1<=st/\st<=4)(a b:ByteArray):Tm.qcI (keyBytes lns st sh a) (keyBytes lns st sh b)=qe lns st sh a b :=
 qsB hf hst (qat hf a) (qat hf b)
theorem qsC(lns:List Tm.Ln)(bc bm:Nat)(st:Int)(sh:Bool)(w:World)(hc:Jd w bc bm st sh lns)(hok:Zt st lns)(hk:Tm.Qb3 lns) :
  Calls Tryz.prog 56 #[.pointer (some ⟨bc,0,none⟩)] w fun e w'=>e=.returned (.bool true)/\Below w.heap.size w w':=by
 have HC:=qb hc;have HOK:=qb hok;have HK:=qb hk;have HF:=qb hc.fit;clear hc hok hk;go_enter Tryz.func56,Tryz.ntmps56
 go_wp2_with fail
 refine(Qp9 lns HF.out HOK.out.ends bc bm ⟨#[97]⟩ _ HC.out.c0 HC.out.rd).mono ?_;rintro e w1 qw;rw[qg3,if_pos (by decide),qen HK.out]at qw;obtain⟨v1,rfl,yC,hb1⟩:=qw;obtain⟨g1,o1,c1,rfl,hg1,hc1⟩:=(Reads.qn yC).form (by simp[ints]);have hx:=hc1 0 (.int .i64 97) rfl;rw[Nat.add_zero]at hx;have HB1:=qb hb1;have hz1:=hb1.size;have HC1:=qb (HC.out.below hb1);clear yC hb1 hc1;simp only[List.length_cons,List.length_nil,Nat.zero_add];go_wp2_with fail
 refine(Qbj lns bc bm st sh ⟨#[97]⟩ ⟨#[98]⟩ _ HC1.out HOK.out).mono ?_;rw[if_pos (by decide),qht HK.out HOK.out.st];rintro e w2 ⟨rfl,hb2⟩
 have hx2:w2.cell? ⟨g1,o1,none⟩=some (.int .i64 97):=by rw[hb2.cell (p:=⟨g1,o1,none⟩) hg1];exact hx
 have hz2:=hb2.size;have HB2:=qb (HB1.out.trans (hb2.mono hz1));have HC2:=qb (HC1.out.below hb2);clear hb2 hx;go_wp2_with fail
 refine(Qbj lns bc bm st sh ⟨#[97]⟩ ⟨#[97]⟩ _ HC2.out HOK.out).mono ?_;rw[if_pos (by decide),qqC];rintro e w3 ⟨rfl,hb3⟩
 have hx3:w3.cell? ⟨g1,o1,none⟩=some (.int .i64 97):=by rw[hb3.cell (p:=⟨g1,o1,none⟩) (by simp only;omega)];exact hx2
 have hz3:=hb3.size;have HB3:=qb (HB2.out.trans (hb3.mono (by omega)));have HC3:=qb (HC2.out.below hb3);clear hb3 hx2;go_wp2_with fail
 refine(YS lns bc bm st sh ⟨#[97]⟩ _ HC3.out HOK.out).mono ?_;rw[if_pos (by decide)];rintro e w4 ⟨rfl,hb4⟩
 have hx4:w4.cell? ⟨g1,o1,none⟩=some (.int .i64 97):=by rw[hb4.cell (p:=⟨g1,o1,none⟩) (by simp only;omega)];exact hx3
 have hz4:=hb4.size;have HB4:=qb (HB3.out.trans (hb4.mono (by omega)));have HC4:=qb (HC3.out.below hb4);clear hb4 hx3;go_wp2_with fail
 refine(YS lns bc bm st sh ⟨#[98]⟩ _ HC4.out HOK.out).mono ?_;rw[if_pos (by decide)];rintro e w5 ⟨rfl,hb5⟩
 have hx5:w5.cell? ⟨g1,o1,none⟩=some (.int .i64 97):=by rw[hb5.cell (p:=⟨g1,o1,none⟩) (by simp only;omega)];exact hx4
 have hz5:=hb5.size;have HB5:=qb (HB4.out.trans (hb5.mono (by omega)));have HC5:=qb (HC4.out.below hb5);clear hb5 hx4;go_wp2_with fail
 refine(QhV lns bc bm st sh ⟨#[97]⟩ _ HC5.out HOK.out).mono ?_;rintro e w6 qw;rw[qbk,if_pos (by decide),qen HK.out,qdy HK.out.a]at qw;obtain⟨v6,rfl,xD,hb6⟩:=qw;obtain⟨g6,o6,c6,rfl,hg6,hc6⟩:=(Reads.qn xD).form (by simp[qG,yJ]);have hy:=hc6 0 (.int .i64 16) rfl;rw[Nat.add_zero]at hy
 have hx6:w6.cell? ⟨g1,o1,none⟩=some (.int .i64 97):=by rw[hb6.cell (p:=⟨g1,o1,none⟩) (by simp only;omega)];exact hx5
 have HB6:=qb (HB5.out.trans (hb6.mono (by omega)));simp only[List.length_cons,List.length_nil,Nat.zero_add]
 have hlt:Op.bytesLess (ByteArray.mk (keyBytes lns st sh ⟨#[97]⟩).toArray).toList (ByteArray.mk (keyBytes lns st sh ⟨#[98]⟩).toArray).toList=true:=by
  rw[qgs,Go.ByteArray.toList_eq,Go.ByteArray.toList_eq];have h:=(qo0 HF.out (sh:=sh) HOK.out.st ⟨#[97]⟩ ⟨#[98]⟩).trans (qht HK.out HOK.out.st);unfold Tm.qcI at h;split at h
  ·rename_i h1;simpa using h1
  ·split at h<;>simp at h
 generalize (keyBytes lns st sh ⟨#[97]⟩).toArray=ka at *;generalize (keyBytes lns st sh ⟨#[98]⟩).toArray=kb at *;clear xD hb6 hc6 hx5;go_wp2;go_ret;exact⟨rfl,HB6.out⟩
structure Qy(S:Nat->Prop)(w w':World):Prop where
 os:w'.os=w.os
 tape:w'.tape=w.tape
 output:w'.output=w.output
 size:w.heap.size<=w'.heap.size
 block:∀k,k<w.heap.size->¬S k->w'.heap[k]?=w.heap[k]?
theorem Qy.refl(S:Nat->Prop)(w:World):Qy S w w:=⟨rfl,rfl,rfl,Nat.le_refl _,fun _ _ _=>rfl⟩
theorem Qy.of{w':World}(h:Below w.heap.size w w'):Qy S w w':=⟨h.os,h.tape,h.output,h.size,fun k hk _=>h.block k hk⟩
theorem Qy.trans{v:World}(h:Qy S u v)(k:Qy T v w)(hT:∀i,T i->S i\/u.heap.size<=i):Qy S u w :=
 ⟨k.os.trans h.os,k.tape.trans h.tape,k.output.trans h.output,Nat.le_trans h.size k.size,fun i hi hb=>(k.block i (Nat.lt_of_lt_of_le hi h.size) (fun ht=>by rcases hT i ht with h1|h1;exact hb h1;omega)).trans (h.block i hi hb)⟩
theorem Qy.then{v:World}(h:Qy S u v)(k:Below u.heap.size v w):Qy S u w :=
 ⟨k.os.trans h.os,k.tape.trans h.tape,k.output.trans h.output,Nat.le_trans h.size k.size,fun i hi hb=>(k.block i hi).trans (h.block i hi hb)⟩
theorem Qy.mono(h:Qy S u w)(hS:∀i,S i->T i):Qy T u w:=⟨h.os,h.tape,h.output,h.size,fun k hk hn=>h.block k hk (fun e=>hn (hS k e))⟩
theorem Qy.below{X:Nat}(h:Qy S u w)(hS:∀i,S i->X<=i)(hX:X<=u.heap.size):Below X u w:=⟨h.os,h.tape,h.output,h.size,fun k hk=>h.block k (by omega) (fun e=>by have:=hS k e;omega)⟩
theorem Qy.cell(h:Qy S u w){p:Addr}(hp:p.block<u.heap.size)(hn:¬S p.block):w.cell? p=u.cell? p:=World.cell?_of_block (h.block _ hp hn)
theorem Qy.frozen{S:Nat->Prop}{u w:World}(h:Qy S u w){p:Addr}(hp:p.block<u.heap.size)(hn:¬S p.block):w.frozen? p=u.frozen? p:=World.frozen?_of_block (h.block _ hp hn)
theorem Qy.setCell(h:Qy S u w){p:Addr}(hp:S p.block\/u.heap.size<=p.block)(v:Value):Qy S u (w.setCell p v) :=
 ⟨h.os,h.tape,h.output,by simpa[World.setCell]using h.size,fun k hk hn=>by
  rw[Below.heap_setCell _ _ _ _ (by rintro rfl;rcases hp with e|e;exact hn e;omega)]
  exact h.block k hk hn⟩
theorem Qy.alloc(h:Qy S u w)(o:Obj):Qy S u (w.alloc o):=h.then ((Below.refl _ _).alloc h.size o)
theorem Qy.grown{w':World}{row:Option Nat}(h:Qy S u w)(hg:w.grownBy w' row)(hr:∀k,row=some k->S k\/u.heap.size<=k):Qy S u w' :=
 ⟨hg.os.trans h.os,hg.tape.trans h.tape,hg.output.trans h.output,Nat.le_trans h.size hg.size,fun k hk hn=>(hg.block k (Nat.lt_of_lt_of_le hk h.size) (fun e=>by rcases hr k e.symm with e|e;exact hn e;omega)).trans (h.block k hk hn)⟩
theorem Qy.reads(h:Qy S u w){v:Value}{size:Nat}(hr:Reads u v size n xs)(hn:∀g,v.ownBlock=some g->¬S g):Reads w v size n xs :=
 hr.jI h.size (fun g hg=>h.block g (hr.2.1 g hg) (hn g hg))
theorem Qy.owns(h:Qy S u w){base:Nat}{e:TypeId}{size:Nat}{v:Value}(hr:u.ownsRow base e size v n xs)(hn:∀g,v.ownBlock=some g->¬S g):w.ownsRow base e size v n xs :=
 qO hr (fun g hg=>h.block g (hr.lt g hg).2 (hn g hg))
theorem qbw{base:Nat}{e:TypeId}{size g cap:Nat}(h:w.ownsRow base e size (.slice (some ⟨g,0,none⟩) n cap) n xs)(k:Nat)(u:Value):(w.setCell ⟨g,k,none⟩ u).ownsRow base e size (.slice (some ⟨g,0,none⟩) n cap) n (xs.set k u):=by
 refine⟨by rw[List.length_set];exact h.1,?_⟩;rcases h.2 with⟨he,_⟩|⟨g',z8,cur,he,hb,hg,h1,h2,h3,h4⟩
 ·cases he
 ·cases he;refine .inr ⟨g,cap,cur.setIfInBounds k u,rfl,hb,?_,h1,h2,by simpa using h3,?_⟩
  ·simp only[World.setCell,Array.getElem?_modify,hg];rfl
  ·rw[Array.toList_setIfInBounds,<-h4,List.take_set]
namespace Tm
structure Told{α:Type}(c:α->α->Int):Prop where
 neg:∀a b,c b a= -c a b
 trans:∀{a b d},c a b<=0->c b d<=0->c a d<=0
theorem Told.lt{α:Type}{c:α->α->Int}(h:Told c){a b d:α}(h1:c a b<0)(h2:c b d<0):c a d<0:=by
 have h3:=h.trans (a:=a) (b:=b) (d:=d) (by omega) (by omega);rcases(show c a d<0\/c a d=0 by omega)with h4|h4
 ·exact h4
 ·have h5:=h.neg a d;have h6:=h.trans (a:=d) (b:=a) (d:=b) (by omega) (by omega);have h7:=h.neg b d;omega
def Zy{α:Type}(c:α->α->Int)(l:List α):Prop:=l.Pairwise (fun a b=>c a b<0)
def qbz{α:Type}(c:α->α->Int)(e:α):List α->List α
 | []=>[e]
 | x::r=>if c e x<0 then e::x::r else x::qbz c e r
theorem qgw{α:Type}{c:α->α->Int}{e y:α}:∀{l:List α},y∈qbz c e l↔y=e\/y∈l
 | []=>by simp[qbz]
 | x::r=>by
  unfold qbz;split
  ·simp
  ·simp only[List.mem_cons,qgw (l:=r)];constructor
   ·rintro(h|h|h)
    ·exact .inr (.inl h)
    ·exact .inl h
    ·exact .inr (.inr h)
   ·rintro(h|h|h)
    ·exact .inr (.inl h)
    ·exact .inl h
    ·exact .inr (.inr h)
theorem qgx{α:Type}{c:α->α->Int}{e:α}:∀{l:List α},(qbz c e l).length=l.length+1
 | []=>rfl
 | x::r=>by
  unfold qbz;split
  ·simp
  ·simp[qgx (l:=r)]
theorem qhv{α:Type}{c:α->α->Int}(h:Told c){e:α}:∀{l:List α},Zy c l->(∀x∈l,c e x≠0)->Zy c (qbz c e l)
 | [],_,_=>by simp[qbz,Zy]
 | x::r,hl,hne=>by
  have hx:=List.pairwise_cons.1 hl;have hx0:=hne x (by simp);unfold qbz;split
  ·rename_i hlt;refine List.pairwise_cons.2 ⟨fun y hy=>?_,hl⟩;rcases List.mem_cons.1 hy with rfl|hy
   ·exact hlt
   ·exact h.lt hlt (hx.1 y hy)
  ·rename_i hge;refine List.pairwise_cons.2 ⟨fun y hy=>?_,qhv h hx.2 (fun z hz=>hne z (by simp[hz]))⟩;rcases qgw.1 hy with rfl|hy
   ·have:=h.neg y x;omega
   ·exact hx.1 y hy
theorem Zy.one{α:Type}{c:α->α->Int}(h:Told c):∀{l m:List α},Zy c l->Zy c m->(∀y,y∈l↔y∈m)->l=m
 | [],[],_,_,_=>rfl
 | [],y::s,_,_,he=>by have:=(he y).2 (by simp);simp at this
 | x::r,[],_,_,he=>by have:=(he x).1 (by simp);simp at this
 | x::r,y::s,hl,hm,he=>by
  have hx:=List.pairwise_cons.1 hl;have hy:=List.pairwise_cons.1 hm
  have qci:∀a,¬c a a<0:=fun a=>by have:=h.neg a a;omega
  have hxy:x=y:=by
   rcases List.mem_cons.1 ((he x).1 (by simp))with h1|h1
   ·exact h1
   ·rcases List.mem_cons.1 ((he y).2 (by simp))with h2|h2
    ·exact h2.symm
    ·have h3:=hx.1 y h2;have h4:=hy.1 x h1;exact absurd (h.lt h3 h4) (qci x)
  subst hxy
  congr 1
  refine Zy.one h hx.2 hy.2 (fun z=>⟨fun hz=>?_,fun hz=>?_⟩)
  ·rcases List.mem_cons.1 ((he z).1 (by simp[hz]))with h1|h1
   ·subst h1;exact absurd (hx.1 z hz) (qci z)
   ·exact h1
  ·rcases List.mem_cons.1 ((he z).2 (by simp[hz]))with h1|h1
   ·subst h1;exact absurd (hy.1 z hz) (qci z)
   ·exact h1
end Tm
namespace Tm
end Tm
namespace Tm
variable {α:Type}
def vd{α:Type}(c:α->α->Int)(p:α->Bool)(es:List α):List α:=es.foldl (fun out e=>if p e then qbz c e out else out) []
theorem qep(c:α->α->Int)(p:α->Bool)(es:List α)(e:α):vd c p (es++[e])=if p e then qbz c e (vd c p es)else vd c p es:=by simp[vd]
theorem qj3{P:List α->Prop}(h0:P [])(hs:∀l x,P l->P (l++[x]))(l:List α):P l:=by
 rw[<-List.reverse_reverse l]
 induction l.reverse with
 | nil=>exact h0
 | cons a r ih=>rw[List.reverse_cons];exact hs _ _ ih
theorem qi3{c:α->α->Int}{p:α->Bool}{y:α}(es:List α):y∈vd c p es↔y∈es/\p y=true:=by
 refine qj3 (P:=fun es=>y∈vd c p es↔y∈es/\p y=true) (by simp[vd]) (fun l x ih=>?_) es;rw[qep];by_cases h:p x=true
 ·rw[if_pos h,qgw,ih];simp only[List.mem_append,List.mem_singleton];constructor
  ·rintro(rfl|⟨h1,h2⟩)
   ·exact⟨.inr rfl,h⟩
   ·exact⟨.inl h1,h2⟩
  ·rintro⟨h1|rfl,h2⟩
   ·exact .inr ⟨h1,h2⟩
   ·exact .inl rfl
 ·rw[if_neg h,ih];simp only[List.mem_append,List.mem_singleton];constructor
  ·rintro⟨h1,h2⟩;exact⟨.inl h1,h2⟩
  ·rintro⟨h1|rfl,h2⟩
   ·exact⟨h1,h2⟩
   ·exact absurd h2 h
theorem qmF{c:α->α->Int}(h:Told c){p:α->Bool}(es:List α)(hne:es.Pairwise (fun a b=>c a b≠0)):Zy c (vd c p es):=by
 refine qj3 (P:=fun es=>es.Pairwise (fun a b=>c a b≠0)->Zy c (vd c p es)) (fun _=>by simp[vd,Zy]) (fun l x ih hp=>?_) es hne;obtain⟨h1,_,h3⟩:=List.pairwise_append.1 hp;rw[qep];split
 ·refine qhv h (ih h1) (fun y hy=>?_);have h4:=h3 y ((qi3 l).1 hy).1 x (by simp);have h5:=h.neg y x;omega
 ·exact ih h1
theorem qqE{c:α->α->Int}(h:Told c){p:α->Bool}{es l:List α}(hne:es.Pairwise (fun a b=>c a b≠0))(hl:Zy c l)(hm:∀y,y∈l↔y∈es/\p y=true):l=vd c p es :=
 Zy.one h hl (qmF h es hne) (fun y=>(hm y).trans (qi3 es).symm)
end Tm
namespace Tm
variable {c:ByteArray->ByteArray->Int}{k v:ByteArray}{e:ByteArray×ByteArray}
abbrev QU:=List (ByteArray×ByteArray)
def Yc(c:ByteArray->ByteArray->Int)(a b:ByteArray×ByteArray):Int:=c a.1 b.1
theorem Told.qyK(h:Told c):Told (Yc c):=⟨fun a b=>h.neg a.1 b.1,fun {a b d}=>h.trans (a:=a.1) (b:=b.1) (d:=d.1)⟩
theorem Told.qvX{α:Type}{c:α->α->Int}(h:Told c){a b d:α}(h1:c a b<=0)(h2:c b d<0):c a d<0:=by
 have h3:=h.trans h1 (Int.le_of_lt h2);rcases(show c a d<0\/c a d=0 by omega)with h4|h4
 ·exact h4
 ·have h5:=h.neg a d;have h6:=h.trans (a:=d) (b:=a) (d:=b) (by omega) h1;have h7:=h.neg b d;omega
theorem Told.qyL{α:Type}{c:α->α->Int}(h:Told c){a b d:α}(h1:c a b<0)(h2:c b d<=0):c a d<0:=by
 have h3:=h.trans (Int.le_of_lt h1) h2;rcases(show c a d<0\/c a d=0 by omega)with h4|h4
 ·exact h4
 ·have h5:=h.neg a d;have h6:=h.trans (a:=b) (b:=d) (d:=a) h2 (by omega);have h7:=h.neg a b;omega
def below(c:ByteArray->ByteArray->Int)(l:QU)(k:ByteArray):Nat:=(l.filter (fun e=>decide (c e.1 k<0))).length
def yd(c:ByteArray->ByteArray->Int)(l:QU)(k:ByteArray):Bool:=l.any (fun e=>decide (c e.1 k=0))
def qcZ(c:ByteArray->ByteArray->Int)(l:QU)(k v:ByteArray):QU:=l.filter (fun e=>decide (c e.1 k<0))++(k,v)::l.filter (fun e=>decide (0<c e.1 k))
def qaH(c:ByteArray->ByteArray->Int)(l:QU)(k:ByteArray):QU:=l.filter (fun e=>decide (c e.1 k≠0))
def qcX(c:ByteArray->ByteArray->Int)(l:QU)(k:ByteArray):Option ByteArray:=(l.find? (fun e=>decide (c e.1 k=0))).map (·.2)
def within(c:ByteArray->ByteArray->Int)(lo hi:ByteArray)(e:ByteArray×ByteArray):Bool:=decide (0<=c e.1 lo)&&(decide (hi.size=0) || decide (c e.1 hi<0))
def vM(c:ByteArray->ByteArray->Int)(l:QU)(lo hi:ByteArray):QU:=l.filter (within c lo hi)
theorem qfk(c:ByteArray->ByteArray->Int)(l:QU)(k:ByteArray):below c l k<=l.length:=List.length_filter_le _ _
theorem qol(h:Told c){x:ByteArray×ByteArray}{r:QU}(hl:Zy (Yc c) (x::r))(hx:0<=c x.1 k):∀y∈r,0<c y.1 k:=by
 intro y hy;have h1:c x.1 y.1<0:=(List.pairwise_cons.1 hl).1 y hy;have h2:=h.neg x.1 k;have h3:=h.qvX (a:=k) (b:=x.1) (d:=y.1) (by omega) h1;have h4:=h.neg k y.1;omega
theorem qcj{c:ByteArray->ByteArray->Int}(h:Told c){k:ByteArray}:∀{l:QU},Zy (Yc c) l->l.filter (fun e=>decide (c e.1 k<0))=l.take (below c l k)/\l.filter (fun e=>decide (0<=c e.1 k))=l.drop (below c l k)
 | [],_=>by simp
 | x::r,hl=>by
  have ih:=qcj h (k:=k) (List.pairwise_cons.1 hl).2;by_cases hx:c x.1 k<0
  ·have hb:below c (x::r) k=below c r k+1:=by simp[below,hx]
   rw[hb,List.filter_cons_of_pos (by simp[hx]),List.filter_cons_of_neg (by simp;omega)];exact⟨by rw[List.take_succ_cons,ih.1],by rw[List.drop_succ_cons,ih.2]⟩
  ·have ha:=qol h hl (k:=k) (by omega)
   have hn:(x::r).filter (fun e=>decide (c e.1 k<0))=[]:=by
    rw[List.filter_eq_nil_iff];intro y hy;rcases List.mem_cons.1 hy with rfl|hy
    ·simpa using hx
    ·have:=ha y hy;simp;omega
   have hb:below c (x::r) k=0:=by unfold below;rw[hn];rfl
   rw[hb,hn];refine⟨rfl,?_⟩;rw[List.drop_zero,List.filter_eq_self];intro y hy;rcases List.mem_cons.1 hy with rfl|hy
   ·simp;omega
   ·have:=ha y hy;simp;omega
theorem qaW(h:Told c){l:QU}(hl:Zy (Yc c) l){i:Nat}(hi:i<l.length):c (l[i]).1 k<0↔i<below c l k:=by
 have hs:=qcj h (k:=k) hl;constructor
 ·intro hc;refine Nat.lt_of_not_le (fun hle=>?_)
  have hm:l[i]∈l.drop (below c l k):=by
   rw[List.mem_iff_getElem?];exact⟨i-below c l k,by rw[List.getElem?_drop,show below c l k+(i-below c l k)=i by omega];simp[hi]⟩
  rw[<-hs.2]at hm;have:=(List.mem_filter.1 hm).2;simp at this;omega
 ·intro hlt
  have hm:l[i]∈l.take (below c l k):=by
   rw[List.mem_iff_getElem?];exact⟨i,by rw[List.getElem?_take,if_pos hlt];simp[hi]⟩
  rw[<-hs.1]at hm;simpa using(List.mem_filter.1 hm).2
theorem qaV(h:Told c){l:QU}(hl:Zy (Yc c) l):yd c l k=true↔∃hi:below c l k<l.length,c (l[below c l k]).1 k=0:=by
 constructor
 ·intro hh;obtain⟨e,he,h0⟩:=List.any_eq_true.1 hh;obtain⟨i,hi,rfl⟩:=List.mem_iff_getElem.1 he
  have h0':c (l[i]).1 k=0:=by simpa using h0
  have h1:¬i<below c l k:=fun hlt=>by have:=(qaW h hl hi).2 hlt;omega
  have h2:¬below c l k<i:=fun hlt=>by
   have hb:below c l k<l.length:=by omega
   have h3:¬c (l[below c l k]).1 k<0:=fun hc=>by have:=(qaW h hl hb).1 hc;omega
   have h4:c (l[below c l k]).1 (l[i]).1<0:=List.pairwise_iff_getElem.1 hl _ _ hb hi hlt;have h5:=h.qyL h4 (by omega:c (l[i]).1 k<=0);omega
  have e:i=below c l k:=by omega
  subst e;exact⟨hi,h0'⟩
 ·rintro⟨hi,h0⟩;exact List.any_eq_true.2 ⟨l[below c l k],List.getElem_mem hi,by simpa using h0⟩
theorem qhw{l:QU}(hh:yd c l k=false):qaH c l k=l:=by
 unfold qaH;rw[List.filter_eq_self];intro y hy
 have:¬c y.1 k=0:=fun e=>by
  have:yd c l k=true:=List.any_eq_true.2 ⟨y,hy,by simpa using e⟩;rw[this]at hh;cases hh
 simpa using this
theorem qom(h:Told c){l:QU}(hl:Zy (Yc c) l):Zy (Yc c) (qcZ c l k v):=by
 unfold qcZ;refine List.pairwise_append.2 ⟨List.Pairwise.filter _ hl,List.pairwise_cons.2 ⟨fun y hy=>?_,List.Pairwise.filter _ hl⟩,fun a ha b hb=>?_⟩
 ·have h1:0<c y.1 k:=by simpa using(List.mem_filter.1 hy).2
  have h2:=h.neg y.1 k;show c k y.1<0;omega
 ·have h1:c a.1 k<0:=by simpa using(List.mem_filter.1 ha).2
  rcases List.mem_cons.1 hb with rfl|hb
  ·exact h1
  ·have h2:0<c b.1 k:=by simpa using(List.mem_filter.1 hb).2
   have h3:=h.neg b.1 k;exact h.lt h1 (by omega)
theorem qmG{l:QU}(hl:Zy (Yc c) l):Zy (Yc c) (qaH c l k):=List.Pairwise.filter _ hl
theorem qgy{l:QU}:e∈qcZ c l k v↔e=(k,v)\/(e∈l/\c e.1 k≠0):=by
 unfold qcZ;simp only[List.mem_append,List.mem_cons,List.mem_filter,decide_eq_true_eq];constructor
 ·rintro(⟨h1,h2⟩|h|⟨h1,h2⟩)
  ·exact .inr ⟨h1,by omega⟩
  ·exact .inl h
  ·exact .inr ⟨h1,by omega⟩
 ·rintro(h|⟨h1,h2⟩)
  ·exact .inr (.inl h)
  ·rcases(show c e.1 k<0\/0<c e.1 k by omega)with h3|h3
   ·exact .inl ⟨h1,h3⟩
   ·exact .inr (.inr ⟨h1,h3⟩)
theorem qi4{l:QU}:e∈qaH c l k↔e∈l/\c e.1 k≠0:=by
 unfold qaH;simp only[List.mem_filter,decide_eq_true_eq]
theorem qqv(h:Told c){lo hi:ByteArray}{l:QU}(hl:Zy (Yc c) l):vM c l lo hi=if hi.size=0 then l.drop (below c l lo)else(l.drop (below c l lo)).take (below c (l.drop (below c l lo)) hi):=by
 have hs:=(qcj h (k:=lo) hl).2;have hr:Zy (Yc c) (l.drop (below c l lo)):=List.Pairwise.drop hl;have hs2:=(qcj h (k:=hi) hr).1;by_cases h0:hi.size=0
 ·rw[if_pos h0,<-hs];refine List.filter_congr (fun e _=>?_);simp[within,h0]
 ·rw[if_neg h0,<-hs2]
  conv=>rhs;rw[<-hs]
  rw[List.filter_filter];refine List.filter_congr (fun e _=>?_);simp[within,h0,Bool.and_comm]
theorem qul(h:Told c){l:QU}(hl:Zy (Yc c) l):qcX c l k=if yd c l k then(l[below c l k]?).map (·.2)else none:=by
 by_cases hh:yd c l k=true
 ·rw[if_pos hh];obtain⟨hi,h0⟩:=(qaV h hl).1 hh;unfold qcX
  congr 1
  rw[List.find?_eq_some_iff_getElem.2 ⟨by simpa using h0,below c l k,hi,rfl,fun j hj=>by have:=(qaW h hl (by omega:j<l.length)).2 hj;simp;omega⟩];simp[hi]
 ·rw[if_neg hh];unfold qcX;rw[List.find?_eq_none.2 (fun y hy=>fun e=>hh (List.any_eq_true.2 ⟨y,hy,e⟩))];rfl
end Tm
namespace Tm
variable {α:Type}{c:ByteArray->ByteArray->Int}{k v:ByteArray}{i:Nat}
abbrev Fact:=ByteArray×ByteArray×Bool
theorem Told.zero{c:α->α->Int}(h:Told c){a b d:α}(h1:c a b=0)(h2:c b d=0):c a d=0:=by
 have h3:=h.trans (a:=a) (b:=b) (d:=d) (by omega) (by omega);have h4:=h.neg a b;have h5:=h.neg b d;have h6:=h.trans (a:=d) (b:=b) (d:=a) (by omega) (by omega);have h7:=h.neg a d;omega
theorem Told.self{c:α->α->Int}(h:Told c)(a:α):c a a=0:=by have:=h.neg a a;omega
structure Zh(c:ByteArray->ByteArray->Int)(fs:List Fact)(es:QU):Prop where
 apart:fs.Pairwise (fun a b=>c a.1 b.1≠0)
 same:∀k v,(k,v)∈es↔(k,v,true)∈fs
 short:∀f∈fs,f.1.size<=64
theorem Zh.nil(c:ByteArray->ByteArray->Int):Zh c [] []:=⟨.nil,fun _ _=>by simp,fun f hf=>by simp at hf⟩
def findF(c:ByteArray->ByteArray->Int)(fs:List Fact)(k:ByteArray):Option Nat:=fs.findIdx? (fun f=>decide (c f.1 k=0))
theorem qbA{fs:List Fact}(h:findF c fs k=some i):∃hi:i<fs.length,c (fs[i]).1 k=0:=by
 obtain⟨hi,hp,_⟩:=List.findIdx?_eq_some_iff_getElem.1 h;exact⟨hi,by simpa using hp⟩
theorem qi5{fs:List Fact}(h:findF c fs k=none):∀f∈fs,c f.1 k≠0:=by
 intro f hf;have:=List.findIdx?_eq_none_iff.1 h f hf;simpa using this
theorem Zh.one(hT:Told c){fs:List Fact}{es:QU}(h:Zh c fs es){j:Nat}(hi:i<fs.length)(hj:j<fs.length)(h1:c (fs[i]).1 k=0)(h2:c (fs[j]).1 k=0):i=j:=by
 have h3:=hT.neg (fs[j]).1 k;have h4:c (fs[i]).1 (fs[j]).1=0:=hT.zero h1 (by omega);have h5:=hT.neg (fs[i]).1 (fs[j]).1;rcases Nat.lt_trichotomy i j with hlt|he|hgt
 ·exact absurd h4 (List.pairwise_iff_getElem.1 h.apart i j hi hj hlt)
 ·exact he
 ·exact absurd (by omega) (List.pairwise_iff_getElem.1 h.apart j i hj hi hgt)
theorem Zh.has(hT:Told c){fs:List Fact}{es:QU}(h:Zh c fs es)(k:ByteArray):yd c es k=(match findF c fs k with|some i=>(fs[i]?.map (·.2.2)).getD false|none=>false):=by
 cases hf:findF c fs k with
 | none =>
  have hn:=qi5 hf;simp only;rw[Bool.eq_false_iff];intro hh;obtain⟨e,he,h0⟩:=List.any_eq_true.1 hh;exact hn _ ((h.same e.1 e.2).1 he) (by simpa using h0)
 | some i =>
  obtain⟨hi,h0⟩:=qbA hf;have hgi:fs[i]?=some fs[i]:=List.getElem?_eq_getElem hi;simp only[hgi,Option.map_some,Option.getD_some];rw[Bool.eq_iff_iff];constructor
  ·intro hh;obtain⟨e,he,h1⟩:=List.any_eq_true.1 hh
   have h1':c e.1 k=0:=by simpa using h1
   obtain⟨j,hj,hje⟩:=List.mem_iff_getElem.1 ((h.same e.1 e.2).1 he);have:j=i:=h.one hT hj hi (k:=k) (by rw[hje];exact h1') h0;subst this;rw[hje]
  ·intro hb;refine List.any_eq_true.2 ⟨((fs[i]).1,(fs[i]).2.1),(h.same _ _).2 ?_,by simpa using h0⟩
   have:((fs[i]).1,(fs[i]).2.1,true)=fs[i]:=by rw[<-hb]
   rw[this];exact List.getElem_mem hi
theorem qck{l:List α}(hi:i<l.length){x y:α}:y∈l.set i x↔y=x\/∃j,∃hj:j<l.length,j≠i/\l[j]=y:=by
 constructor
 ·intro hy;obtain⟨j,hj,he⟩:=List.mem_iff_getElem.1 hy;rw[List.length_set]at hj;rw[List.getElem_set]at he;split at he
  ·exact .inl he.symm
  ·rename_i hne;exact .inr ⟨j,hj,fun e=>hne e.symm,he⟩
 ·rintro(rfl|⟨j,hj,hne,he⟩)
  ·exact List.mem_iff_getElem.2 ⟨i,by simpa using hi,by simp⟩
  ·exact List.mem_iff_getElem.2 ⟨j,by simpa using hj,by rw[List.getElem_set,if_neg (fun e=>hne e.symm)];exact he⟩
theorem qkB(hT:Told c){fs:List Fact}(ha:fs.Pairwise (fun a b=>c a.1 b.1≠0))(hi:i<fs.length){x:Fact}(hx:c (fs[i]).1 x.1=0):(fs.set i x).Pairwise (fun a b=>c a.1 b.1≠0):=by
 have hP:=List.pairwise_iff_getElem.1 ha;refine List.pairwise_iff_getElem.2 (fun a b h1 h2 hlt=>?_);rw[List.length_set]at h1 h2;rw[List.getElem_set,List.getElem_set];by_cases e1:i=a
 ·subst e1;rw[if_pos rfl,if_neg (by omega)];intro h0;exact hP i b h1 h2 hlt (hT.zero hx h0)
 ·rw[if_neg e1];by_cases e2:i=b
  ·subst e2;rw[if_pos rfl];intro h0;have h3:=hT.neg (fs[i]).1 x.1;exact hP a i h1 h2 hlt (hT.zero h0 (by omega))
  ·rw[if_neg e2];exact hP a b h1 h2 hlt
theorem Zh.putAt(hT:Told c){fs:List Fact}{es:QU}(h:Zh c fs es)(hf:findF c fs k=some i)(hk:k.size<=64):Zh c (fs.set i (k,v,true)) (qcZ c es k v):=by
 obtain⟨hi,h0⟩:=qbA hf;refine⟨qkB hT h.apart hi h0,fun k' v'=>?_,fun f hf'=>?_⟩
 ·rw[qgy,qck hi];constructor
  ·rintro(he|⟨hm,hne⟩)
   ·cases he;exact .inl rfl
   ·obtain⟨j,hj,hje⟩:=List.mem_iff_getElem.1 ((h.same _ _).1 hm);exact .inr ⟨j,hj,fun e=>by subst e;rw[hje]at h0;exact hne h0,hje⟩
  ·rintro(he|⟨j,hj,hne,hje⟩)
   ·cases he;exact .inl rfl
   ·refine .inr ⟨(h.same _ _).2 (by rw[<-hje];exact List.getElem_mem hj),fun e=>hne ?_⟩;exact h.one hT hj hi (k:=k) (by rw[hje];exact e) h0
 ·rcases(qck hi).1 hf' with rfl|⟨j,hj,_,rfl⟩
  ·exact hk
  ·exact h.short _ (List.getElem_mem hj)
theorem Zh.qxG{fs:List Fact}{es:QU}(h:Zh c fs es)(hf:findF c fs k=none)(hk:k.size<=64):Zh c (fs++[(k,v,true)]) (qcZ c es k v):=by
 have hn:=qi5 hf;refine⟨List.pairwise_append.2 ⟨h.apart,by simp,fun a ha b hb=>by rw[List.mem_singleton.1 hb];exact hn a ha⟩,fun k' v'=>?_,fun f hf'=>?_⟩
 ·rw[qgy,List.mem_append,List.mem_singleton];constructor
  ·rintro(he|⟨hm,hne⟩)
   ·cases he;exact .inr rfl
   ·exact .inl ((h.same _ _).1 hm)
  ·rintro(hm|he)
   ·exact .inr ⟨(h.same _ _).2 hm,hn _ hm⟩
   ·cases he;exact .inl rfl
 ·rcases List.mem_append.1 hf' with hm|hm
  ·exact h.short _ hm
  ·rw[List.mem_singleton.1 hm];exact hk
theorem Zh.qxH(hT:Told c){fs:List Fact}{es:QU}(h:Zh c fs es)(hf:findF c fs k=some i)(hi:i<fs.length):Zh c (fs.set i ((fs[i]).1,(fs[i]).2.1,false)) (qaH c es k):=by
 obtain⟨_,h0⟩:=qbA hf;refine⟨qkB hT h.apart hi (hT.self _),fun k' v'=>?_,fun f hf'=>?_⟩
 ·rw[qi4,qck hi];constructor
  ·rintro⟨hm,hne⟩;obtain⟨j,hj,hje⟩:=List.mem_iff_getElem.1 ((h.same _ _).1 hm);exact .inr ⟨j,hj,fun e=>by subst e;rw[hje]at h0;exact hne h0,hje⟩
  ·rintro(he|⟨j,hj,hne,hje⟩)
   ·cases he
   ·refine⟨(h.same _ _).2 (by rw[<-hje];exact List.getElem_mem hj),fun e=>hne ?_⟩;exact h.one hT hj hi (k:=k) (by rw[hje];exact e) h0
 ·rcases(qck hi).1 hf' with rfl|⟨j,hj,_,rfl⟩
  ·exact h.short fs[i] (List.getElem_mem hi)
  ·exact h.short _ (List.getElem_mem hj)
theorem qli(c:α->α->Int)(es:List α):(vd c (fun _=>true) es).length=es.length:=by
 refine qj3 (P:=fun es=>(vd c (fun _=>true) es).length=es.length) rfl (fun l x ih=>?_) es;rw[qep,if_pos rfl,qgx,ih];simp
theorem Zh.count(hT:Told c){fs:List Fact}{es:QU}(h:Zh c fs es)(hr:Zy (Yc c) es)(p:ByteArray×ByteArray->Bool):(es.filter p).length=(fs.filter (fun f=>f.2.2&&p (f.1,f.2.1))).length:=by
 have hm:((fs.filter (fun f=>f.2.2&&p (f.1,f.2.1))).map (fun f=>(f.1,f.2.1))).Pairwise (fun a b=>Yc c a b≠0):=by
  rw[List.pairwise_map];exact List.Pairwise.filter _ h.apart
 have he:=qqE (p:=fun _=>true) hT.qyK hm (List.Pairwise.filter p hr) (fun y=>by
  constructor
  ·intro hy;obtain⟨h1,h2⟩:=List.mem_filter.1 hy;refine⟨List.mem_map.2 ⟨(y.1,y.2,true),List.mem_filter.2 ⟨(h.same _ _).1 h1,by simpa using h2⟩,rfl⟩,rfl⟩
  ·rintro⟨hy,_⟩;obtain⟨f,hf,rfl⟩:=List.mem_map.1 hy;obtain⟨h1,h2⟩:=List.mem_filter.1 hf;simp only[Bool.and_eq_true]at h2;refine List.mem_filter.2 ⟨(h.same _ _).2 ?_,h2.2⟩
   have:(f.1,f.2.1,true)=f:=by rw[<-h2.1]
   rw[this];exact h1)
 rw[he,qli,List.length_map]
def qfp(fs:List Fact):Nat:=(fs.filter (fun f=>f.2.2)).length
theorem Zh.here(hT:Told c){fs:List Fact}{es:QU}(h:Zh c fs es)(hr:Zy (Yc c) es):qfp fs=es.length:=by
 have:=h.count hT hr (fun _=>true);rw[List.filter_eq_self.2 (fun _ _=>rfl)]at this;rw[this];unfold qfp
 congr 2
 funext f
 simp
end Tm
namespace Tm
variable {i n:Nat}{c:ByteArray->ByteArray->Int}{k v:ByteArray}
abbrev Ver:=Nat×(ByteArray×ByteArray)
abbrev Zr:=List Ver
def qj(l:Zr):QU:=l.map (·.2)
theorem qz(l:Zr):(qj l).length=l.length:=List.length_map _
theorem xK{l:Zr}(h:i<l.length):(qj l)[i]'(by rw[qz];exact h)=l[i].2:=by simp[qj]
def qaI(c:ByteArray->ByteArray->Int)(l:Zr)(n:Nat)(k v:ByteArray):Zr:=l.filter (fun x=>decide (c x.2.1 k<0))++(n,(k,v))::l.filter (fun x=>decide (0<c x.2.1 k))
def qeK(c:ByteArray->ByteArray->Int)(l:Zr)(k:ByteArray):Zr:=l.filter (fun x=>decide (c x.2.1 k≠0))
theorem qfq(c:ByteArray->ByteArray->Int)(l:Zr)(n:Nat)(k v:ByteArray):qj (qaI c l n k v)=qcZ c (qj l) k v:=by
 simp[qj,qaI,qcZ,List.filter_map,Function.comp_def]
theorem qeq(c:ByteArray->ByteArray->Int)(l:Zr)(k:ByteArray):qj (qeK c l k)=qaH c (qj l) k:=by
 simp[qj,qeK,qaH,List.filter_map,Function.comp_def]
theorem qhx{α:Type}(p:α->Bool):∀(l:List α) (n:Nat),(∀i (hi:i<l.length),p l[i]=decide (i<n))->l.filter p=l.take n
 | [],n,_=>by simp
 | x::r,0,h=>by
  rw[List.take_zero,List.filter_eq_nil_iff];intro y hy;obtain⟨i,hi,rfl⟩:=List.mem_iff_getElem.1 hy;rw[h i hi];simp
 | x::r,n+1,h=>by
  have h0:=h 0 (by simp);rw[List.filter_cons_of_pos (by simpa using h0),List.take_succ_cons,qhx p r n (fun i hi=>by have:=h (i+1) (by simpa using hi);simpa using this)]
theorem qer{α:Type}(p:α->Bool):∀(l:List α) (n:Nat),(∀i (hi:i<l.length),p l[i]=decide (n<=i))->l.filter p=l.drop n
 | [],n,_=>by simp
 | x::r,0,h=>by
  rw[List.drop_zero,List.filter_eq_self];intro y hy;obtain⟨i,hi,rfl⟩:=List.mem_iff_getElem.1 hy;rw[h i hi];simp
 | x::r,n+1,h=>by
  have h0:=h 0 (by simp);rw[List.filter_cons_of_neg (by simpa using h0),List.drop_succ_cons,qer p r n (fun i hi=>by have:=h (i+1) (by simpa using hi);simpa using this)]
theorem qgz{α:Type}(p:α->Bool):∀(l:List α) (n:Nat),(∀i (hi:i<l.length),p l[i]=decide (i≠n))->l.filter p=l.eraseIdx n
 | [],n,_=>by simp
 | x::r,0,h=>by
  have h0:=h 0 (by simp);rw[List.filter_cons_of_neg (by simpa using h0),List.eraseIdx_cons_zero,List.filter_eq_self];intro y hy;obtain⟨i,hi,rfl⟩:=List.mem_iff_getElem.1 hy;have:=h (i+1) (by simpa using hi);simpa using this
 | x::r,n+1,h=>by
  have h0:=h 0 (by simp);rw[List.filter_cons_of_pos (by simpa using h0),List.eraseIdx_cons_succ,qgz p r n (fun i hi=>by have:=h (i+1) (by simpa using hi);simpa using this)]
theorem qo1(h:Told c){l:QU}(hl:Zy (Yc c) l)(hh:yd c l k=true)(hi:i<l.length):(c (l[i]).1 k=0↔i=below c l k)/\(0<c (l[i]).1 k↔below c l k<i):=by
 obtain⟨hb,h0⟩:=(qaV h hl).1 hh;have h1:=qaW h (k:=k) hl hi
 have h2:below c l k<i->0<c (l[i]).1 k:=fun hlt=>by
  have h4:c (l[below c l k]).1 (l[i]).1<0:=List.pairwise_iff_getElem.1 hl _ _ hb hi hlt;have h5:=h.neg (l[i]).1 k;have h6:=h.neg (l[below c l k]).1 k;have h7:=h.qvX (a:=k) (b:=(l[below c l k]).1) (d:=(l[i]).1) (by omega) h4;omega
 have h3:i=below c l k->c (l[i]).1 k=0:=fun e=>by subst e;exact h0
 constructor
 ·constructor
  ·intro e;refine Nat.le_antisymm (Nat.le_of_not_lt fun hlt=>?_) (Nat.le_of_not_lt fun hlt=>?_)
   ·have:=h2 hlt;omega
   ·have:=h1.2 hlt;omega
  ·exact h3
 ·constructor
  ·intro hp;refine Nat.lt_of_not_le fun hle=>?_;rcases Nat.lt_or_eq_of_le hle with hlt|e
   ·have:=h1.2 hlt;omega
   ·have:=h3 e;omega
  ·exact h2
theorem qwB(h:Told c){l:QU}(hl:Zy (Yc c) l)(hh:yd c l k=false)(hi:i<l.length):0<c (l[i]).1 k↔below c l k<=i:=by
 have h1:=qaW h (k:=k) hl hi
 have h2:c (l[i]).1 k≠0:=fun e=>by
  have:yd c l k=true:=List.any_eq_true.2 ⟨l[i],List.getElem_mem hi,by simpa using e⟩;rw[this]at hh;cases hh
 omega
theorem qo2(h:Told c){l:Zr}(hl:Zy (Yc c) (qj l)):l.filter (fun x=>decide (c x.2.1 k<0))=l.take (below c (qj l) k) :=
 qhx _ _ _ fun i hi=>by
  have:=qaW h (k:=k) hl (by rw[qz];exact hi);rw[xK hi]at this;simpa using this
theorem qgq(h:Told c){l:Zr}(hl:Zy (Yc c) (qj l))(hh:yd c (qj l) k=true):qaI c l n k v=l.set (below c (qj l) k) (n,(k,v)):=by
 obtain⟨hb,_⟩:=(qaV h hl).1 hh;rw[qz]at hb;unfold qaI
 rw[qo2 h hl,qer _ l (below c (qj l) k+1) (fun i hi=>by
  have:=(qo1 h hl hh (by rw[qz];exact hi)).2;rw[xK hi]at this
  simpa[Nat.succ_le_iff]using this),List.set_eq_take_append_cons_drop,if_pos hb]
theorem qi2(h:Told c){l:Zr}(hl:Zy (Yc c) (qj l))(hh:yd c (qj l) k=false):qaI c l n k v=l.take (below c (qj l) k)++(n,(k,v))::l.drop (below c (qj l) k):=by
 unfold qaI
 rw[qo2 h hl,qer _ l (below c (qj l) k) (fun i hi=>by
  have:=qwB h hl hh (by rw[qz];exact hi);rw[xK hi]at this
  simpa using this)]
theorem qlj(h:Told c){l:Zr}(hl:Zy (Yc c) (qj l))(hh:yd c (qj l) k=true):qeK c l k=l.eraseIdx (below c (qj l) k) :=
 qgz _ _ _ fun i hi=>by
  have:=(qo1 h hl hh (by rw[qz];exact hi)).1;rw[xK hi]at this;simpa using this
theorem qfr{l:Zr}{x:Ver}(h:x∈qaI c l n k v):x=(n,(k,v))\/x∈l:=by
 unfold qaI at h;rcases List.mem_append.1 h with h|h
 ·exact .inr (List.mem_filter.1 h).1
 ·rcases List.mem_cons.1 h with h|h
  ·exact .inl h
  ·exact .inr (List.mem_filter.1 h).1
theorem qes{l:Zr}{x:Ver}(h:x∈qeK c l k):x∈l:=(List.mem_filter.1 h).1
def Qil:List Zr->Prop
 | []=>True
 | [_]=>True
 | a::b::r=>(∀x∈a,∀m∈r,x∈m->x∈b)/\Qil (b::r)
theorem Qil.last{m m':Zr}:∀{pre:List Zr},(∀x∈m',x∈m\/∀a∈pre,x ∉ a)->Qil (pre++[m])->Qil (pre++[m'])
 | [],_,_=>trivial
 | [a],_,_=>⟨fun _ _ _ h=>(by cases h),trivial⟩
 | a::b::r,hm,h=>⟨fun x hx q hq hxq=>by
   have h1:=h.1 x hx;rcases List.mem_append.1 hq with e|e
   ·exact h1 q (List.mem_append.2 (.inl e)) hxq
   ·have:q=m':=by simpa using e
    subst this;rcases hm x hxq with e2|e2
    ·exact h1 m (by simp) e2
    ·exact absurd hx (e2 a (by simp)),Qil.last (pre:=b::r) (fun x hx=>(hm x hx).imp id (fun e y hy=>e y (List.mem_cons_of_mem _ hy))) h.2⟩
end Tm
variable {c:ByteArray->ByteArray->Int}{w w':World}{a:Option Addr}{B:Nat->Nat}{K:ByteArray->ByteArray}{v:Value}{X bx bc:Nat}{S F T:Nat->Prop}{st:Int}{sh:Bool}{lns:List Tm.Ln}{V:Nat->Value}
structure Qt where
 now:Tm.Zr
 held:List (Nat×Tm.Zr)
 given:Nat
 next:Nat
def qv(s:Qt):Tm.QU:=Tm.qj s.now
def qab:Qt:=⟨[],[],0,0⟩
def jA(s:Qt):Tm.Zr:=s.now++s.held.flatMap (·.2)
def qW(c:ByteArray->ByteArray->Int)(s:Qt)(k v:ByteArray):Int:=if 64<k.size\/64<v.size then 7 else if Tm.yd c (qv s) k=false/\64<=(qv s).length then 8 else 0
def zg(c:ByteArray->ByteArray->Int)(s:Qt)(k v:ByteArray):Qt:=if qW c s k v=0 then {s with now:=Tm.qaI c s.now s.next k v,next:=s.next+1}else s
def z5(c:ByteArray->ByteArray->Int)(s:Qt)(k:ByteArray):Qt:=if 64<k.size then s else if Tm.yd c (qv s) k=true then {s with now:=Tm.qeK c s.now k,next:=s.next+1}else s
def qao(s:Qt)(h:Int):Nat:=s.held.findIdx (fun x=>decide ((x.1:Int)=h))
theorem qkC:qv qab=[]:=rfl
theorem yN(s:Qt):(qv s).length=s.now.length:=Tm.qz _
theorem qdR{c:ByteArray->ByteArray->Int}{s:Qt}{k v:ByteArray}(h:qW c s k v=0):qv (zg c s k v)=Tm.qcZ c (qv s) k v:=by unfold zg qv;rw[if_pos h,Tm.qfq]
theorem qan{c:ByteArray->ByteArray->Int}{s:Qt}{k v:ByteArray}(h:qW c s k v≠0):zg c s k v=s:=by unfold zg;rw[if_neg h]
theorem qc0{s:Qt}{k:ByteArray}(h:k.size<=64):qv (z5 c s k)=Tm.qaH c (qv s) k:=by
 unfold z5;rw[if_neg (by omega)];by_cases hh:Tm.yd c (qv s) k=true
 ·rw[if_pos hh];exact Tm.qeq _ _ _
 ·rw[if_neg hh,Tm.qhw (by simpa using hh)]
theorem qi6(c:ByteArray->ByteArray->Int)(s:Qt)(k v:ByteArray):(zg c s k v).held=s.held/\(zg c s k v).given=s.given:=by unfold zg;split<;>exact⟨rfl,rfl⟩
theorem qhy(c:ByteArray->ByteArray->Int)(s:Qt)(k:ByteArray):(z5 c s k).held=s.held/\(z5 c s k).given=s.given:=by
 unfold z5;split
 ·exact⟨rfl,rfl⟩
 ·split<;>exact⟨rfl,rfl⟩
structure Qal(c:ByteArray->ByteArray->Int)(s:Qt):Prop where
 qbu:Tm.Zy (Tm.Yc c) (qv s)
 few:(qv s).length<=64
 short:∀e∈qv s,e.1.size<=64/\e.2.size<=64
 qsD:∀h∈s.held,Tm.Zy (Tm.Yc c) (Tm.qj h.2)/\h.2.length<=64
 qvY:s.held.length<=8
 less:∀x∈jA s,x.1<s.next
 one:∀x∈jA s,∀y∈jA s,x.1=y.1->x=y
 given:∀h∈s.held,1<=h.1/\h.1<=s.given
 apart:s.held.Pairwise (fun a b=>a.1<b.1)
 qz3:Tm.Qil (s.held.map (·.2)++[s.now])
theorem Qal.nil(c:ByteArray->ByteArray->Int):Qal c qab:=⟨.nil,Nat.zero_le _,fun _ h=>(by cases h),fun _ h=>(by cases h),Nat.zero_le _,fun _ h=>(by cases h),fun _ h=>(by cases h),fun _ h=>(by cases h),.nil,trivial⟩
theorem vR{s:Qt}{x:Tm.Ver}(h:x∈s.now):x∈jA s:=List.mem_append.2 (.inl h)
theorem qdv{s:Qt}{x:Tm.Ver}{h:Nat×Tm.Zr}(hh:h∈s.held)(hx:x∈h.2):x∈jA s:=List.mem_append.2 (.inr (List.mem_flatMap.2 ⟨h,hh,hx⟩))
theorem qo3{s:Qt}{x:Tm.Ver}(hx:x∈jA s):x∈s.now\/∃h∈s.held,x∈h.2:=by
 rcases List.mem_append.1 hx with e|e
 ·exact .inl e
 ·obtain⟨h,hh,hx⟩:=List.mem_flatMap.1 e;exact .inr ⟨h,hh,hx⟩
theorem Qal.turn{s:Qt}(h:Qal c s){l:Tm.Zr}{N:Nat}(hN:s.next<=N)(hr:Tm.Zy (Tm.Yc c) (Tm.qj l))(hf:l.length<=64)(hs:∀e∈Tm.qj l,e.1.size<=64/\e.2.size<=64)(hm:∀x∈l,x∈s.now\/(x.1=s.next/\s.next<N))(h1:∀x∈l,∀y∈l,x.1=y.1->x=y):Qal c {s with now:=l,next:=N}:=by
 have qQ:∀x∈jA {s with now:=l,next:=N},x∈jA s\/(x.1=s.next/\s.next<N/\x∈l):=fun x hx=>by
  rcases qo3 hx with e|⟨g,hg,e⟩
  ·rcases hm x e with e2|e2
   ·exact .inl (vR e2)
   ·exact .inr ⟨e2.1,e2.2,e⟩
  ·exact .inl (qdv (s:=s) hg e)
 refine⟨hr,by rw[yN];exact hf,hs,h.qsD,h.qvY,fun x hx=>?_,fun x hx y hy e=>?_,h.given,h.apart,?_⟩
 ·show x.1<N;rcases qQ x hx with e|⟨e,e2,_⟩
  ·have:=h.less x e;omega
  ·omega
 ·rcases qQ x hx with a|⟨a,a2,a3⟩<;>rcases qQ y hy with b|⟨b,b2,b3⟩
  ·exact h.one x a y b e
  ·have:=h.less x a;omega
  ·have:=h.less y b;omega
  ·exact h1 x a3 y b3 e
 ·refine Tm.Qil.last (fun x hx=>?_) h.qz3;rcases hm x hx with e|e
  ·exact .inl e
  ·refine .inr fun a ha hxa=>?_;obtain⟨g,hg,rfl⟩:=List.mem_map.1 ha;have:=h.less x (qdv hg hxa);omega
theorem Qal.put(hT:Tm.Told c){s:Qt}(h:Qal c s)(k v:ByteArray):Qal c (zg c s k v):=by
 by_cases h0:qW c s k v=0
 ·have hkv:k.size<=64/\v.size<=64:=by
   unfold qW at h0;by_cases hl:64<k.size\/64<v.size
   ·rw[if_pos hl]at h0;omega
   ·omega
  have j9:(Tm.qaI c s.now s.next k v).length<=64:=by
   unfold qW at h0;rw[if_neg (by omega)]at h0;have hfw:=h.few;cases hh:Tm.yd c (qv s) k
   ·rw[hh]at h0;rw[Tm.qi2 hT h.qbu hh];rw[yN]at h0 hfw;by_cases h9:64<=s.now.length
    ·rw[if_pos ⟨rfl,h9⟩]at h0;omega
    ·simp;omega
   ·rw[Tm.qgq hT h.qbu hh,List.length_set];rw[yN]at hfw;exact hfw
  unfold zg;rw[if_pos h0];refine h.turn (Nat.le_succ _) (by rw[Tm.qfq];exact Tm.qom hT h.qbu) j9 (fun e he=>?_) (fun x hx=>?_) (fun x hx y hy e=>?_)
  ·rw[Tm.qfq]at he;rcases Tm.qgy.1 he with rfl|⟨h1,_⟩
   ·exact hkv
   ·exact h.short e h1
  ·rcases Tm.qfr hx with rfl|e
   ·exact .inr ⟨rfl,Nat.lt_succ_self _⟩
   ·exact .inl e
  ·rcases Tm.qfr hx with rfl|a<;>rcases Tm.qfr hy with rfl|b
   ·rfl
   ·have:=h.less y (vR b);simp only at e;omega
   ·have:=h.less x (vR a);simp only at e;omega
   ·exact h.one x (vR a) y (vR b) e
 ·rw[qan h0];exact h
theorem Qal.drop{s:Qt}(h:Qal c s)(k:ByteArray):Qal c (z5 c s k):=by
 unfold z5;split
 ·exact h
 ·split
  ·refine h.turn (Nat.le_succ _) (by rw[Tm.qeq];exact Tm.qmG h.qbu) ?_ (fun e he=>?_) (fun x hx=>.inl (Tm.qes hx)) (fun x hx y hy e=>h.one x (vR (Tm.qes hx)) y (vR (Tm.qes hy)) e)
   ·have h1:=h.few;rw[yN]at h1;exact Nat.le_trans (List.length_filter_le _ _) h1
   ·rw[Tm.qeq]at he;exact h.short e (Tm.qi4.1 he).1
  ·exact h
theorem qay(lns:List Tm.Ln)(st:Int)(sh:Bool):Tm.Told (qe lns st sh):=⟨fun a b=>qsz lns st sh a b,fun h k=>qok h k⟩
def placeOf(lns:List Tm.Ln)(st:Int)(sh:Bool)(s:ByteArray):ByteArray:=⟨(keyBytes lns st sh s).toArray⟩
def qY(es:Tm.QU):List Value:=es.flatMap fun e=>[.string e.1,.string e.2]
theorem qbf(es:Tm.QU):(qY es).length=es.length * 2:=by
 induction es with
 | nil=>rfl
 | cons e r ih=>simp only[qY,List.flatMap_cons,List.length_append,List.length_cons]at *;rw[ih];simp;omega
theorem qiZ(a b:Tm.QU):qY (a++b)=qY a++qY b:=by simp[qY]
theorem qbP{α:Type}(f:α->List Value)(m:Nat)(hf:∀x,(f x).length=m):∀(l:List α) (k:Nat) (hk:k<l.length) (j:Nat),j<m->(l.flatMap f)[k * m+j]?=(f l[k])[j]?
 | [],k,hk,_,_=>by simp at hk
 | x::r,0,_,j,hj=>by
  rw[List.flatMap_cons,Nat.zero_mul,Nat.zero_add,List.getElem?_append_left (by rw[hf];exact hj)];rfl
 | x::r,k+1,hk,j,hj=>by
  rw[List.flatMap_cons,List.getElem?_append_right (by rw[hf,Nat.succ_mul];omega),hf,show(k+1) * m+j-m=k * m+j by rw[Nat.succ_mul];omega];exact qbP f m hf r k (by simpa using hk) j hj
theorem qa7{n cap:Nat}{es:Tm.QU}(h:Reads w (.slice a n cap) 2 es.length (qY es)){k:Nat}(hk:k<es.length) :
  ∃g off,a=some ⟨g,off,none⟩/\g<w.heap.size/\w.cell? ⟨g,off+k * 2,none⟩=some (.string es[k].1)/\w.cell? ⟨g,off+k * 2+1,none⟩=some (.string es[k].2):=by
 obtain⟨g,off,z8,he,hg,hc⟩:=h.form (by rw[qbf];omega);cases he;have hr:=qbP (fun e:ByteArray×ByteArray=>[Value.string e.1,Value.string e.2]) 2 (fun _=>rfl) es k hk;exact⟨g,off,rfl,hg,hc (k * 2) _ (hr 0 (by omega)),hc (k * 2+1) _ (hr 1 (by omega))⟩
def jm(B:Nat->Nat)(l:Tm.Zr):List Value:=l.map fun x=>.pointer (some ⟨B x.1,0,none⟩)
theorem qon(B:Nat->Nat)(l:Tm.Zr):(jm B l).length=l.length:=List.length_map _
theorem qmu(B:Nat->Nat)(l:Tm.Zr):∀u∈jm B l,u.oneCell'=true:=by
 intro u hu;obtain⟨e,_,rfl⟩:=List.mem_map.1 hu;rfl
theorem qi1{B':Nat->Nat}{l:Tm.Zr}(h:∀x∈l,B' x.1=B x.1):jm B' l=jm B l:=List.map_congr_left fun x hx=>by rw[h x hx]
def qa6(V:Nat->Value)(l:List (Nat×Tm.Zr)):List Value:=l.flatMap fun g=>[.int .i64 g.1,V g.1]
theorem qik(V:Nat->Value)(l:List (Nat×Tm.Zr)):(qa6 V l).length=l.length * 2:=by
 induction l with
 | nil=>rfl
 | cons e r ih=>simp only[qa6,List.flatMap_cons,List.length_append,List.length_cons]at *;rw[ih];simp;omega
def QaA(w:World)(K:ByteArray->ByteArray)(B:Nat->Nat)(x:Tm.Ver):Prop :=
 B x.1<w.heap.size/\w.cell? ⟨B x.1,0,none⟩=some (.string (K x.2.1))/\w.cell? ⟨B x.1,1,none⟩=some (.string x.2.1)/\w.cell? ⟨B x.1,2,none⟩=some (.string x.2.2)/\w.heap[B x.1]?=some (.cells #[.string (K x.2.1),.string x.2.1,.string x.2.2] 137)
theorem QaA.jb{B':Nat->Nat}{x:Tm.Ver}(h:QaA w K B x)(hz:w.heap.size<=w'.heap.size)(hb:w'.heap[B x.1]?=w.heap[B x.1]?)(hB:B' x.1=B x.1):QaA w' K B' x:=by
 obtain⟨h0,h1,h2,h3,h4⟩:=h;unfold QaA;rw[hB];exact⟨by omega,(World.cell?_of_block (a:=⟨B x.1,0,none⟩) hb).trans h1,(World.cell?_of_block (a:=⟨B x.1,1,none⟩) hb).trans h2,(World.cell?_of_block (a:=⟨B x.1,2,none⟩) hb).trans h3,hb.trans h4⟩
structure YG(w:World)(K:ByteArray->ByteArray)(B:Nat->Nat)(v:Value)(l:Tm.Zr):Prop where
 reads:Reads w v 1 l.length (jm B l)
 at_:∀x∈l,QaA w K B x
theorem YG.below{l:Tm.Zr}(h:YG w K B v l)(hb:Below w.heap.size w w'):YG w' K B v l :=
 ⟨h.reads.below hb h.reads.2.1,fun x hx=>(h.at_ x hx).jb hb.size (hb.block _ (h.at_ x hx).1) rfl⟩
theorem YG.get{n cap:Nat}{l:Tm.Zr}(h:YG w K B (.slice a n cap) l){k:Nat}(hk:k<l.length) :
  ∃g off,a=some ⟨g,off,none⟩/\g<w.heap.size/\w.cell? ⟨g,off+k,none⟩=some (.pointer (some ⟨B l[k].1,0,none⟩))/\QaA w K B l[k]:=by
 obtain⟨g,off,z8,he,hg,hc⟩:=h.reads.form (by rw[qon];omega);cases he;exact⟨g,off,rfl,hg,hc k _ (by simp[jm,hk]),h.at_ _ (List.getElem_mem hk)⟩
structure Qb1(w:World)(X:Nat)(S F:Nat->Prop)(bx:Nat)(K:ByteArray->ByteArray)(s:Qt)(B:Nat->Nat)(V:Nat->Value)(v h:Value):Prop where
 c1:w.cell? ⟨bx,1,none⟩=some v
 c2:w.cell? ⟨bx,2,none⟩=some h
 now:w.ownsRow X 138 1 v s.now.length (jm B s.now)
 held:w.ownsRow X 142 2 h s.held.length (qa6 V s.held)
 vS:∀g,v.ownBlock=some g->S g/\g≠bx/\h.ownBlock≠some g/\¬F g
 hS:∀g,h.ownBlock=some g->S g/\g≠bx/\¬F g
 fS:∀i,F i->S i/\i≠bx
 qem:∀x∈jA s,F (B x.1)/\QaA w K B x
 inj:∀x∈jA s,∀y∈jA s,B x.1=B y.1->x.1=y.1
 rows:∀g∈s.held,w.ownsRow X 138 1 (V g.1) g.2.length (jm B g.2)/\∀b,(V g.1).ownBlock=some b->F b
structure Ix(w:World)(X:Nat)(S:Nat->Prop)(bx bc:Nat)(st:Int)(sh:Bool)(lns:List Tm.Ln)(s:Qt):Prop where
 from_:∀i,S i->X<=i/\i<w.heap.size
 own:S bx
 c0:w.cell? ⟨bx,0,none⟩=some (.pointer (some ⟨bc,0,none⟩))
 c3:w.cell? ⟨bx,3,none⟩=some (.int .i64 s.given)
 free:∀o,w.frozen? ⟨bx,o,none⟩=false
 mem:∃F B V v h,Qb1 w X S F bx (placeOf lns st sh) s B V v h
 ok:Qal (qe lns st sh) s
theorem Ix.qbu{s:Qt}(h:Ix w X S bx bc st sh lns s):Tm.Zy (Tm.Yc (qe lns st sh)) (qv s):=h.ok.qbu
theorem Ix.few{s:Qt}(h:Ix w X S bx bc st sh lns s):(qv s).length<=64:=h.ok.few
theorem Qb1.fixed{s:Qt}{h:Value}(hi:Qb1 w X S F bx K s B V v h)(hf:Qy T w w')(hT:∀i,F i->¬T i) :
  (∀x∈jA s,F (B x.1)/\QaA w' K B x)/\∀g∈s.held,w'.ownsRow X 138 1 (V g.1) g.2.length (jm B g.2)/\∀b,(V g.1).ownBlock=some b->F b :=
 ⟨fun x hx=>⟨(hi.qem x hx).1,(hi.qem x hx).2.jb hf.size (hf.block _ (hi.qem x hx).2.1 (hT _ (hi.qem x hx).1)) rfl⟩,
  fun g hg=>⟨hf.owns (hi.rows g hg).1 (fun b e=>hT b ((hi.rows g hg).2 b e)),(hi.rows g hg).2⟩⟩
theorem Ix.vV{s:Qt}(h:Ix w X S bx bc st sh lns s)(hf:Qy T w w')(hd:∀i,S i->¬T i):Ix w' X S bx bc st sh lns s:=by
 have hl:=(h.from_ bx h.own).2;have zC:∀o,w'.cell? ⟨bx,o,none⟩=w.cell? ⟨bx,o,none⟩:=fun o=>hf.cell (p:=⟨bx,o,none⟩) hl (hd bx h.own);obtain⟨F,B,V,v,g,hi⟩:=h.mem;have hx:=hi.fixed hf (fun i e=>hd i (hi.fS i e).1)
 exact⟨fun i hi=>⟨(h.from_ i hi).1,Nat.lt_of_lt_of_le (h.from_ i hi).2 hf.size⟩,h.own,by rw[zC];exact h.c0,by rw[zC];exact h.c3,fun o=>by rw[hf.frozen (p:=⟨bx,o,none⟩) hl (hd bx h.own)];exact h.free o,
  ⟨F,B,V,v,g,by rw[zC];exact hi.c1,by rw[zC];exact hi.c2,hf.owns hi.now (fun b e=>hd b (hi.vS b e).1),hf.owns hi.held (fun b e=>hd b (hi.hS b e).1),hi.vS,hi.hS,hi.fS,hx.1,hi.inj,hx.2⟩,h.ok⟩
theorem Ix.below{s:Qt}(h:Ix w X S bx bc st sh lns s)(hb:Below w.heap.size w w'):Ix w' X S bx bc st sh lns s :=
 h.vV (Qy.of (S:=fun _=>False) hb) (fun _ _ e=>e)
def Yu(w w':World)(X:Nat)(S:Nat->Prop)(bx bc:Nat)(st:Int)(sh:Bool)(lns:List Tm.Ln)(s:Qt):Prop :=
 ∃S':Nat->Prop,Ix w' X S' bx bc st sh lns s/\Qy S w w'/\∀i,S' i->S i\/w.heap.size<=i
theorem Yu.qb2{s:Qt}(h:Ix w X S bx bc st sh lns s)(hb:Below w.heap.size w w'):Yu w w' X S bx bc st sh lns s :=
 ⟨S,h.below hb,Qy.of hb,fun _ hi=>.inl hi⟩
def qgn(c:ByteArray->ByteArray->Int)(es:Tm.QU)(lo hi:ByteArray)(xc:Int)(w:World)(e:Ending)(w':World):Prop :=
 Below w.heap.size w w' /\
 if 64<lo.size\/64<hi.size then e=.returned (.tuple #[.slice none 0 0,.int .i64 7])
 else if xc<0 then e=.returned (.tuple #[.slice none 0 0,.int .i64 10])
 else ∃v,e=.returned (.tuple #[v,.int .i64 0])/\w'.ownsRow w.heap.size 67 2 v ((Tm.vM c es lo hi).take xc.toNat).length (qY ((Tm.vM c es lo hi).take xc.toNat))
def qwy(c:ByteArray->ByteArray->Int)(s:Qt)(lo hi:ByteArray)(xc:Int)(w:World)(e:Ending)(w':World):Prop:=qgn c (qv s) lo hi xc w e w'
theorem qcM:∀(a b:List UInt8),Lib.compareBytes a b=Tm.qcI a b
 | [],[]=>rfl
 | [],_::_=>rfl
 | _::_,[]=>rfl
 | a::x,b::y=>by
  rw[Lib.compareBytes,qcM x y];unfold Tm.qcI
  conv=>rhs;unfold Tm.jS
  by_cases h1:a<b
  ·simp[h1]
  ·by_cases h2:b<a
   ·simp[h1,h2]
   ·simp[h1,h2]
theorem qqF(a b:ByteArray)(w:World):(callFunc 185 #[.string a,.string b]).run Tryz.prog w=.ok (.value (.int .i64 (Tm.qcI a.data.toList b.data.toList))) w:=by
 rw[run_callFunc_extern Tryz.func185 (by kernel_rfl) (by kernel_rfl) (by kernel_rfl) (show Extern.find _=some Extern.BytealgCompare.compare by kernel_rfl),Lib.run_compareString,qcM];simp
theorem Qhg(a b:ByteArray)(w:World):Calls Tryz.prog 173 #[.string a,.string b] w fun e w'=>e=.returned (.int .i64 (Tm.qcI a.data.toList b.data.toList))/\w'=w:=by
 have h:=qqF a b w;go_enter Tryz.func173,Tryz.ntmps173
 go_wp2;go_ret;exact⟨rfl,rfl⟩
theorem qj4(a b:ByteArray)(w:World):Calls Tryz.prog 150 #[.string a,.string b] w fun e w'=>e=.returned (.int .i64 (Tm.qcI a.data.toList b.data.toList))/\w'=w:=by
 go_enter Tryz.func150,Tryz.ntmps150
 go_wp2_with fail
 refine(Qhg a b _).mono ?_;rintro e w' ⟨rfl,rfl⟩;go_wp2;go_ret;exact⟨rfl,rfl⟩
theorem qeL(b:Nat)(p q:ByteArray)(w:World)(h0:w.cell? ⟨b,0,none⟩=some (.string p)):Calls Tryz.prog 111 #[.pointer (some ⟨b,0,none⟩),.string q] w fun e w'=>e=.returned (.int .i64 (Tm.qcI p.data.toList q.data.toList))/\Below w.heap.size w w':=by
 go_enter Tryz.func111,Tryz.ntmps111
 go_wp2_with fail
 refine(qj4 p q _).mono ?_;rintro e w' ⟨rfl,rfl⟩;go_wp2;go_ret;exact⟨rfl,Below.refl _ _⟩
def Keyed(K:ByteArray->ByteArray)(c:ByteArray->ByteArray->Int):Prop:=∀a b,Tm.qcI (K a).data.toList (K b).data.toList=c a b
theorem qch(hf:∀o∈lns,Tm.Fit o)(hst:1<=st/\st<=4):Keyed (placeOf lns st sh) (qe lns st sh):=fun a b=>by
 have:=qo0 hf (sh:=sh) hst a b;simpa[placeOf]using this
theorem QqG(K:ByteArray->ByteArray)(c:ByteArray->ByteArray->Int)(hK:Keyed K c)(hT:Tm.Told c)(es:Tm.Zr)(hr:Tm.Zy (Tm.Yc c) (Tm.qj es))(B:Nat->Nat)(v:Value)(k:ByteArray)(w:World)(hrd:YG w K B v es)(hl:es.length<=1000) :
  Calls Tryz.prog 110 #[v,.string (K k),.func (.func 111) #[] #[]] w fun e w'=>e=.returned (.tuple #[.int .i64 (Tm.below c (Tm.qj es) k:Nat),.bool (Tm.yd c (Tm.qj es) k)])/\Below w.heap.size w w':=by
 obtain⟨a,cap,rfl⟩:=hrd.reads.shape;have HRD:=qb hrd;have HK:=qb hK
 have HB:Hid (∀i (hi:i<es.length),c es[i].2.1 k<0↔i<Tm.below c (Tm.qj es) k):=fun i hi=>by
  have:=Tm.qaW hT (k:=k) hr (by rw[Tm.qz];exact hi)
  rwa [Tm.xK hi]at this
 have HH:Hid (Tm.yd c (Tm.qj es) k=true↔∃hi:Tm.below c (Tm.qj es) k<es.length,c (es[Tm.below c (Tm.qj es) k]).2.1 k=0):=by
  unfold Hid;rw[Tm.qaV hT (k:=k) hr];constructor
  ·rintro⟨h1,h2⟩;rw[Tm.qz]at h1;rw[Tm.xK h1]at h2;exact⟨h1,h2⟩
  ·rintro⟨h1,h2⟩;refine⟨by rw[Tm.qz];exact h1,?_⟩;rw[Tm.xK h1];exact h2
 have hle:=Tm.qfk c (Tm.qj es) k;rw[Tm.qz]at hle;obtain⟨b,hb⟩:∃b,Tm.below c (Tm.qj es) k=b:=⟨_,rfl⟩
 obtain⟨has,qxI⟩:∃has,Tm.yd c (Tm.qj es) k=has:=⟨_,rfl⟩
 rw[hb]at HB hle⊢;rw[qxI]at HH⊢;have HBE:=qb hb;obtain⟨n,hn⟩:∃n,es.length=n:=⟨_,rfl⟩
 have HN:=qb hn;rw[hn]at hl hle
 have HRN:Hid (∀wr,Below w.heap.size w wr->YG wr K B (.slice a n cap) es):=fun wr hb=>by have:=hrd.below hb;rwa [hn]at this
 rw[hn];clear hrd hK hT hr hn hb qxI HRD;go_enter Tryz.func110,Tryz.ntmps110
 go_wp2_with fail
 go_loopg [9,10] n (fun kx s9 s10 wr=>∃lo hi:Nat,s9=.int .i64 lo/\s10=.int .i64 hi/\lo<=b/\b<=hi/\hi<=n/\hi-lo<=kx/\Hid (Below w.heap.size w wr))
 case atStart=>exact⟨0,n,rfl,rfl,Nat.zero_le _,hle,Nat.le_refl _,by omega,Below.refl _ _⟩
 case round =>
  obtain⟨lo,hi,rfl,rfl,hlb,hbh,hin,hg,HW⟩:=hrel;by_cases hlt:lo<hi
  ·have hm:(lo+hi) / 2<es.length:=by rw[HN.out];omega
   obtain⟨g,off,rfl,hgl,c0,hva⟩:=(HRN.out wr HW.out).get hm;have HC:=qb (HK.out es[(lo+hi) / 2].2.1 k);have HBA:=qb (HB.out _ hm);have HVA:=qb hva;generalize es[(lo+hi) / 2]=y at *
   have i1:(0:Int)<=((lo:Int)+(hi:Int)) / 2:=by omega
   have i2:((lo:Int)+(hi:Int)) / 2<(n:Int):=by omega
   have i3:(((lo:Int)+(hi:Int)) / 2).toNat=(lo+hi) / 2:=by omega
   clear hva;go_wp2_with fail
   refine(qeL (B y.1) (K y.2.1) (K k) _ HVA.out.2.1).mono ?_;rintro e w1 ⟨rfl,hb1⟩;rw[HC.out];have HW1:=qb (HW.out.trans (hb1.mono HW.out.size));clear hb1;by_cases hy:c y.2.1 k<0
   ·have qqi:=HBA.out.1 hy;go_wp2
    go_roundg (hi-((lo+hi) / 2+1))
    case measure=>omega
    case rel=>exact⟨(lo+hi) / 2+1,hi,by rw[show((lo:Int)+(hi:Int)) / 2+1=(((lo+hi) / 2+1:Nat):Int) by omega],rfl,by omega,hbh,hin,Nat.le_refl _,HW1.out⟩
   ·have hge:¬(lo+hi) / 2<b:=fun h=>hy (HBA.out.2 h);go_wp2
    go_roundg ((lo+hi) / 2-lo)
    case measure=>omega
    case rel=>exact⟨lo,(lo+hi) / 2,rfl,by rw[show((lo:Int)+(hi:Int)) / 2=(((lo+hi) / 2:Nat):Int) by omega],hlb,by omega,by omega,Nat.le_refl _,HW1.out⟩
  ·have e1:hi=b:=by omega
   have e2:lo=b:=by omega
   subst e1;subst e2;by_cases qqi:lo<n
   ·have hm:lo<es.length:=by rw[HN.out];omega
    obtain⟨g,off,rfl,hgl,c0,hva⟩:=(HRN.out wr HW.out).get hm;have HC:=qb (HK.out es[lo].2.1 k)
    have HHA:Hid (has=decide (c es[lo].2.1 k=0)):=by
     unfold Hid;rw[Bool.eq_iff_iff,HH.out,decide_eq_true_eq];constructor
     ·rintro⟨h1,h2⟩;have:=HBE.out;subst this;exact h2
     ·intro h2;have:=HBE.out;subst this;exact⟨hm,h2⟩
    have HVA:=qb hva;generalize es[lo]=y at *
    have i1:(0:Int)<=(lo:Int):=by omega
    have i2:(lo:Int)<(n:Int):=by omega
    clear hva;go_wp2_with fail
    refine(qeL (B y.1) (K y.2.1) (K k) _ HVA.out.2.1).mono ?_;rintro e w1 ⟨rfl,hb1⟩;rw[HC.out];have HW1:=qb (HW.out.trans (hb1.mono HW.out.size));clear hb1;go_wp2;go_ret2;exact⟨by rw[HHA.out];simp;rfl,HW1.out⟩
   ·have HHA:Hid (has=false):=by
     unfold Hid;rw[Bool.eq_false_iff];intro h;obtain⟨h1,_⟩:=HH.out.1 h;rw[HBE.out,HN.out]at h1;omega
    go_wp2;go_ret2;exact⟨by rw[HHA.out];rfl,HW.out⟩
theorem qfj(K:ByteArray->ByteArray)(c:ByteArray->ByteArray->Int)(hK:Keyed K c)(hT:Tm.Told c)(es:Tm.Zr)(hr:Tm.Zy (Tm.Yc c) (Tm.qj es))(B:Nat->Nat)(v:Value)(k:ByteArray)(w:World)(hrd:YG w K B v es)(hl:es.length<=1000) :
  Calls Tryz.prog 66 #[v,.string (K k)] w fun e w'=>e=.returned (.tuple #[.int .i64 (Tm.below c (Tm.qj es) k:Nat),.bool (Tm.yd c (Tm.qj es) k)])/\Below w.heap.size w w':=by
 obtain⟨a,cap,rfl⟩:=hrd.reads.shape;have HRD:=qb hrd;clear hrd;go_enter Tryz.func66,Tryz.ntmps66
 go_wp2_with fail
 refine(QqG K c hK hT es hr B _ k _ HRD.out hl).mono ?_;rintro e w1 ⟨rfl,hb1⟩;have HB1:=qb hb1;clear hb1;go_wp2;go_ret2;exact⟨rfl,HB1.out⟩
theorem qaz(K:ByteArray->ByteArray)(c:ByteArray->ByteArray->Int)(hK:Keyed K c)(hT:Tm.Told c)(es:Tm.Zr)(hr:Tm.Zy (Tm.Yc c) (Tm.qj es))(B:Nat->Nat)(v:Value)(k:ByteArray)(w:World)(hrd:YG w K B v es)(hl:es.length<=1000) :
  Calls Tryz.prog 108 #[v,.string (K k)] w fun e w'=>e=.returned (.int .i64 (Tm.below c (Tm.qj es) k:Nat))/\Below w.heap.size w w':=by
 obtain⟨a,cap,rfl⟩:=hrd.reads.shape;have HRD:=qb hrd;clear hrd;go_enter Tryz.func108,Tryz.ntmps108
 go_wp2_with fail
 refine(qfj K c hK hT es hr B _ k _ HRD.out hl).mono ?_;rintro e w1 ⟨rfl,hb1⟩;have HB1:=qb hb1;clear hb1;go_wp2;go_ret;exact⟨rfl,HB1.out⟩
theorem Ix.turn{w':World}{s:Qt}{h v':Value}(hx:Ix w X S bx bc st sh lns s)(hi:Qb1 w X S F bx (placeOf lns st sh) s B V v h)
  (hf:Qy (fun i=>i=bx\/v.ownBlock=some i) w w') (hc0:w'.cell? ⟨bx,0,none⟩=w.cell? ⟨bx,0,none⟩) (hc1:w'.cell? ⟨bx,1,none⟩=some v') (hc2:w'.cell? ⟨bx,2,none⟩=w.cell? ⟨bx,2,none⟩) (hc3:w'.cell? ⟨bx,3,none⟩=w.cell? ⟨bx,3,none⟩) (hfr:∀o,w'.frozen? ⟨bx,o,none⟩=w.frozen? ⟨bx,o,none⟩)
  (l:Tm.Zr) (M:Nat) (B':Nat->Nat) (N:Nat->Prop) (hB:∀n,n<s.next->B' n=B n) (qp:w'.ownsRow X 138 1 v' l.length (jm B' l))
  (hat:∀g,v'.ownBlock=some g->v.ownBlock=some g\/(w.heap.size<=g/\¬N g)) (hN:∀i,N i->w.heap.size<=i/\i<w'.heap.size) (qb0:∀x∈l,x∈s.now\/(N (B' x.1)/\QaA w' (placeOf lns st sh) B' x/\x.1=s.next))
  (hok:Qal (qe lns st sh) {s with now:=l,next:=M}):Yu w w' X S bx bc st sh lns {s with now:=l,next:=M}:=by
 have hl:=(hx.from_ bx hx.own).2
 have quv:=hi.fixed hf (fun i e=>by
  rintro(e'|e')
  ·exact(hi.fS i e).2 e'
  ·exact(hi.vS i e').2.2.2 e)
 have hlt:∀i,S i->i<w.heap.size:=fun i e=>(hx.from_ i e).2;have hold:∀x∈jA s,B' x.1=B x.1:=fun x e=>hB _ (hx.ok.less x e)
 have qQ:∀x∈jA {s with now:=l,next:=M},x∈jA s\/(N (B' x.1)/\QaA w' (placeOf lns st sh) B' x/\x.1=s.next):=fun x e=>by
  rcases qo3 e with e|⟨g,hg,e⟩
  ·rcases qb0 x e with e2|e2
   ·exact .inl (vR e2)
   ·exact .inr e2
  ·exact .inl (qdv (s:=s) hg e)
 have qmo:∀g,v'.ownBlock=some g->g≠bx:=fun g e=>by
  rcases hat g e with e1|e1
  ·exact(hi.vS g e1).2.1
  ·rintro rfl;omega
 refine⟨fun i=>S i\/v'.ownBlock=some i\/N i,⟨fun i e=>?_,.inl hx.own,by rw[hc0];exact hx.c0,by rw[hc3];exact hx.c3,fun o=>by rw[hfr];exact hx.free o,⟨fun i=>F i\/N i,B',V,v',h,hc1,by rw[hc2];exact hi.c2,qp,?_,fun g e=>?_,fun g e=>?_,fun i e=>?_,fun x e=>?_,fun x ex y ey e=>?_,fun g hg=>?_⟩,hok⟩,hf.mono (fun i e=>?_),fun i e=>?_⟩
 ·rcases e with e|e|e
  ·exact⟨(hx.from_ i e).1,Nat.lt_of_lt_of_le (hx.from_ i e).2 hf.size⟩
  ·exact qp.lt i e
  ·exact⟨Nat.le_trans (Nat.le_of_lt (Nat.lt_of_le_of_lt (hx.from_ bx hx.own).1 hl)) (hN i e).1,(hN i e).2⟩
 ·exact hf.owns hi.held (fun b e=>by
   rintro(e'|e')
   ·exact(hi.hS b e).2.1 e'
   ·exact(hi.vS b e').2.2.1 e)
 ·refine⟨.inr (.inl e),qmo g e,fun e2=>?_,?_⟩
  ·rcases hat g e with e1|e1
   ·exact(hi.vS g e1).2.2.1 e2
   ·have:=hlt g (hi.hS g e2).1;omega
  ·rcases hat g e with e1|e1
   ·rintro(e3|e3)
    ·exact(hi.vS g e1).2.2.2 e3
    ·have:=hlt g (hi.vS g e1).1;have:=(hN g e3).1;omega
   ·rintro(e3|e3)
    ·have:=hlt g (hi.fS g e3).1;omega
    ·exact e1.2 e3
 ·refine⟨.inl (hi.hS g e).1,(hi.hS g e).2.1,?_⟩;rintro(e3|e3)
  ·exact(hi.hS g e).2.2 e3
  ·have:=hlt g (hi.hS g e).1;have:=(hN g e3).1;omega
 ·rcases e with e|e
  ·exact⟨.inl (hi.fS i e).1,(hi.fS i e).2⟩
  ·exact⟨.inr (.inr e),by rintro rfl;have:=(hN i e).1;omega⟩
 ·rcases qQ x e with e1|⟨e1,e2,_⟩
  ·rw[hold x e1];exact⟨.inl (quv.1 x e1).1,(quv.1 x e1).2.jb (Nat.le_refl _) rfl (hold x e1)⟩
  ·exact⟨.inr e1,e2⟩
 ·rcases qQ x ex with a1|⟨a1,a2,a3⟩<;>rcases qQ y ey with b1|⟨b1,b2,b3⟩
  ·rw[hold x a1,hold y b1]at e;exact hi.inj x a1 y b1 e
  ·rw[hold x a1]at e;have:=hlt _ (hi.fS _ (hi.qem x a1).1).1;have:=(hN _ b1).1;omega
  ·rw[hold y b1]at e;have:=hlt _ (hi.fS _ (hi.qem y b1).1).1;have:=(hN _ a1).1;omega
  ·omega
 ·have h1:=quv.2 g hg;refine⟨?_,fun b e=>.inl (h1.2 b e)⟩;rw[qi1 (fun x hx'=>hold x (qdv hg hx'))];exact h1.1
 ·rcases e with rfl|e
  ·exact hx.own
  ·exact(hi.vS i e).1
 ·rcases e with e|e|e
  ·exact .inl e
  ·rcases hat i e with e1|e1
   ·exact .inl (hi.vS i e1).1
   ·exact .inr e1.1
  ·exact .inr (hN i e).1
