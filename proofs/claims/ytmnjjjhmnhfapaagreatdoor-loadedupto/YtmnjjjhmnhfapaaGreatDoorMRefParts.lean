import Derived.BigGuardPart
import Derived.Deep.DeepCutAuto
import Derived.Test.YtmnjjjhmnhfapaaGreatDoorMRefSame
namespace Go.Proofs.YtmnjjjhmnhfapaaGreatDoor
open Go.RowKit
variable {k cap:Nat}{w:World}{a:Option Addr}{l:List Int}
def yJ(x:Tm.El):List Value:=[.int .i64 x.p,.int .i64 x.s,.int .i64 x.t,.bool x.v]
def qG(l:List Tm.El):List Value:=l.flatMap yJ
theorem qbn(l:List Tm.El):(qG l).length=l.length * 4:=by
 induction l with
 | nil=>rfl
 | cons a r ih=>simp only[qG,List.flatMap_cons,List.length_append,List.length_cons]at *;rw[ih];simp[yJ];omega
theorem qbH{l:List Tm.El}{f:Nat}(h:k<l.length)(hf:f<4):(qG l)[k * 4+f]?=(yJ l[k])[f]?:=by
 induction l generalizing k with
 | nil=>simp at h
 | cons a r ih =>
  cases k with
  | zero =>
   simp only[qG,List.flatMap_cons];rw[List.getElem?_append_left (by simp[yJ];omega)];simp
  | succ k =>
   simp only[qG,List.flatMap_cons];rw[List.getElem?_append_right (by simp[yJ];omega)];have:=ih (k:=k) (by simpa using h);simp only[qG]at this;simp only[yJ,List.length_cons,List.length_nil]at *;rw[show(k+1) * 4+f-(0+1+1+1+1)=k * 4+f from by omega,this];rfl
theorem qfZ{m:Nat}{els:List Tm.El}(h:Reads w (.slice a m cap) 4 els.length (qG els))(hk:k<els.length) :
  ∃g off,a=some ⟨g,off,none⟩/\g<w.heap.size/\w.cell? ⟨g,off+k * 4,none⟩=some (.int .i64 els[k].p)/\w.cell? ⟨g,off+k * 4+1,none⟩=some (.int .i64 els[k].s)/\w.cell? ⟨g,off+k * 4+2,none⟩=some (.int .i64 els[k].t)/\w.cell? ⟨g,off+k * 4+3,none⟩=some (.bool els[k].v):=by
 obtain⟨g,off,z8,he,hg,hc⟩:=h.form (by rw[qbn];omega);cases he
 exact⟨g,off,rfl,hg,hc (k * 4) _ (by have:=qbH hk (f:=0) (by omega);simpa[yJ]using this),hc (k * 4+1) _ (by have:=qbH hk (f:=1) (by omega);simpa[yJ]using this),
  hc (k * 4+2) _ (by have:=qbH hk (f:=2) (by omega);simpa[yJ]using this),hc (k * 4+3) _ (by have:=qbH hk (f:=3) (by omega);simpa[yJ]using this)⟩
theorem qtB{els:List Tm.El}(h:(els.take k).any Tm.zK=false)(hk:k<els.length)(hx:Tm.zK els[k]=false):(els.take (k+1)).any Tm.zK=false:=by
 rw[List.take_succ_eq_append_getElem hk,List.any_append,h];simp[hx]
theorem qwl{els:List Tm.El}(hk:k<els.length)(hx:Tm.zK els[k]=true):els.any Tm.zK=true :=
 List.any_eq_true.2 ⟨els[k],List.getElem_mem hk,hx⟩
theorem Reads.at{m:Nat}(h:Reads w (.slice a m cap) 1 l.length (ints l))(hk:k<l.length) :
  ∃g off,a=some ⟨g,off,none⟩/\g<w.heap.size/\w.cell? ⟨g,off+k,none⟩=some (.int .i64 l[k]):=by
 obtain⟨g,off,z8,he,hg,hc⟩:=h.form (by rw[zw];omega);cases he;exact⟨g,off,rfl,hg,hc k _ (qlT hk)⟩
theorem Reads.tail{g off n:Nat}(h:Reads w (.slice (some ⟨g,off,none⟩) n cap) 1 l.length (ints l))(hn:0<l.length) :
  Reads w (.slice (some ⟨g,off+1,none⟩) (l.length-1) (cap-1)) 1 l.tail.length (ints l.tail):=by
 obtain⟨h1,hlt,a,z8,he,qV,hc⟩:=h;cases he;refine⟨by simp[ints],fun g' hg'=>hlt g' (by simpa[Value.ownBlock]using hg'),_,_,by rw[List.length_tail],⟨by rw[List.length_tail];omega,by omega⟩,fun j u hu=>?_⟩
 have hj:(ints l)[j+1]?=some u:=by
  rw[<-hu];simp[ints,List.getElem?_map]
 obtain⟨g',j0,he,zC⟩:=hc (j+1) u hj;cases he;exact⟨g,off+1,rfl,by rw[<-zC];congr 2;omega⟩
theorem qeX{lns:List Tm.Ln}{r:Int}(h:lns.find? (Tm.yW r)=none):Tm.parts lns r=[]:=by unfold Tm.parts;rw[h]
