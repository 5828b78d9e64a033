import Derived.Deep.AppendLies
import Derived.BigRegion
import Derived.Deep.DeepCutAuto
import Derived.Test.YtmnjjjhmnhfapaaGreatDoorMRefNum
import Derived.Test.YtmnjjjhmnhfapaaGreatDoorMRefWords
namespace Go.Proofs.YtmnjjjhmnhfapaaGreatDoor
open Go.RowKit
variable {s:ByteArray}{c a b:List UInt8}
theorem ql6{α:Type}{l:List α}(h:l.length=3):∃a b c,l=[a,b,c]:=by
 match l,h with
 | [a,b,c],_=>exact⟨a,b,c,rfl⟩
theorem qe7{c:UInt8}{bs:List ByteArray}(h:bs.map (·.data.toList)=Tm.split c s.data.toList)(hs:s.size<=8192):∀b∈bs,b.size<=8192:=by
 intro b hb;have:=Tm.qnt c s.data.toList b.data.toList (by rw[<-h];exact List.mem_map.2 ⟨b,hb,rfl⟩);rw[zI,zI]at this;omega
def star(s:ByteArray):Bool:=s.data.toList.head? == some 42
def bare(s:ByteArray):ByteArray:=if star s then s.extract 1 s.size else s
theorem qm4(h:s.size=0):star s=false:=by
 have:s.data.toList=[]:=List.eq_nil_of_length_eq_zero (by rw[zI];exact h);simp[star,this]
theorem quZ(h:star s=true):0<s.size:=by
 rcases Nat.eq_zero_or_pos s.size with h0|h0
 ·rw[qm4 h0]at h;cases h
 ·exact h0
theorem qkq(s:ByteArray):Tm.elem s.data.toList=Tm.qaa (star s) (Tm.split 46 (bare s).data.toList):=by
 unfold bare star
 cases hl:s.data.toList with
 | nil=>simp[Tm.elem,hl]
 | cons x r =>
  by_cases hx:x=42
  ·subst hx
   have:(s.extract 1 s.size).data.toList=r:=by
    rw[vN,hl,<-zI,hl];simp
   have h2:(if(((42:UInt8)::r).head? == some 42)=true then s.extract 1 s.size else s)=s.extract 1 s.size:=rfl;rw[h2,this];rfl
  ·have h1:((x::r).head? == some 42)=false:=by simp[hx]
   rw[h1];simp[Tm.elem,hx,hl]
theorem qkp(s:ByteArray):(bare s).size<=s.size:=by
 unfold bare;split<;>simp
theorem qp1{v:Bool}(h:¬((0<=Tm.num a/\0<=Tm.num b/\0<=Tm.num c)/\Tm.num a<=65535/\Tm.num b<=65535/\Tm.num c<=65535)):Tm.qaa v [a,b,c]=none:=by
 simp only[Tm.qaa];rw[if_neg h]
theorem qiP{v:Bool}(h:(0<=Tm.num a/\0<=Tm.num b/\0<=Tm.num c)/\Tm.num a<=65535/\Tm.num b<=65535/\Tm.num c<=65535):Tm.qaa v [a,b,c]=some ⟨Tm.num a,Tm.num b,Tm.num c,v⟩:=by
 simp only[Tm.qaa];rw[if_pos h]
