import Derived.Deep.QuietTactic
import Derived.BigQuiet
import Derived.Test.YtmnjjjhmnhfapaaGreatDoorMSorts
namespace Go.Proofs.YtmnjjjhmnhfapaaGreatDoor
open Go.RowKit
variable {k:Nat}
def ints(l:List Int):List Value:=l.map (Value.int .i64)
theorem qlT{l:List Int}(h:k<l.length):(ints l)[k]?=some (.int .i64 l[k]):=by simp[ints,h]
theorem zw(l:List Int):(ints l).length=l.length:=by simp[ints]
theorem ja{a b:Bool}(h:a=b):Ending.returned (.bool a)=.returned (.bool b):=by rw[h]
def qdC(la lb:List Int)(k:Nat):Prop:=la.take k=lb.take k
theorem qov{la lb:List Int}(h:qdC la lb k)(hk:k<la.length)(hk':k<lb.length)(he:la[k]=lb[k]):qdC la lb (k+1):=by
 unfold qdC at *;rw[List.take_succ_eq_append_getElem hk,List.take_succ_eq_append_getElem hk',h,he]
theorem qq2{la lb:List Int}(h:qdC la lb k)(hk:la.length<=k)(hk':lb.length<=k):la=lb:=by
 unfold qdC at h
 rwa [List.take_of_length_le hk,List.take_of_length_le hk']at h
