import Derived.Test.YtmnjjjhmnhfapaaGreatDoorMRefNew
namespace Go.Proofs.YtmnjjjhmnhfapaaGreatDoor
open Go.RowKit
def QvQ(K:ByteArray->Int->Bool->Nat->Option Addr->World->Prop):Prop:=∀s st sh B B' c (w w':World),K s st sh B c w->B'<=B->w.heap.size<=w'.heap.size->(∀g,B<=g->g<w.heap.size->w'.heap[g]?=w.heap[g]?)->K s st sh B' c w'
def Qws(K:ByteArray->Int->Bool->Nat->Option Addr->World->Prop):Prop:=QvQ K/\∀(s:ByteArray) (st:Int) (sh:Bool) (w:World),s.size<=maxLen ->
 Calls Tryz.prog 34 #[.string s,.agg #[.int .i64 st,.bool sh]] w fun e w' =>
  ∃c,e=.returned (.tuple #[.pointer c,.int .i64 (Tm.zH s.data.toList st).2.1,.int .i64 (Tm.zH s.data.toList st).2.2])/\(c=none↔(Tm.zH s.data.toList st).2.2≠0)/\K s st sh w.heap.size c w'/\Below w.heap.size w w'
