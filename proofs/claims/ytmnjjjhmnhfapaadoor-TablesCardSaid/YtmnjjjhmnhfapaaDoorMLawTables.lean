import Derived.Test.YtmnjjjhmnhfapaaDoorMLawPlain
namespace Go.Proofs.YtmnjjjhmnhfapaaDoor
open Go.RowKit

set_option maxRecDepth 100000 in
set_option maxHeartbeats 1000000 in
theorem Tables_any {K : ByteArray → Int → Bool → Nat → Option Addr → World → Prop} (hNew : NewSaid K) (s : ByteArray) (st : Int) (sh : Bool) (w : World) (hs : s.size ≤ maxLen) :
    Calls Tryd.prog 3 #[.string s, .int .i64 st, .bool sh] w fun e w' => e = .returned (.bool true) ∧ Below w.heap.size w w' := by
  go_enter Tryd.func3, Tryd.ntmps3
  go_wp2_with fail
  refine (plain_any hNew _).mono ?_
  rintro e w1 ⟨a, rfl, _, hb1⟩
  go_wp2_with fail
  refine (opens_any hNew s st sh _ hs).mono ?_
  rintro e w2 ⟨⟨c, vl, rfl, hc, htab, _⟩, hb2⟩
  obtain ⟨al, capl, rfl⟩ := htab.rd.shape
  have HB : Hid (Below w.heap.size w w2) := hb1.trans (hb2.mono hb1.size)
  have hz : w.heap.size ≤ w2.heap.size := HB.out.size
  clear hb1 hb2 htab hc
  go_wp2
  go_ret
  exact ⟨rfl, HB.out.alloc hz _⟩
end Go.Proofs.YtmnjjjhmnhfapaaDoor
