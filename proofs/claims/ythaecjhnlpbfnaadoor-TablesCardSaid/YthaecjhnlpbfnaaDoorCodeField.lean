import Derived.Test.YthaecjhnlpbfnaaDoorCodeHas
namespace Go.Proofs.YthaecjhnlpbfnaaDoor
open Go.RowKit
theorem field_rank (c v u : Value) (w : World) : (Instr.field 141 (.agg #[c, v, u]) 0).run Tryd.prog w = .ok (.agg #[c]) w := by kernel_rfl
theorem field_makeup (c v u : Value) (w : World) : (Instr.field 141 (.agg #[c, v, u]) 1).run Tryd.prog w = .ok (.agg #[v]) w := by kernel_rfl
theorem field_weighing (c v u : Value) (w : World) : (Instr.field 141 (.agg #[c, v, u]) 2).run Tryd.prog w = .ok (.agg #[u]) w := by kernel_rfl
theorem field_parts (a : Option Addr) (n m : Nat) (w : World) : (Instr.field 136 (.agg #[.slice a n m]) 0).run Tryd.prog w = .ok (.slice a n m) w := by kernel_rfl
end Go.Proofs.YthaecjhnlpbfnaaDoor
