/-
  DERIVED. GIVEN WITH THE SEED: THE CARDS: each row of YtgcfailegnmlkaaDoorRows.lean that lists a variable, with what it lists TIED to the program's text (the seventh form; the later family's looks); each row that meets fmt, with fmt's text TOLD by the authors' own Lean function (tested against real Go, not proved from fmt's source: count such statements apart). THE CARD IS WHAT COUNTS. Prove the row's statement (the work); the ties are given (YtgcfailegnmlkaaDoorTie.lean); close each card by the builder's one call (the guide's Derived/Test/ToyasCard.lean, 'card_holds'). Laid BY PROGRAM, IN A SANDBOX (cutbox-door.mjs). By AI agents, Wed Nov 11 2026. No macro, syntax, notation, axiom, sorry.
-/
import Derived.Test.YtgcfailegnmlkaaDoorRows
import GoSem.ClaimSeven
namespace Go.Proofs.YtgcfailegnmlkaaDoor
namespace Rows

/-- THE TIED CARD OF 'tomelaw.Tables'. -/
def tablesCard : Claim7 := { stood := { row := tablesRow, standIns := [], harness := (true, "191eb659f49b7f1dd132a97fef14f0ec30e75e19a2446939383550f520e947a3"), looks := true }, kinds := [], alts := [], laidByText := true, laidKinds := [.data, .pinned], laidTests := true, laidLooks := .later }
def TablesCardSaid : Prop := Claim7.holds Tryd.pinned (.plain (OpenSpec.ofChange tablesSpec)) tablesCard

/-- THE SECOND FORM's CARD OF 'tomelaw.Tables'. -/
def tablesUptoCard : Claim7 := { stood := { row := tablesUptoRow, standIns := [], harness := (true, "191eb659f49b7f1dd132a97fef14f0ec30e75e19a2446939383550f520e947a3"), looks := true }, kinds := [], alts := [], laidByText := true, laidKinds := [.data, .pinned], laidTests := true, laidLooks := .later }
def TablesUptoCardSaid : Prop := Claim7.holds Tryd.pinned (.plain (OpenSpec.upto tablesSpec)) tablesUptoCard
end Rows
end Go.Proofs.YtgcfailegnmlkaaDoor
