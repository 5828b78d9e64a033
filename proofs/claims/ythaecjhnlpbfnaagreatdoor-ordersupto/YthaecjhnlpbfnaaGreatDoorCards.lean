/-
  DERIVED. GIVEN WITH THE SEED: THE CARDS: each row of YthaecjhnlpbfnaaGreatDoorRows.lean that lists a variable, with what it lists TIED to the program's text (the seventh form; the later family's looks); each row that meets fmt, with fmt's text TOLD by the authors' own Lean function (tested against real Go, not proved from fmt's source: count such statements apart). THE CARD IS WHAT COUNTS. Prove the row's statement (the work); the ties are given (YthaecjhnlpbfnaaGreatDoorTie.lean); close each card by the builder's one call (the guide's Derived/Test/ToyasCard.lean, 'card_holds'). Laid BY PROGRAM, IN A SANDBOX (cutbox-door.mjs). By AI agents, Wed Nov 11 2026. No macro, syntax, notation, axiom, sorry.
-/
import Derived.Test.YthaecjhnlpbfnaaGreatDoorRows
import GoSem.ClaimSeven
namespace Go.Proofs.YthaecjhnlpbfnaaGreatDoor
namespace Rows

/-- THE TIED CARD OF 'tomelaw.Orders'. -/
def ordersCard : Claim7 := { stood := { row := ordersRow, standIns := [], harness := (true, "00c3d19fe712aa9a737afcb5fc521bbf1cd129f7006d8016a05073ee7a824f88"), looks := true }, kinds := [], alts := [], laidByText := true, laidKinds := [.data, .pinned], laidTests := true, laidLooks := .later }
def OrdersCardSaid : Prop := Claim7.holds Tryz.pinned (.plain (OpenSpec.ofChange ordersSpec)) ordersCard

/-- THE SECOND FORM's CARD OF 'tomelaw.Orders'. -/
def ordersUptoCard : Claim7 := { stood := { row := ordersUptoRow, standIns := [], harness := (true, "00c3d19fe712aa9a737afcb5fc521bbf1cd129f7006d8016a05073ee7a824f88"), looks := true }, kinds := [], alts := [], laidByText := true, laidKinds := [.data, .pinned], laidTests := true, laidLooks := .later }
def OrdersUptoCardSaid : Prop := Claim7.holds Tryz.pinned (.plain (OpenSpec.upto ordersSpec)) ordersUptoCard
end Rows
end Go.Proofs.YthaecjhnlpbfnaaGreatDoor
