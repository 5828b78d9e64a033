/-
  DERIVED. GIVEN WITH THE SEED: THE CARDS: each row of YtdojeamhehkhoaaGreatDoorRows.lean that lists a variable, with what it lists TIED to the program's text (the seventh form; the later family's looks); each row that meets fmt, with fmt's text TOLD by the authors' own Lean function (tested against real Go, not proved from fmt's source: count such statements apart). THE CARD IS WHAT COUNTS. Prove the row's statement (the work); the ties are given (YtdojeamhehkhoaaGreatDoorTie.lean); close each card by the builder's one call (the guide's Derived/Test/ToyasCard.lean, 'card_holds'). Laid BY PROGRAM, IN A SANDBOX (cutbox-door.mjs). By AI agents, Wed Nov 11 2026. No macro, syntax, notation, axiom, sorry.
-/
import Derived.Test.YtdojeamhehkhoaaGreatDoorRows
import GoSem.ClaimSeven
namespace Go.Proofs.YtdojeamhehkhoaaGreatDoor
namespace Rows

/-- THE TIED CARD OF 'tomelaw.Orders'. -/
def ordersCard : Claim7 := { stood := { row := ordersRow, standIns := [], harness := (true, "f88a0e63489abaf503b5a4bd131f7e5eb74859b38a754d0a81761b2344b19695"), looks := true }, kinds := [], alts := [], laidByText := true, laidKinds := [.data, .pinned], laidTests := true, laidLooks := .later }
def OrdersCardSaid : Prop := Claim7.holds Tryz.pinned (.plain (OpenSpec.ofChange ordersSpec)) ordersCard

/-- THE TIED CARD OF 'tomelaw.Shelves'. -/
def shelvesCard : Claim7 := { stood := { row := shelvesRow, standIns := [], harness := (true, "f88a0e63489abaf503b5a4bd131f7e5eb74859b38a754d0a81761b2344b19695"), looks := true }, kinds := [], alts := [], laidByText := true, laidKinds := [.data, .pinned], laidTests := true, laidLooks := .later }
def ShelvesCardSaid : Prop := Claim7.holds Tryz.pinned (.plain (OpenSpec.ofChange shelvesSpec)) shelvesCard

/-- THE TIED CARD OF 'tomekeep.Sorted'. -/
def sortedCard : Claim7 := { stood := { row := sortedRow, standIns := [], harness := (true, "f88a0e63489abaf503b5a4bd131f7e5eb74859b38a754d0a81761b2344b19695"), looks := true }, kinds := [], alts := [], laidByText := true, laidKinds := [.data, .pinned], laidTests := true, laidLooks := .later }
def SortedCardSaid : Prop := Claim7.holds Tryz.pinned (.plain (OpenSpec.ofChange sortedSpec)) sortedCard

/-- THE SECOND FORM's CARD OF 'tomelaw.Orders'. -/
def ordersUptoCard : Claim7 := { stood := { row := ordersUptoRow, standIns := [], harness := (true, "f88a0e63489abaf503b5a4bd131f7e5eb74859b38a754d0a81761b2344b19695"), looks := true }, kinds := [], alts := [], laidByText := true, laidKinds := [.data, .pinned], laidTests := true, laidLooks := .later }
def OrdersUptoCardSaid : Prop := Claim7.holds Tryz.pinned (.plain (OpenSpec.upto ordersSpec)) ordersUptoCard

/-- THE SECOND FORM's CARD OF 'tomelaw.Shelves'. -/
def shelvesUptoCard : Claim7 := { stood := { row := shelvesUptoRow, standIns := [], harness := (true, "f88a0e63489abaf503b5a4bd131f7e5eb74859b38a754d0a81761b2344b19695"), looks := true }, kinds := [], alts := [], laidByText := true, laidKinds := [.data, .pinned], laidTests := true, laidLooks := .later }
def ShelvesUptoCardSaid : Prop := Claim7.holds Tryz.pinned (.plain (OpenSpec.upto shelvesSpec)) shelvesUptoCard

/-- THE SECOND FORM's CARD OF 'tomekeep.Sorted'. -/
def sortedUptoCard : Claim7 := { stood := { row := sortedUptoRow, standIns := [], harness := (true, "f88a0e63489abaf503b5a4bd131f7e5eb74859b38a754d0a81761b2344b19695"), looks := true }, kinds := [], alts := [], laidByText := true, laidKinds := [.data, .pinned], laidTests := true, laidLooks := .later }
def SortedUptoCardSaid : Prop := Claim7.holds Tryz.pinned (.plain (OpenSpec.upto sortedSpec)) sortedUptoCard
end Rows
end Go.Proofs.YtdojeamhehkhoaaGreatDoor
