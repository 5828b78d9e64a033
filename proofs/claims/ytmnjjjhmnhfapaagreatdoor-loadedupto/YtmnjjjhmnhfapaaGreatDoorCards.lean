/-
  DERIVED. GIVEN WITH THE SEED: THE CARDS: each row of YtmnjjjhmnhfapaaGreatDoorRows.lean that lists a variable, with what it lists TIED to the program's text (the seventh form; the later family's looks); each row that meets fmt, with fmt's text TOLD by the authors' own Lean function (tested against real Go, not proved from fmt's source: count such statements apart). THE CARD IS WHAT COUNTS. Prove the row's statement (the work); the ties are given (YtmnjjjhmnhfapaaGreatDoorTie.lean); close each card by the builder's one call (the guide's Derived/Test/ToyasCard.lean, 'card_holds'). Laid BY PROGRAM, IN A SANDBOX (cutbox-door.mjs). By AI agents, Wed Nov 11 2026. No macro, syntax, notation, axiom, sorry.
-/
import Derived.Test.YtmnjjjhmnhfapaaGreatDoorRows
import GoSem.ClaimSeven
namespace Go.Proofs.YtmnjjjhmnhfapaaGreatDoor
namespace Rows

/-- THE TIED CARD OF 'tomelaw.Orders'. -/
def ordersCard : Claim7 := { stood := { row := ordersRow, standIns := [], harness := (true, "d43a6781ecf6d3b044e2564d202a554d3aecb228205526f4c8ff071c199fa429"), looks := true }, kinds := [], alts := [], goes := true, laidByText := true, laidKinds := [.data, .pinned], laidTests := true, laidLooks := .later }
def OrdersCardSaid : Prop := Claim7.holds Tryz.pinned (.plain (OpenSpec.ofChange ordersSpec)) ordersCard

/-- THE TIED CARD OF 'tomelaw.Shelves'. -/
def shelvesCard : Claim7 := { stood := { row := shelvesRow, standIns := [], harness := (true, "d43a6781ecf6d3b044e2564d202a554d3aecb228205526f4c8ff071c199fa429"), looks := true }, kinds := [], alts := [], goes := true, laidByText := true, laidKinds := [.data, .pinned], laidTests := true, laidLooks := .later }
def ShelvesCardSaid : Prop := Claim7.holds Tryz.pinned (.plain (OpenSpec.ofChange shelvesSpec)) shelvesCard

/-- THE TIED CARD OF 'tomelaw.All'. -/
def allCard : Claim7 := { stood := { row := allRow, standIns := [], harness := (true, "d43a6781ecf6d3b044e2564d202a554d3aecb228205526f4c8ff071c199fa429"), looks := true }, kinds := [], alts := [], goes := true, laidByText := true, laidKinds := [.data, .pinned], laidTests := true, laidLooks := .later }
def AllCardSaid : Prop := Claim7.holds Tryz.pinned (.plain (OpenSpec.ofChange allSpec)) allCard

/-- THE TIED CARD OF 'tomekeep.Sorted'. -/
def sortedCard : Claim7 := { stood := { row := sortedRow, standIns := [], harness := (true, "d43a6781ecf6d3b044e2564d202a554d3aecb228205526f4c8ff071c199fa429"), looks := true }, kinds := [], alts := [], goes := true, laidByText := true, laidKinds := [.data, .pinned], laidTests := true, laidLooks := .later }
def SortedCardSaid : Prop := Claim7.holds Tryz.pinned (.plain (OpenSpec.ofChange sortedSpec)) sortedCard

/-- THE TIED CARD OF 'tomekeep.Frozen'. -/
def frozenCard : Claim7 := { stood := { row := frozenRow, standIns := [], harness := (true, "d43a6781ecf6d3b044e2564d202a554d3aecb228205526f4c8ff071c199fa429"), looks := true }, kinds := [], alts := [], goes := true, laidByText := true, laidKinds := [.data, .pinned], laidTests := true, laidLooks := .later }
def FrozenCardSaid : Prop := Claim7.holds Tryz.pinned (.plain (OpenSpec.ofChange frozenSpec)) frozenCard

/-- THE TIED CARD OF 'tomekeep.Lean'. -/
def leanCard : Claim7 := { stood := { row := leanRow, standIns := [], harness := (true, "d43a6781ecf6d3b044e2564d202a554d3aecb228205526f4c8ff071c199fa429"), looks := true }, kinds := [], alts := [], goes := true, laidByText := true, laidKinds := [.data, .pinned], laidTests := true, laidLooks := .later }
def LeanCardSaid : Prop := Claim7.holds Tryz.pinned (.plain (OpenSpec.ofChange leanSpec)) leanCard

/-- THE TIED CARD OF 'tomekeep.Loaded'. -/
def loadedCard : Claim7 := { stood := { row := loadedRow, standIns := [], harness := (true, "d43a6781ecf6d3b044e2564d202a554d3aecb228205526f4c8ff071c199fa429"), looks := true }, kinds := [], alts := [], goes := true, laidByText := true, laidKinds := [.data, .pinned], laidTests := true, laidLooks := .later }
def LoadedCardSaid : Prop := Claim7.holds Tryz.pinned (.plain (OpenSpec.ofChange loadedSpec)) loadedCard

/-- THE SECOND FORM's CARD OF 'tomelaw.Orders'. -/
def ordersUptoCard : Claim7 := { stood := { row := ordersUptoRow, standIns := [], harness := (true, "d43a6781ecf6d3b044e2564d202a554d3aecb228205526f4c8ff071c199fa429"), looks := true }, kinds := [], alts := [], goes := true, laidByText := true, laidKinds := [.data, .pinned], laidTests := true, laidLooks := .later }
def OrdersUptoCardSaid : Prop := Claim7.holds Tryz.pinned (.plain (OpenSpec.upto ordersSpec)) ordersUptoCard

/-- THE SECOND FORM's CARD OF 'tomelaw.Shelves'. -/
def shelvesUptoCard : Claim7 := { stood := { row := shelvesUptoRow, standIns := [], harness := (true, "d43a6781ecf6d3b044e2564d202a554d3aecb228205526f4c8ff071c199fa429"), looks := true }, kinds := [], alts := [], goes := true, laidByText := true, laidKinds := [.data, .pinned], laidTests := true, laidLooks := .later }
def ShelvesUptoCardSaid : Prop := Claim7.holds Tryz.pinned (.plain (OpenSpec.upto shelvesSpec)) shelvesUptoCard

/-- THE SECOND FORM's CARD OF 'tomelaw.All'. -/
def allUptoCard : Claim7 := { stood := { row := allUptoRow, standIns := [], harness := (true, "d43a6781ecf6d3b044e2564d202a554d3aecb228205526f4c8ff071c199fa429"), looks := true }, kinds := [], alts := [], goes := true, laidByText := true, laidKinds := [.data, .pinned], laidTests := true, laidLooks := .later }
def AllUptoCardSaid : Prop := Claim7.holds Tryz.pinned (.plain (OpenSpec.upto allSpec)) allUptoCard

/-- THE SECOND FORM's CARD OF 'tomekeep.Sorted'. -/
def sortedUptoCard : Claim7 := { stood := { row := sortedUptoRow, standIns := [], harness := (true, "d43a6781ecf6d3b044e2564d202a554d3aecb228205526f4c8ff071c199fa429"), looks := true }, kinds := [], alts := [], goes := true, laidByText := true, laidKinds := [.data, .pinned], laidTests := true, laidLooks := .later }
def SortedUptoCardSaid : Prop := Claim7.holds Tryz.pinned (.plain (OpenSpec.upto sortedSpec)) sortedUptoCard

/-- THE SECOND FORM's CARD OF 'tomekeep.Frozen'. -/
def frozenUptoCard : Claim7 := { stood := { row := frozenUptoRow, standIns := [], harness := (true, "d43a6781ecf6d3b044e2564d202a554d3aecb228205526f4c8ff071c199fa429"), looks := true }, kinds := [], alts := [], goes := true, laidByText := true, laidKinds := [.data, .pinned], laidTests := true, laidLooks := .later }
def FrozenUptoCardSaid : Prop := Claim7.holds Tryz.pinned (.plain (OpenSpec.upto frozenSpec)) frozenUptoCard

/-- THE SECOND FORM's CARD OF 'tomekeep.Lean'. -/
def leanUptoCard : Claim7 := { stood := { row := leanUptoRow, standIns := [], harness := (true, "d43a6781ecf6d3b044e2564d202a554d3aecb228205526f4c8ff071c199fa429"), looks := true }, kinds := [], alts := [], goes := true, laidByText := true, laidKinds := [.data, .pinned], laidTests := true, laidLooks := .later }
def LeanUptoCardSaid : Prop := Claim7.holds Tryz.pinned (.plain (OpenSpec.upto leanSpec)) leanUptoCard

/-- THE SECOND FORM's CARD OF 'tomekeep.Loaded'. -/
def loadedUptoCard : Claim7 := { stood := { row := loadedUptoRow, standIns := [], harness := (true, "d43a6781ecf6d3b044e2564d202a554d3aecb228205526f4c8ff071c199fa429"), looks := true }, kinds := [], alts := [], goes := true, laidByText := true, laidKinds := [.data, .pinned], laidTests := true, laidLooks := .later }
def LoadedUptoCardSaid : Prop := Claim7.holds Tryz.pinned (.plain (OpenSpec.upto loadedSpec)) loadedUptoCard
end Rows
end Go.Proofs.YtmnjjjhmnhfapaaGreatDoor
