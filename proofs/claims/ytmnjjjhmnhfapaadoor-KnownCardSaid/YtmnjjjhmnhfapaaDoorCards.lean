/-
  DERIVED. GIVEN WITH THE SEED: THE CARDS: each row of YtmnjjjhmnhfapaaDoorRows.lean that lists a variable, with what it lists TIED to the program's text (the seventh form; the later family's looks); each row that meets fmt, with fmt's text TOLD by the authors' own Lean function (tested against real Go, not proved from fmt's source: count such statements apart). THE CARD IS WHAT COUNTS. Prove the row's statement (the work); the ties are given (YtmnjjjhmnhfapaaDoorTie.lean); close each card by the builder's one call (the guide's Derived/Test/ToyasCard.lean, 'card_holds'). Laid BY PROGRAM, IN A SANDBOX (cutbox-door.mjs). By AI agents, Wed Nov 11 2026. No macro, syntax, notation, axiom, sorry.
-/
import Derived.Test.YtmnjjjhmnhfapaaDoorRows
import GoSem.ClaimSeven
namespace Go.Proofs.YtmnjjjhmnhfapaaDoor
namespace Rows

/-- THE TIED CARD OF 'tomelaw.Tables'. -/
def tablesCard : Claim7 := { stood := { row := tablesRow, standIns := [], harness := (true, "a82090e163711a9a674e74efb2128903d7562642734527ffa49a3d8328baeebf"), looks := true }, kinds := [], alts := [], laidByText := true, laidKinds := [.data, .pinned], laidTests := true, laidLooks := .later }
def TablesCardSaid : Prop := Claim7.holds Tryd.pinned (.plain (OpenSpec.ofChange tablesSpec)) tablesCard

/-- THE TIED CARD OF 'tomelaw.Forms'. -/
def formsCard : Claim7 := { stood := { row := formsRow, standIns := [], harness := (true, "a82090e163711a9a674e74efb2128903d7562642734527ffa49a3d8328baeebf"), looks := true }, kinds := [], alts := [], laidByText := true, laidKinds := [.data, .pinned], laidTests := true, laidLooks := .later }
def FormsCardSaid : Prop := Claim7.holds Tryd.pinned (.plain (OpenSpec.ofChange formsSpec)) formsCard

/-- THE TIED CARD OF 'tomekeep.Total'. -/
def totalCard : Claim7 := { stood := { row := totalRow, standIns := [], harness := (true, "a82090e163711a9a674e74efb2128903d7562642734527ffa49a3d8328baeebf"), looks := true }, kinds := [], alts := [], laidByText := true, laidKinds := [.data, .pinned], laidTests := true, laidLooks := .later }
def TotalCardSaid : Prop := Claim7.holds Tryd.pinned (.plain (OpenSpec.ofChange totalSpec)) totalCard

/-- THE TIED CARD OF 'tomekeep.Written'. -/
def writtenCard : Claim7 := { stood := { row := writtenRow, standIns := [], harness := (true, "a82090e163711a9a674e74efb2128903d7562642734527ffa49a3d8328baeebf"), looks := true }, kinds := [], alts := [], laidByText := true, laidKinds := [.data, .pinned], laidTests := true, laidLooks := .later }
def WrittenCardSaid : Prop := Claim7.holds Tryd.pinned (.plain (OpenSpec.ofChange writtenSpec)) writtenCard

/-- THE TIED CARD OF 'tomekeep.Known'. -/
def knownCard : Claim7 := { stood := { row := knownRow, standIns := [], harness := (true, "a82090e163711a9a674e74efb2128903d7562642734527ffa49a3d8328baeebf"), looks := true }, kinds := [], alts := [], laidByText := true, laidKinds := [.data, .pinned], laidTests := true, laidLooks := .later }
def KnownCardSaid : Prop := Claim7.holds Tryd.pinned (.plain (OpenSpec.ofChange knownSpec)) knownCard

/-- THE SECOND FORM's CARD OF 'tomelaw.Tables'. -/
def tablesUptoCard : Claim7 := { stood := { row := tablesUptoRow, standIns := [], harness := (true, "a82090e163711a9a674e74efb2128903d7562642734527ffa49a3d8328baeebf"), looks := true }, kinds := [], alts := [], laidByText := true, laidKinds := [.data, .pinned], laidTests := true, laidLooks := .later }
def TablesUptoCardSaid : Prop := Claim7.holds Tryd.pinned (.plain (OpenSpec.upto tablesSpec)) tablesUptoCard

/-- THE SECOND FORM's CARD OF 'tomelaw.Forms'. -/
def formsUptoCard : Claim7 := { stood := { row := formsUptoRow, standIns := [], harness := (true, "a82090e163711a9a674e74efb2128903d7562642734527ffa49a3d8328baeebf"), looks := true }, kinds := [], alts := [], laidByText := true, laidKinds := [.data, .pinned], laidTests := true, laidLooks := .later }
def FormsUptoCardSaid : Prop := Claim7.holds Tryd.pinned (.plain (OpenSpec.upto formsSpec)) formsUptoCard

/-- THE SECOND FORM's CARD OF 'tomekeep.Total'. -/
def totalUptoCard : Claim7 := { stood := { row := totalUptoRow, standIns := [], harness := (true, "a82090e163711a9a674e74efb2128903d7562642734527ffa49a3d8328baeebf"), looks := true }, kinds := [], alts := [], laidByText := true, laidKinds := [.data, .pinned], laidTests := true, laidLooks := .later }
def TotalUptoCardSaid : Prop := Claim7.holds Tryd.pinned (.plain (OpenSpec.upto totalSpec)) totalUptoCard

/-- THE SECOND FORM's CARD OF 'tomekeep.Written'. -/
def writtenUptoCard : Claim7 := { stood := { row := writtenUptoRow, standIns := [], harness := (true, "a82090e163711a9a674e74efb2128903d7562642734527ffa49a3d8328baeebf"), looks := true }, kinds := [], alts := [], laidByText := true, laidKinds := [.data, .pinned], laidTests := true, laidLooks := .later }
def WrittenUptoCardSaid : Prop := Claim7.holds Tryd.pinned (.plain (OpenSpec.upto writtenSpec)) writtenUptoCard

/-- THE SECOND FORM's CARD OF 'tomekeep.Known'. -/
def knownUptoCard : Claim7 := { stood := { row := knownUptoRow, standIns := [], harness := (true, "a82090e163711a9a674e74efb2128903d7562642734527ffa49a3d8328baeebf"), looks := true }, kinds := [], alts := [], laidByText := true, laidKinds := [.data, .pinned], laidTests := true, laidLooks := .later }
def KnownUptoCardSaid : Prop := Claim7.holds Tryd.pinned (.plain (OpenSpec.upto knownSpec)) knownUptoCard
end Rows
end Go.Proofs.YtmnjjjhmnhfapaaDoor
