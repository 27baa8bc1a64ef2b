/-
  DERIVED. GIVEN WITH THE SEED: THE CARDS: each row of YtkbdmdnahphkkaaGreatDoorRows.lean that lists a variable, with what it lists TIED to the program's text (the seventh form; the later family's looks); each row that meets fmt, with fmt's text TOLD by the authors' own Lean function (tested against real Go, not proved from fmt's source: count such statements apart). THE CARD IS WHAT COUNTS. Prove the row's statement (the work); the ties are given (YtkbdmdnahphkkaaGreatDoorTie.lean); close each card by the builder's one call (the guide's Derived/Test/ToyasCard.lean, 'card_holds'). Laid BY PROGRAM, IN A SANDBOX (cutbox-door.mjs). By AI agents, Wed Nov 11 2026. No macro, syntax, notation, axiom, sorry.
-/
import Derived.Test.YtkbdmdnahphkkaaGreatDoorRows
import GoSem.ClaimSeven
namespace Go.Proofs.YtkbdmdnahphkkaaGreatDoor
namespace Rows

/-- THE TIED CARD OF 'pileuplaw01.AirTables'. -/
def airTablesCard : Claim7 := { stood := { row := airTablesRow, standIns := [], harness := (true, "355fa8b47772d5ad4e2a06570c5a80615fa21cff89d8c0987153aa74e451afb2"), looks := false }, kinds := [], alts := [], laidByText := true, laidKinds := [.data, .data, .data, .data, .pinned], laidTests := true, laidLooks := .later }
def AirTablesCardSaid : Prop := Claim7.holds Tryz.pinned (.plain (OpenSpec.ofChange airTablesSpec)) airTablesCard

/-- THE TIED CARD OF 'pileuplaw01.AirDays'. -/
def airDaysCard : Claim7 := { stood := { row := airDaysRow, standIns := [], harness := (true, "355fa8b47772d5ad4e2a06570c5a80615fa21cff89d8c0987153aa74e451afb2"), looks := false }, kinds := [], alts := [], laidByText := true, laidKinds := [.data, .data, .data, .data, .pinned], laidTests := true, laidLooks := .later }
def AirDaysCardSaid : Prop := Claim7.holds Tryz.pinned (.plain (OpenSpec.ofChange airDaysSpec)) airDaysCard

/-- THE TIED CARD OF 'pileuplaw01.AirRows'. -/
def airRowsCard : Claim7 := { stood := { row := airRowsRow, standIns := [], harness := (true, "355fa8b47772d5ad4e2a06570c5a80615fa21cff89d8c0987153aa74e451afb2"), looks := false }, kinds := [], alts := [], laidByText := true, laidKinds := [.data, .data, .data, .data, .pinned], laidTests := true, laidLooks := .later }
def AirRowsCardSaid : Prop := Claim7.holds Tryz.pinned (.plain (OpenSpec.ofChange airRowsSpec)) airRowsCard

/-- THE TIED CARD OF 'pileuplaw01.AirSince'. -/
def airSinceCard : Claim7 := { stood := { row := airSinceRow, standIns := [], harness := (true, "355fa8b47772d5ad4e2a06570c5a80615fa21cff89d8c0987153aa74e451afb2"), looks := false }, kinds := [], alts := [], laidByText := true, laidKinds := [.data, .data, .data, .data, .pinned], laidTests := true, laidLooks := .later }
def AirSinceCardSaid : Prop := Claim7.holds Tryz.pinned (.plain (OpenSpec.ofChange airSinceSpec)) airSinceCard

/-- THE TIED CARD OF 'pileuplaw01.AirOrder'. -/
def airOrderCard : Claim7 := { stood := { row := airOrderRow, standIns := [], harness := (true, "355fa8b47772d5ad4e2a06570c5a80615fa21cff89d8c0987153aa74e451afb2"), looks := false }, kinds := [], alts := [], laidByText := true, laidKinds := [.data, .data, .data, .data, .pinned], laidTests := true, laidLooks := .later }
def AirOrderCardSaid : Prop := Claim7.holds Tryz.pinned (.plain (OpenSpec.ofChange airOrderSpec)) airOrderCard

/-- THE SECOND FORM's CARD OF 'pileuplaw01.AirTables'. -/
def airTablesUptoCard : Claim7 := { stood := { row := airTablesUptoRow, standIns := [], harness := (true, "355fa8b47772d5ad4e2a06570c5a80615fa21cff89d8c0987153aa74e451afb2"), looks := false }, kinds := [], alts := [], laidByText := true, laidKinds := [.data, .data, .data, .data, .pinned], laidTests := true, laidLooks := .later }
def AirTablesUptoCardSaid : Prop := Claim7.holds Tryz.pinned (.plain (OpenSpec.upto airTablesSpec)) airTablesUptoCard

/-- THE SECOND FORM's CARD OF 'pileuplaw01.AirDays'. -/
def airDaysUptoCard : Claim7 := { stood := { row := airDaysUptoRow, standIns := [], harness := (true, "355fa8b47772d5ad4e2a06570c5a80615fa21cff89d8c0987153aa74e451afb2"), looks := false }, kinds := [], alts := [], laidByText := true, laidKinds := [.data, .data, .data, .data, .pinned], laidTests := true, laidLooks := .later }
def AirDaysUptoCardSaid : Prop := Claim7.holds Tryz.pinned (.plain (OpenSpec.upto airDaysSpec)) airDaysUptoCard

/-- THE SECOND FORM's CARD OF 'pileuplaw01.AirRows'. -/
def airRowsUptoCard : Claim7 := { stood := { row := airRowsUptoRow, standIns := [], harness := (true, "355fa8b47772d5ad4e2a06570c5a80615fa21cff89d8c0987153aa74e451afb2"), looks := false }, kinds := [], alts := [], laidByText := true, laidKinds := [.data, .data, .data, .data, .pinned], laidTests := true, laidLooks := .later }
def AirRowsUptoCardSaid : Prop := Claim7.holds Tryz.pinned (.plain (OpenSpec.upto airRowsSpec)) airRowsUptoCard

/-- THE SECOND FORM's CARD OF 'pileuplaw01.AirSince'. -/
def airSinceUptoCard : Claim7 := { stood := { row := airSinceUptoRow, standIns := [], harness := (true, "355fa8b47772d5ad4e2a06570c5a80615fa21cff89d8c0987153aa74e451afb2"), looks := false }, kinds := [], alts := [], laidByText := true, laidKinds := [.data, .data, .data, .data, .pinned], laidTests := true, laidLooks := .later }
def AirSinceUptoCardSaid : Prop := Claim7.holds Tryz.pinned (.plain (OpenSpec.upto airSinceSpec)) airSinceUptoCard

/-- THE SECOND FORM's CARD OF 'pileuplaw01.AirOrder'. -/
def airOrderUptoCard : Claim7 := { stood := { row := airOrderUptoRow, standIns := [], harness := (true, "355fa8b47772d5ad4e2a06570c5a80615fa21cff89d8c0987153aa74e451afb2"), looks := false }, kinds := [], alts := [], laidByText := true, laidKinds := [.data, .data, .data, .data, .pinned], laidTests := true, laidLooks := .later }
def AirOrderUptoCardSaid : Prop := Claim7.holds Tryz.pinned (.plain (OpenSpec.upto airOrderSpec)) airOrderUptoCard
end Rows
end Go.Proofs.YtkbdmdnahphkkaaGreatDoor
