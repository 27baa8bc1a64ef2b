/-
  DERIVED. GIVEN WITH THE SEED: THE CARDS: each row of YthodoabppkeidaaGreatDoorRows.lean that lists a variable, with what it lists TIED to the program's text (the seventh form; the later family's looks); each row that meets fmt, with fmt's text TOLD by the authors' own Lean function (tested against real Go, not proved from fmt's source: count such statements apart). THE CARD IS WHAT COUNTS. Prove the row's statement (the work); the ties are given (YthodoabppkeidaaGreatDoorTie.lean); close each card by the builder's one call (the guide's Derived/Test/ToyasCard.lean, 'card_holds'). Laid BY PROGRAM, IN A SANDBOX (cutbox-door.mjs). By AI agents, Wed Nov 11 2026. No macro, syntax, notation, axiom, sorry.
-/
import Derived.Test.YthodoabppkeidaaGreatDoorRows
import GoSem.ClaimSeven
namespace Go.Proofs.YthodoabppkeidaaGreatDoor
namespace Rows

/-- THE TIED CARD OF 'pileuplaw04.CopyingChars'. -/
def copyingCharsCard : Claim7 := { stood := { row := copyingCharsRow, standIns := [], harness := (true, "4054ae52e3b65dd7d7576035a93766f200cabd2fc55dfaa2a45d5bf911a7cefc"), looks := false }, kinds := [], alts := [], laidByText := true, laidKinds := [.data, .data, .data, .data, .data, .data, .pinned], laidTests := true, laidLooks := .later }
def CopyingCharsCardSaid : Prop := Claim7.holds Tryz.pinned (.plain (OpenSpec.ofChange copyingCharsSpec)) copyingCharsCard

/-- THE TIED CARD OF 'pileuplaw04.CopyingCosts'. -/
def copyingCostsCard : Claim7 := { stood := { row := copyingCostsRow, standIns := [], harness := (true, "4054ae52e3b65dd7d7576035a93766f200cabd2fc55dfaa2a45d5bf911a7cefc"), looks := false }, kinds := [], alts := [], laidByText := true, laidKinds := [.data, .data, .data, .data, .data, .pinned], laidTests := true, laidLooks := .later }
def CopyingCostsCardSaid : Prop := Claim7.holds Tryz.pinned (.plain (OpenSpec.ofChange copyingCostsSpec)) copyingCostsCard

/-- THE TIED CARD OF 'pileuplaw04.CopyingProofs'. -/
def copyingProofsCard : Claim7 := { stood := { row := copyingProofsRow, standIns := [], harness := (true, "4054ae52e3b65dd7d7576035a93766f200cabd2fc55dfaa2a45d5bf911a7cefc"), looks := false }, kinds := [], alts := [], laidByText := true, laidKinds := [.data, .data, .data, .data, .data, .pinned], laidTests := true, laidLooks := .later }
def CopyingProofsCardSaid : Prop := Claim7.holds Tryz.pinned (.plain (OpenSpec.ofChange copyingProofsSpec)) copyingProofsCard

/-- THE TIED CARD OF 'pileuplaw04.CopyingNearest'. -/
def copyingNearestCard : Claim7 := { stood := { row := copyingNearestRow, standIns := [], harness := (true, "4054ae52e3b65dd7d7576035a93766f200cabd2fc55dfaa2a45d5bf911a7cefc"), looks := false }, kinds := [], alts := [], laidByText := true, laidKinds := [.data, .data, .data, .data, .data, .pinned], laidTests := true, laidLooks := .later }
def CopyingNearestCardSaid : Prop := Claim7.holds Tryz.pinned (.plain (OpenSpec.ofChange copyingNearestSpec)) copyingNearestCard

/-- THE TIED CARD OF 'pileuplaw04.CopyingNumbers'. -/
def copyingNumbersCard : Claim7 := { stood := { row := copyingNumbersRow, standIns := [], harness := (true, "4054ae52e3b65dd7d7576035a93766f200cabd2fc55dfaa2a45d5bf911a7cefc"), looks := false }, kinds := [], alts := [], laidByText := true, laidKinds := [.data, .data, .data, .data, .data, .pinned], laidTests := true, laidLooks := .later }
def CopyingNumbersCardSaid : Prop := Claim7.holds Tryz.pinned (.plain (OpenSpec.ofChange copyingNumbersSpec)) copyingNumbersCard

/-- THE TIED CARD OF 'pileuplaw04.CopyingLines'. -/
def copyingLinesCard : Claim7 := { stood := { row := copyingLinesRow, standIns := [], harness := (true, "4054ae52e3b65dd7d7576035a93766f200cabd2fc55dfaa2a45d5bf911a7cefc"), looks := false }, kinds := [], alts := [], laidByText := true, laidKinds := [.data, .data, .data, .data, .data, .pinned], laidTests := true, laidLooks := .later }
def CopyingLinesCardSaid : Prop := Claim7.holds Tryz.pinned (.plain (OpenSpec.ofChange copyingLinesSpec)) copyingLinesCard

/-- THE TIED CARD OF 'pileuplaw04.CopyingBetter'. -/
def copyingBetterCard : Claim7 := { stood := { row := copyingBetterRow, standIns := [], harness := (true, "4054ae52e3b65dd7d7576035a93766f200cabd2fc55dfaa2a45d5bf911a7cefc"), looks := false }, kinds := [], alts := [], laidByText := true, laidKinds := [.data, .data, .data, .data, .data, .pinned], laidTests := true, laidLooks := .later }
def CopyingBetterCardSaid : Prop := Claim7.holds Tryz.pinned (.plain (OpenSpec.ofChange copyingBetterSpec)) copyingBetterCard

/-- THE SECOND FORM's CARD OF 'pileuplaw04.CopyingChars'. -/
def copyingCharsUptoCard : Claim7 := { stood := { row := copyingCharsUptoRow, standIns := [], harness := (true, "4054ae52e3b65dd7d7576035a93766f200cabd2fc55dfaa2a45d5bf911a7cefc"), looks := false }, kinds := [], alts := [], laidByText := true, laidKinds := [.data, .data, .data, .data, .data, .data, .pinned], laidTests := true, laidLooks := .later }
def CopyingCharsUptoCardSaid : Prop := Claim7.holds Tryz.pinned (.plain (OpenSpec.upto copyingCharsSpec)) copyingCharsUptoCard

/-- THE SECOND FORM's CARD OF 'pileuplaw04.CopyingCosts'. -/
def copyingCostsUptoCard : Claim7 := { stood := { row := copyingCostsUptoRow, standIns := [], harness := (true, "4054ae52e3b65dd7d7576035a93766f200cabd2fc55dfaa2a45d5bf911a7cefc"), looks := false }, kinds := [], alts := [], laidByText := true, laidKinds := [.data, .data, .data, .data, .data, .pinned], laidTests := true, laidLooks := .later }
def CopyingCostsUptoCardSaid : Prop := Claim7.holds Tryz.pinned (.plain (OpenSpec.upto copyingCostsSpec)) copyingCostsUptoCard

/-- THE SECOND FORM's CARD OF 'pileuplaw04.CopyingProofs'. -/
def copyingProofsUptoCard : Claim7 := { stood := { row := copyingProofsUptoRow, standIns := [], harness := (true, "4054ae52e3b65dd7d7576035a93766f200cabd2fc55dfaa2a45d5bf911a7cefc"), looks := false }, kinds := [], alts := [], laidByText := true, laidKinds := [.data, .data, .data, .data, .data, .pinned], laidTests := true, laidLooks := .later }
def CopyingProofsUptoCardSaid : Prop := Claim7.holds Tryz.pinned (.plain (OpenSpec.upto copyingProofsSpec)) copyingProofsUptoCard

/-- THE SECOND FORM's CARD OF 'pileuplaw04.CopyingNearest'. -/
def copyingNearestUptoCard : Claim7 := { stood := { row := copyingNearestUptoRow, standIns := [], harness := (true, "4054ae52e3b65dd7d7576035a93766f200cabd2fc55dfaa2a45d5bf911a7cefc"), looks := false }, kinds := [], alts := [], laidByText := true, laidKinds := [.data, .data, .data, .data, .data, .pinned], laidTests := true, laidLooks := .later }
def CopyingNearestUptoCardSaid : Prop := Claim7.holds Tryz.pinned (.plain (OpenSpec.upto copyingNearestSpec)) copyingNearestUptoCard

/-- THE SECOND FORM's CARD OF 'pileuplaw04.CopyingNumbers'. -/
def copyingNumbersUptoCard : Claim7 := { stood := { row := copyingNumbersUptoRow, standIns := [], harness := (true, "4054ae52e3b65dd7d7576035a93766f200cabd2fc55dfaa2a45d5bf911a7cefc"), looks := false }, kinds := [], alts := [], laidByText := true, laidKinds := [.data, .data, .data, .data, .data, .pinned], laidTests := true, laidLooks := .later }
def CopyingNumbersUptoCardSaid : Prop := Claim7.holds Tryz.pinned (.plain (OpenSpec.upto copyingNumbersSpec)) copyingNumbersUptoCard

/-- THE SECOND FORM's CARD OF 'pileuplaw04.CopyingLines'. -/
def copyingLinesUptoCard : Claim7 := { stood := { row := copyingLinesUptoRow, standIns := [], harness := (true, "4054ae52e3b65dd7d7576035a93766f200cabd2fc55dfaa2a45d5bf911a7cefc"), looks := false }, kinds := [], alts := [], laidByText := true, laidKinds := [.data, .data, .data, .data, .data, .pinned], laidTests := true, laidLooks := .later }
def CopyingLinesUptoCardSaid : Prop := Claim7.holds Tryz.pinned (.plain (OpenSpec.upto copyingLinesSpec)) copyingLinesUptoCard

/-- THE SECOND FORM's CARD OF 'pileuplaw04.CopyingBetter'. -/
def copyingBetterUptoCard : Claim7 := { stood := { row := copyingBetterUptoRow, standIns := [], harness := (true, "4054ae52e3b65dd7d7576035a93766f200cabd2fc55dfaa2a45d5bf911a7cefc"), looks := false }, kinds := [], alts := [], laidByText := true, laidKinds := [.data, .data, .data, .data, .data, .pinned], laidTests := true, laidLooks := .later }
def CopyingBetterUptoCardSaid : Prop := Claim7.holds Tryz.pinned (.plain (OpenSpec.upto copyingBetterSpec)) copyingBetterUptoCard
end Rows
end Go.Proofs.YthodoabppkeidaaGreatDoor
