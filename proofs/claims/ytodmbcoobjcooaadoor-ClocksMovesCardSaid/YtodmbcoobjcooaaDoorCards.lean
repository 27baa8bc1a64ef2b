/-
  DERIVED. GIVEN WITH THE SEED: THE CARDS: each row of YtodmbcoobjcooaaDoorRows.lean that lists a variable, with what it lists TIED to the program's text (the seventh form; the later family's looks); each row that meets fmt, with fmt's text TOLD by the authors' own Lean function (tested against real Go, not proved from fmt's source: count such statements apart). THE CARD IS WHAT COUNTS. Prove the row's statement (the work); the ties are given (YtodmbcoobjcooaaDoorTie.lean); close each card by the builder's one call (the guide's Derived/Test/ToyasCard.lean, 'card_holds'). Laid BY PROGRAM, IN A SANDBOX (cutbox-door.mjs). By AI agents, Wed Nov 11 2026. No macro, syntax, notation, axiom, sorry.
-/
import Derived.Test.YtodmbcoobjcooaaDoorRows
import GoSem.ClaimSeven
namespace Go.Proofs.YtodmbcoobjcooaaDoor
namespace Rows

/-- THE TIED CARD OF 'pileuplaw03.ClocksValid'. -/
def clocksValidCard : Claim7 := { stood := { row := clocksValidRow, standIns := [], harness := (true, "46721615713ebe91edb4d661be0ab32d24689e210d875763abd3f139cbdd961e"), looks := true }, kinds := [], alts := [], laidByText := true, laidKinds := [.data], laidTests := true, laidLooks := .later }
def ClocksValidCardSaid : Prop := Claim7.holds Tryd.pinned (.plain (OpenSpec.ofChange clocksValidSpec)) clocksValidCard

/-- THE TIED CARD OF 'pileuplaw03.ClocksTimes'. -/
def clocksTimesCard : Claim7 := { stood := { row := clocksTimesRow, standIns := [], harness := (true, "46721615713ebe91edb4d661be0ab32d24689e210d875763abd3f139cbdd961e"), looks := true }, kinds := [], alts := [], laidByText := true, laidKinds := [.data], laidTests := true, laidLooks := .later }
def ClocksTimesCardSaid : Prop := Claim7.holds Tryd.pinned (.plain (OpenSpec.ofChange clocksTimesSpec)) clocksTimesCard

/-- THE TIED CARD OF 'pileuplaw03.ClocksRelations'. -/
def clocksRelationsCard : Claim7 := { stood := { row := clocksRelationsRow, standIns := [], harness := (true, "46721615713ebe91edb4d661be0ab32d24689e210d875763abd3f139cbdd961e"), looks := true }, kinds := [], alts := [], laidByText := true, laidKinds := [.data], laidTests := true, laidLooks := .later }
def ClocksRelationsCardSaid : Prop := Claim7.holds Tryd.pinned (.plain (OpenSpec.ofChange clocksRelationsSpec)) clocksRelationsCard

/-- THE TIED CARD OF 'pileuplaw03.ClocksKeeps'. -/
def clocksKeepsCard : Claim7 := { stood := { row := clocksKeepsRow, standIns := [], harness := (true, "46721615713ebe91edb4d661be0ab32d24689e210d875763abd3f139cbdd961e"), looks := true }, kinds := [], alts := [], laidByText := true, laidKinds := [.data], laidTests := true, laidLooks := .later }
def ClocksKeepsCardSaid : Prop := Claim7.holds Tryd.pinned (.plain (OpenSpec.ofChange clocksKeepsSpec)) clocksKeepsCard

/-- THE TIED CARD OF 'pileuplaw03.ClocksAccepts'. -/
def clocksAcceptsCard : Claim7 := { stood := { row := clocksAcceptsRow, standIns := [], harness := (true, "46721615713ebe91edb4d661be0ab32d24689e210d875763abd3f139cbdd961e"), looks := true }, kinds := [], alts := [], laidByText := true, laidKinds := [.data], laidTests := true, laidLooks := .later }
def ClocksAcceptsCardSaid : Prop := Claim7.holds Tryd.pinned (.plain (OpenSpec.ofChange clocksAcceptsSpec)) clocksAcceptsCard

/-- THE TIED CARD OF 'pileuplaw03.ClocksExact'. -/
def clocksExactCard : Claim7 := { stood := { row := clocksExactRow, standIns := [], harness := (true, "46721615713ebe91edb4d661be0ab32d24689e210d875763abd3f139cbdd961e"), looks := true }, kinds := [], alts := [], laidByText := true, laidKinds := [.data], laidTests := true, laidLooks := .later }
def ClocksExactCardSaid : Prop := Claim7.holds Tryd.pinned (.plain (OpenSpec.ofChange clocksExactSpec)) clocksExactCard

/-- THE TIED CARD OF 'pileuplaw03.ClocksLoops'. -/
def clocksLoopsCard : Claim7 := { stood := { row := clocksLoopsRow, standIns := [], harness := (true, "46721615713ebe91edb4d661be0ab32d24689e210d875763abd3f139cbdd961e"), looks := true }, kinds := [], alts := [], laidByText := true, laidKinds := [.data], laidTests := true, laidLooks := .later }
def ClocksLoopsCardSaid : Prop := Claim7.holds Tryd.pinned (.plain (OpenSpec.ofChange clocksLoopsSpec)) clocksLoopsCard

/-- THE TIED CARD OF 'pileuplaw03.ClocksTriangle'. -/
def clocksTriangleCard : Claim7 := { stood := { row := clocksTriangleRow, standIns := [], harness := (true, "46721615713ebe91edb4d661be0ab32d24689e210d875763abd3f139cbdd961e"), looks := true }, kinds := [], alts := [], laidByText := true, laidKinds := [.data], laidTests := true, laidLooks := .later }
def ClocksTriangleCardSaid : Prop := Claim7.holds Tryd.pinned (.plain (OpenSpec.ofChange clocksTriangleSpec)) clocksTriangleCard

/-- THE TIED CARD OF 'pileuplaw03.ClocksMore'. -/
def clocksMoreCard : Claim7 := { stood := { row := clocksMoreRow, standIns := [], harness := (true, "46721615713ebe91edb4d661be0ab32d24689e210d875763abd3f139cbdd961e"), looks := true }, kinds := [], alts := [], laidByText := true, laidKinds := [.data], laidTests := true, laidLooks := .later }
def ClocksMoreCardSaid : Prop := Claim7.holds Tryd.pinned (.plain (OpenSpec.ofChange clocksMoreSpec)) clocksMoreCard

/-- THE TIED CARD OF 'pileuplaw03.ClocksTried'. -/
def clocksTriedCard : Claim7 := { stood := { row := clocksTriedRow, standIns := [], harness := (true, "46721615713ebe91edb4d661be0ab32d24689e210d875763abd3f139cbdd961e"), looks := true }, kinds := [], alts := [], laidByText := true, laidKinds := [.data], laidTests := true, laidLooks := .later }
def ClocksTriedCardSaid : Prop := Claim7.holds Tryd.pinned (.plain (OpenSpec.ofChange clocksTriedSpec)) clocksTriedCard

/-- THE TIED CARD OF 'pileuplaw03.ClocksPaths'. -/
def clocksPathsCard : Claim7 := { stood := { row := clocksPathsRow, standIns := [], harness := (true, "46721615713ebe91edb4d661be0ab32d24689e210d875763abd3f139cbdd961e"), looks := true }, kinds := [], alts := [], laidByText := true, laidKinds := [.data], laidTests := true, laidLooks := .later }
def ClocksPathsCardSaid : Prop := Claim7.holds Tryd.pinned (.plain (OpenSpec.ofChange clocksPathsSpec)) clocksPathsCard

/-- THE TIED CARD OF 'pileuplaw03.ClocksMoves'. -/
def clocksMovesCard : Claim7 := { stood := { row := clocksMovesRow, standIns := [], harness := (true, "46721615713ebe91edb4d661be0ab32d24689e210d875763abd3f139cbdd961e"), looks := true }, kinds := [], alts := [], laidByText := true, laidKinds := [.data], laidTests := true, laidLooks := .later }
def ClocksMovesCardSaid : Prop := Claim7.holds Tryd.pinned (.plain (OpenSpec.ofChange clocksMovesSpec)) clocksMovesCard

/-- THE SECOND FORM's CARD OF 'pileuplaw03.ClocksValid'. -/
def clocksValidUptoCard : Claim7 := { stood := { row := clocksValidUptoRow, standIns := [], harness := (true, "46721615713ebe91edb4d661be0ab32d24689e210d875763abd3f139cbdd961e"), looks := true }, kinds := [], alts := [], laidByText := true, laidKinds := [.data], laidTests := true, laidLooks := .later }
def ClocksValidUptoCardSaid : Prop := Claim7.holds Tryd.pinned (.plain (OpenSpec.upto clocksValidSpec)) clocksValidUptoCard

/-- THE SECOND FORM's CARD OF 'pileuplaw03.ClocksTimes'. -/
def clocksTimesUptoCard : Claim7 := { stood := { row := clocksTimesUptoRow, standIns := [], harness := (true, "46721615713ebe91edb4d661be0ab32d24689e210d875763abd3f139cbdd961e"), looks := true }, kinds := [], alts := [], laidByText := true, laidKinds := [.data], laidTests := true, laidLooks := .later }
def ClocksTimesUptoCardSaid : Prop := Claim7.holds Tryd.pinned (.plain (OpenSpec.upto clocksTimesSpec)) clocksTimesUptoCard

/-- THE SECOND FORM's CARD OF 'pileuplaw03.ClocksRelations'. -/
def clocksRelationsUptoCard : Claim7 := { stood := { row := clocksRelationsUptoRow, standIns := [], harness := (true, "46721615713ebe91edb4d661be0ab32d24689e210d875763abd3f139cbdd961e"), looks := true }, kinds := [], alts := [], laidByText := true, laidKinds := [.data], laidTests := true, laidLooks := .later }
def ClocksRelationsUptoCardSaid : Prop := Claim7.holds Tryd.pinned (.plain (OpenSpec.upto clocksRelationsSpec)) clocksRelationsUptoCard

/-- THE SECOND FORM's CARD OF 'pileuplaw03.ClocksKeeps'. -/
def clocksKeepsUptoCard : Claim7 := { stood := { row := clocksKeepsUptoRow, standIns := [], harness := (true, "46721615713ebe91edb4d661be0ab32d24689e210d875763abd3f139cbdd961e"), looks := true }, kinds := [], alts := [], laidByText := true, laidKinds := [.data], laidTests := true, laidLooks := .later }
def ClocksKeepsUptoCardSaid : Prop := Claim7.holds Tryd.pinned (.plain (OpenSpec.upto clocksKeepsSpec)) clocksKeepsUptoCard

/-- THE SECOND FORM's CARD OF 'pileuplaw03.ClocksAccepts'. -/
def clocksAcceptsUptoCard : Claim7 := { stood := { row := clocksAcceptsUptoRow, standIns := [], harness := (true, "46721615713ebe91edb4d661be0ab32d24689e210d875763abd3f139cbdd961e"), looks := true }, kinds := [], alts := [], laidByText := true, laidKinds := [.data], laidTests := true, laidLooks := .later }
def ClocksAcceptsUptoCardSaid : Prop := Claim7.holds Tryd.pinned (.plain (OpenSpec.upto clocksAcceptsSpec)) clocksAcceptsUptoCard

/-- THE SECOND FORM's CARD OF 'pileuplaw03.ClocksExact'. -/
def clocksExactUptoCard : Claim7 := { stood := { row := clocksExactUptoRow, standIns := [], harness := (true, "46721615713ebe91edb4d661be0ab32d24689e210d875763abd3f139cbdd961e"), looks := true }, kinds := [], alts := [], laidByText := true, laidKinds := [.data], laidTests := true, laidLooks := .later }
def ClocksExactUptoCardSaid : Prop := Claim7.holds Tryd.pinned (.plain (OpenSpec.upto clocksExactSpec)) clocksExactUptoCard

/-- THE SECOND FORM's CARD OF 'pileuplaw03.ClocksLoops'. -/
def clocksLoopsUptoCard : Claim7 := { stood := { row := clocksLoopsUptoRow, standIns := [], harness := (true, "46721615713ebe91edb4d661be0ab32d24689e210d875763abd3f139cbdd961e"), looks := true }, kinds := [], alts := [], laidByText := true, laidKinds := [.data], laidTests := true, laidLooks := .later }
def ClocksLoopsUptoCardSaid : Prop := Claim7.holds Tryd.pinned (.plain (OpenSpec.upto clocksLoopsSpec)) clocksLoopsUptoCard

/-- THE SECOND FORM's CARD OF 'pileuplaw03.ClocksTriangle'. -/
def clocksTriangleUptoCard : Claim7 := { stood := { row := clocksTriangleUptoRow, standIns := [], harness := (true, "46721615713ebe91edb4d661be0ab32d24689e210d875763abd3f139cbdd961e"), looks := true }, kinds := [], alts := [], laidByText := true, laidKinds := [.data], laidTests := true, laidLooks := .later }
def ClocksTriangleUptoCardSaid : Prop := Claim7.holds Tryd.pinned (.plain (OpenSpec.upto clocksTriangleSpec)) clocksTriangleUptoCard

/-- THE SECOND FORM's CARD OF 'pileuplaw03.ClocksMore'. -/
def clocksMoreUptoCard : Claim7 := { stood := { row := clocksMoreUptoRow, standIns := [], harness := (true, "46721615713ebe91edb4d661be0ab32d24689e210d875763abd3f139cbdd961e"), looks := true }, kinds := [], alts := [], laidByText := true, laidKinds := [.data], laidTests := true, laidLooks := .later }
def ClocksMoreUptoCardSaid : Prop := Claim7.holds Tryd.pinned (.plain (OpenSpec.upto clocksMoreSpec)) clocksMoreUptoCard

/-- THE SECOND FORM's CARD OF 'pileuplaw03.ClocksTried'. -/
def clocksTriedUptoCard : Claim7 := { stood := { row := clocksTriedUptoRow, standIns := [], harness := (true, "46721615713ebe91edb4d661be0ab32d24689e210d875763abd3f139cbdd961e"), looks := true }, kinds := [], alts := [], laidByText := true, laidKinds := [.data], laidTests := true, laidLooks := .later }
def ClocksTriedUptoCardSaid : Prop := Claim7.holds Tryd.pinned (.plain (OpenSpec.upto clocksTriedSpec)) clocksTriedUptoCard

/-- THE SECOND FORM's CARD OF 'pileuplaw03.ClocksPaths'. -/
def clocksPathsUptoCard : Claim7 := { stood := { row := clocksPathsUptoRow, standIns := [], harness := (true, "46721615713ebe91edb4d661be0ab32d24689e210d875763abd3f139cbdd961e"), looks := true }, kinds := [], alts := [], laidByText := true, laidKinds := [.data], laidTests := true, laidLooks := .later }
def ClocksPathsUptoCardSaid : Prop := Claim7.holds Tryd.pinned (.plain (OpenSpec.upto clocksPathsSpec)) clocksPathsUptoCard

/-- THE SECOND FORM's CARD OF 'pileuplaw03.ClocksMoves'. -/
def clocksMovesUptoCard : Claim7 := { stood := { row := clocksMovesUptoRow, standIns := [], harness := (true, "46721615713ebe91edb4d661be0ab32d24689e210d875763abd3f139cbdd961e"), looks := true }, kinds := [], alts := [], laidByText := true, laidKinds := [.data], laidTests := true, laidLooks := .later }
def ClocksMovesUptoCardSaid : Prop := Claim7.holds Tryd.pinned (.plain (OpenSpec.upto clocksMovesSpec)) clocksMovesUptoCard
end Rows
end Go.Proofs.YtodmbcoobjcooaaDoor
