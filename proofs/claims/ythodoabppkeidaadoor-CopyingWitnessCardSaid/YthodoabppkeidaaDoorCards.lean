/-
  DERIVED. GIVEN WITH THE SEED: THE CARDS: each row of YthodoabppkeidaaDoorRows.lean that lists a variable, with what it lists TIED to the program's text (the seventh form; the later family's looks); each row that meets fmt, with fmt's text TOLD by the authors' own Lean function (tested against real Go, not proved from fmt's source: count such statements apart). THE CARD IS WHAT COUNTS. Prove the row's statement (the work); the ties are given (YthodoabppkeidaaDoorTie.lean); close each card by the builder's one call (the guide's Derived/Test/ToyasCard.lean, 'card_holds'). Laid BY PROGRAM, IN A SANDBOX (cutbox-door.mjs). By AI agents, Wed Nov 11 2026. No macro, syntax, notation, axiom, sorry.
-/
import Derived.Test.YthodoabppkeidaaDoorRows
import GoSem.ClaimSeven
namespace Go.Proofs.YthodoabppkeidaaDoor
namespace Rows

/-- THE TIED CARD OF 'pileuplaw04.CopyingChains'. -/
def copyingChainsCard : Claim7 := { stood := { row := copyingChainsRow, standIns := [], harness := (true, "295c5cb7a42be3b393eeeb9814fa47775fe15988db22246764795d0b75ede6bd"), looks := false }, kinds := [], alts := [], laidByText := true, laidKinds := [.data, .data, .data, .data, .data, .pinned], laidTests := true, laidLooks := .later }
def CopyingChainsCardSaid : Prop := Claim7.holds Tryd.pinned (.plain (OpenSpec.ofChange copyingChainsSpec)) copyingChainsCard

/-- THE TIED CARD OF 'pileuplaw04.CopyingCodes'. -/
def copyingCodesCard : Claim7 := { stood := { row := copyingCodesRow, standIns := [], harness := (true, "295c5cb7a42be3b393eeeb9814fa47775fe15988db22246764795d0b75ede6bd"), looks := false }, kinds := [], alts := [], laidByText := true, laidKinds := [.data, .data, .data, .data, .data, .data, .pinned], laidTests := true, laidLooks := .later }
def CopyingCodesCardSaid : Prop := Claim7.holds Tryd.pinned (.plain (OpenSpec.ofChange copyingCodesSpec)) copyingCodesCard

/-- THE TIED CARD OF 'pileuplaw04.CopyingApart'. -/
def copyingApartCard : Claim7 := { stood := { row := copyingApartRow, standIns := [], harness := (true, "295c5cb7a42be3b393eeeb9814fa47775fe15988db22246764795d0b75ede6bd"), looks := false }, kinds := [], alts := [], laidByText := true, laidKinds := [.data, .data, .data, .data, .data, .pinned], laidTests := true, laidLooks := .later }
def CopyingApartCardSaid : Prop := Claim7.holds Tryd.pinned (.plain (OpenSpec.ofChange copyingApartSpec)) copyingApartCard

/-- THE TIED CARD OF 'pileuplaw04.CopyingWitness'. -/
def copyingWitnessCard : Claim7 := { stood := { row := copyingWitnessRow, standIns := [], harness := (true, "295c5cb7a42be3b393eeeb9814fa47775fe15988db22246764795d0b75ede6bd"), looks := false }, kinds := [], alts := [], laidByText := true, laidKinds := [.data, .data, .data, .data, .data, .pinned], laidTests := true, laidLooks := .later }
def CopyingWitnessCardSaid : Prop := Claim7.holds Tryd.pinned (.plain (OpenSpec.ofChange copyingWitnessSpec)) copyingWitnessCard

/-- THE TIED CARD OF 'pileuplaw04.CopyingJoins'. -/
def copyingJoinsCard : Claim7 := { stood := { row := copyingJoinsRow, standIns := [], harness := (true, "295c5cb7a42be3b393eeeb9814fa47775fe15988db22246764795d0b75ede6bd"), looks := false }, kinds := [], alts := [], laidByText := true, laidKinds := [.data, .data, .data, .data, .data, .pinned], laidTests := true, laidLooks := .later }
def CopyingJoinsCardSaid : Prop := Claim7.holds Tryd.pinned (.plain (OpenSpec.ofChange copyingJoinsSpec)) copyingJoinsCard

/-- THE TIED CARD OF 'pileuplaw04.CopyingFigures'. -/
def copyingFiguresCard : Claim7 := { stood := { row := copyingFiguresRow, standIns := [], harness := (true, "295c5cb7a42be3b393eeeb9814fa47775fe15988db22246764795d0b75ede6bd"), looks := false }, kinds := [], alts := [], laidByText := true, laidKinds := [.data, .data, .data, .data, .data, .pinned], laidTests := true, laidLooks := .later }
def CopyingFiguresCardSaid : Prop := Claim7.holds Tryd.pinned (.plain (OpenSpec.ofChange copyingFiguresSpec)) copyingFiguresCard

/-- THE TIED CARD OF 'pileuplaw04.CopyingExact'. -/
def copyingExactCard : Claim7 := { stood := { row := copyingExactRow, standIns := [], harness := (true, "295c5cb7a42be3b393eeeb9814fa47775fe15988db22246764795d0b75ede6bd"), looks := false }, kinds := [], alts := [], laidByText := true, laidKinds := [.data, .data, .data, .data, .data, .pinned], laidTests := true, laidLooks := .later }
def CopyingExactCardSaid : Prop := Claim7.holds Tryd.pinned (.plain (OpenSpec.ofChange copyingExactSpec)) copyingExactCard

/-- THE TIED CARD OF 'pileuplaw04.CopyingRises'. -/
def copyingRisesCard : Claim7 := { stood := { row := copyingRisesRow, standIns := [], harness := (true, "295c5cb7a42be3b393eeeb9814fa47775fe15988db22246764795d0b75ede6bd"), looks := false }, kinds := [], alts := [], laidByText := true, laidKinds := [.data, .data, .data, .data, .data, .pinned], laidTests := true, laidLooks := .later }
def CopyingRisesCardSaid : Prop := Claim7.holds Tryd.pinned (.plain (OpenSpec.ofChange copyingRisesSpec)) copyingRisesCard

/-- THE SECOND FORM's CARD OF 'pileuplaw04.CopyingChains'. -/
def copyingChainsUptoCard : Claim7 := { stood := { row := copyingChainsUptoRow, standIns := [], harness := (true, "295c5cb7a42be3b393eeeb9814fa47775fe15988db22246764795d0b75ede6bd"), looks := false }, kinds := [], alts := [], laidByText := true, laidKinds := [.data, .data, .data, .data, .data, .pinned], laidTests := true, laidLooks := .later }
def CopyingChainsUptoCardSaid : Prop := Claim7.holds Tryd.pinned (.plain (OpenSpec.upto copyingChainsSpec)) copyingChainsUptoCard

/-- THE SECOND FORM's CARD OF 'pileuplaw04.CopyingCodes'. -/
def copyingCodesUptoCard : Claim7 := { stood := { row := copyingCodesUptoRow, standIns := [], harness := (true, "295c5cb7a42be3b393eeeb9814fa47775fe15988db22246764795d0b75ede6bd"), looks := false }, kinds := [], alts := [], laidByText := true, laidKinds := [.data, .data, .data, .data, .data, .data, .pinned], laidTests := true, laidLooks := .later }
def CopyingCodesUptoCardSaid : Prop := Claim7.holds Tryd.pinned (.plain (OpenSpec.upto copyingCodesSpec)) copyingCodesUptoCard

/-- THE SECOND FORM's CARD OF 'pileuplaw04.CopyingApart'. -/
def copyingApartUptoCard : Claim7 := { stood := { row := copyingApartUptoRow, standIns := [], harness := (true, "295c5cb7a42be3b393eeeb9814fa47775fe15988db22246764795d0b75ede6bd"), looks := false }, kinds := [], alts := [], laidByText := true, laidKinds := [.data, .data, .data, .data, .data, .pinned], laidTests := true, laidLooks := .later }
def CopyingApartUptoCardSaid : Prop := Claim7.holds Tryd.pinned (.plain (OpenSpec.upto copyingApartSpec)) copyingApartUptoCard

/-- THE SECOND FORM's CARD OF 'pileuplaw04.CopyingWitness'. -/
def copyingWitnessUptoCard : Claim7 := { stood := { row := copyingWitnessUptoRow, standIns := [], harness := (true, "295c5cb7a42be3b393eeeb9814fa47775fe15988db22246764795d0b75ede6bd"), looks := false }, kinds := [], alts := [], laidByText := true, laidKinds := [.data, .data, .data, .data, .data, .pinned], laidTests := true, laidLooks := .later }
def CopyingWitnessUptoCardSaid : Prop := Claim7.holds Tryd.pinned (.plain (OpenSpec.upto copyingWitnessSpec)) copyingWitnessUptoCard

/-- THE SECOND FORM's CARD OF 'pileuplaw04.CopyingJoins'. -/
def copyingJoinsUptoCard : Claim7 := { stood := { row := copyingJoinsUptoRow, standIns := [], harness := (true, "295c5cb7a42be3b393eeeb9814fa47775fe15988db22246764795d0b75ede6bd"), looks := false }, kinds := [], alts := [], laidByText := true, laidKinds := [.data, .data, .data, .data, .data, .pinned], laidTests := true, laidLooks := .later }
def CopyingJoinsUptoCardSaid : Prop := Claim7.holds Tryd.pinned (.plain (OpenSpec.upto copyingJoinsSpec)) copyingJoinsUptoCard

/-- THE SECOND FORM's CARD OF 'pileuplaw04.CopyingFigures'. -/
def copyingFiguresUptoCard : Claim7 := { stood := { row := copyingFiguresUptoRow, standIns := [], harness := (true, "295c5cb7a42be3b393eeeb9814fa47775fe15988db22246764795d0b75ede6bd"), looks := false }, kinds := [], alts := [], laidByText := true, laidKinds := [.data, .data, .data, .data, .data, .pinned], laidTests := true, laidLooks := .later }
def CopyingFiguresUptoCardSaid : Prop := Claim7.holds Tryd.pinned (.plain (OpenSpec.upto copyingFiguresSpec)) copyingFiguresUptoCard

/-- THE SECOND FORM's CARD OF 'pileuplaw04.CopyingExact'. -/
def copyingExactUptoCard : Claim7 := { stood := { row := copyingExactUptoRow, standIns := [], harness := (true, "295c5cb7a42be3b393eeeb9814fa47775fe15988db22246764795d0b75ede6bd"), looks := false }, kinds := [], alts := [], laidByText := true, laidKinds := [.data, .data, .data, .data, .data, .pinned], laidTests := true, laidLooks := .later }
def CopyingExactUptoCardSaid : Prop := Claim7.holds Tryd.pinned (.plain (OpenSpec.upto copyingExactSpec)) copyingExactUptoCard

/-- THE SECOND FORM's CARD OF 'pileuplaw04.CopyingRises'. -/
def copyingRisesUptoCard : Claim7 := { stood := { row := copyingRisesUptoRow, standIns := [], harness := (true, "295c5cb7a42be3b393eeeb9814fa47775fe15988db22246764795d0b75ede6bd"), looks := false }, kinds := [], alts := [], laidByText := true, laidKinds := [.data, .data, .data, .data, .data, .pinned], laidTests := true, laidLooks := .later }
def CopyingRisesUptoCardSaid : Prop := Claim7.holds Tryd.pinned (.plain (OpenSpec.upto copyingRisesSpec)) copyingRisesUptoCard
end Rows
end Go.Proofs.YthodoabppkeidaaDoor
