/-
  NARROWER THAN 'FOR EVERY INPUT', by the rows' own cells (each row's printed sentence says how): ClocksValid: laid · ClocksTimes: laid · ClocksRelations: laid · ClocksKeeps: laid · ClocksAccepts: laid · ClocksExact: laid · ClocksLoops: laid · ClocksTriangle: laid · ClocksMore: laid · ClocksTried: laid · ClocksPaths: laid · ClocksMoves: laid.
  DERIVED. THE GIVEN ROWS OF THIS SEAT. 12 by the template 'for every input the law returns true; each argument reads behind the call as it read before'; 0 by the template 'total and deterministic' (their statements: YtodmbcoobjcooaaDoorTotals.lean).
  GIVEN WITH THE SEED: the statements are not yours to turn. If you find one false, say at which input.
  Laid BY PROGRAM, IN A SANDBOX (cutbox-rows.mjs): the forced cells as the released guide's own fill.sh prints them over the translation 6f9bd36bde7c3187… (all of the seat's roots in one cut). By AI agents, Wed Nov 11 2026. No macro, syntax, notation, axiom, sorry.
-/
import Derived.Test.YtodmbcoobjcooaaDoorChecked
import GoSem.Claim
import GoSem.ClaimJoined
import GoSem.ClaimMapViews
import Derived.JoinedTies
import Derived.KernelRfl
namespace Go.Proofs.YtodmbcoobjcooaaDoor
/- THE CELL 'sum', in the pinned program and in every row, IS THE sha256 OF THE DUMP (.gsa) THAT YtodmbcoobjcooaaDoorProg.lean LOADS. Nothing in Lean hashes anything: it is a label: what it is worth is what the hold of that sum in a sandbox is worth. -/
noncomputable def Tryd.pinned : Pinned := { name := "ytodmbcoobjcooaadoor", sum := "6f9bd36bde7c31879b8c94fd09605365b852ae26d4de1daf3c57e61b253a4030", checked := Tryd.checked }
namespace Rows
def none {H : Type} : Left H := { results := [], args := [] }

/- WHAT THE LISTED PACKAGE-LEVEL VARIABLES READ AS WHEN THE CALL BEGINS. Each datum BY PROGRAM (the guide's laid-datum.mjs) off the statement by which the dump's own 'gosem.cut.vars' lays the variable. In a bare row this is a premise. The card (YtodmbcoobjcooaaDoorCards.lean) ties it to the program's text. -/
def laid_pileup_clocks_beginning {H : Type} : DataW H := .agg [.lit (.int .i64 (-1)), .lit (.int .i64 0)]

/-- 'pileuplaw03.ClocksValid': WHATEVER THE INPUT: true; the input reads as it did. -/
def clocksValidSpec : ChangeSpec := { name := "clocksValid", fn := fun _ => fun
  | [d1, d2, d3] => { results := [.lit (.bool true)], args := [d1, d2, d3] }
  | _ => none }
def clocksValidRow : OpenClaim := { program := "ytodmbcoobjcooaadoor", sum := "6f9bd36bde7c31879b8c94fd09605365b852ae26d4de1daf3c57e61b253a4030", func := "pileup/pileuplaw03.ClocksValid", spec := "clocksValid", unfollowed := true, recurses := true, named := ["pileup/clocks.beginning"], plainKeys := false, apart := false, laid := [("pileup/clocks.beginning", laid_pileup_clocks_beginning)] }
def ClocksValidSaid : Prop := clocksValidRow.holds Tryd.pinned (OpenSpec.ofChange clocksValidSpec)

/-- ITS FALSE NEIGHBOUR: 'it returns false'. Refute it at one input. -/
def clocksValidWrong : ChangeSpec := { name := "clocksValid", fn := fun _ => fun
  | [d1, d2, d3] => { results := [.lit (.bool false)], args := [d1, d2, d3] }
  | _ => none }
def ClocksValidWrongFalsely : Prop := clocksValidRow.holds Tryd.pinned (OpenSpec.ofChange clocksValidWrong)

/-- 'pileuplaw03.ClocksTimes': WHATEVER THE INPUT: true; the input reads as it did. -/
def clocksTimesSpec : ChangeSpec := { name := "clocksTimes", fn := fun _ => fun
  | [d] => { results := [.lit (.bool true)], args := [d] }
  | _ => none }
def clocksTimesRow : OpenClaim := { program := "ytodmbcoobjcooaadoor", sum := "6f9bd36bde7c31879b8c94fd09605365b852ae26d4de1daf3c57e61b253a4030", func := "pileup/pileuplaw03.ClocksTimes", spec := "clocksTimes", unfollowed := true, recurses := true, named := ["pileup/clocks.beginning"], plainKeys := false, apart := false, laid := [("pileup/clocks.beginning", laid_pileup_clocks_beginning)] }
def ClocksTimesSaid : Prop := clocksTimesRow.holds Tryd.pinned (OpenSpec.ofChange clocksTimesSpec)

/-- ITS FALSE NEIGHBOUR: 'it returns false'. Refute it at one input. -/
def clocksTimesWrong : ChangeSpec := { name := "clocksTimes", fn := fun _ => fun
  | [d] => { results := [.lit (.bool false)], args := [d] }
  | _ => none }
def ClocksTimesWrongFalsely : Prop := clocksTimesRow.holds Tryd.pinned (OpenSpec.ofChange clocksTimesWrong)

/-- 'pileuplaw03.ClocksRelations': WHATEVER THE INPUT: true; the input reads as it did. -/
def clocksRelationsSpec : ChangeSpec := { name := "clocksRelations", fn := fun _ => fun
  | [d1, d2, d3] => { results := [.lit (.bool true)], args := [d1, d2, d3] }
  | _ => none }
def clocksRelationsRow : OpenClaim := { program := "ytodmbcoobjcooaadoor", sum := "6f9bd36bde7c31879b8c94fd09605365b852ae26d4de1daf3c57e61b253a4030", func := "pileup/pileuplaw03.ClocksRelations", spec := "clocksRelations", unfollowed := true, recurses := true, named := ["pileup/clocks.beginning"], plainKeys := false, apart := false, laid := [("pileup/clocks.beginning", laid_pileup_clocks_beginning)] }
def ClocksRelationsSaid : Prop := clocksRelationsRow.holds Tryd.pinned (OpenSpec.ofChange clocksRelationsSpec)

/-- ITS FALSE NEIGHBOUR: 'it returns false'. Refute it at one input. -/
def clocksRelationsWrong : ChangeSpec := { name := "clocksRelations", fn := fun _ => fun
  | [d1, d2, d3] => { results := [.lit (.bool false)], args := [d1, d2, d3] }
  | _ => none }
def ClocksRelationsWrongFalsely : Prop := clocksRelationsRow.holds Tryd.pinned (OpenSpec.ofChange clocksRelationsWrong)

/-- 'pileuplaw03.ClocksKeeps': WHATEVER THE INPUT: true; the input reads as it did. -/
def clocksKeepsSpec : ChangeSpec := { name := "clocksKeeps", fn := fun _ => fun
  | [d1, d2, d3, d4, d5] => { results := [.lit (.bool true)], args := [d1, d2, d3, d4, d5] }
  | _ => none }
def clocksKeepsRow : OpenClaim := { program := "ytodmbcoobjcooaadoor", sum := "6f9bd36bde7c31879b8c94fd09605365b852ae26d4de1daf3c57e61b253a4030", func := "pileup/pileuplaw03.ClocksKeeps", spec := "clocksKeeps", unfollowed := true, recurses := true, named := ["pileup/clocks.beginning"], plainKeys := false, apart := false, laid := [("pileup/clocks.beginning", laid_pileup_clocks_beginning)] }
def ClocksKeepsSaid : Prop := clocksKeepsRow.holds Tryd.pinned (OpenSpec.ofChange clocksKeepsSpec)

/-- ITS FALSE NEIGHBOUR: 'it returns false'. Refute it at one input. -/
def clocksKeepsWrong : ChangeSpec := { name := "clocksKeeps", fn := fun _ => fun
  | [d1, d2, d3, d4, d5] => { results := [.lit (.bool false)], args := [d1, d2, d3, d4, d5] }
  | _ => none }
def ClocksKeepsWrongFalsely : Prop := clocksKeepsRow.holds Tryd.pinned (OpenSpec.ofChange clocksKeepsWrong)

/-- 'pileuplaw03.ClocksAccepts': WHATEVER THE INPUT: true; the input reads as it did. -/
def clocksAcceptsSpec : ChangeSpec := { name := "clocksAccepts", fn := fun _ => fun
  | [d1, d2, d3] => { results := [.lit (.bool true)], args := [d1, d2, d3] }
  | _ => none }
def clocksAcceptsRow : OpenClaim := { program := "ytodmbcoobjcooaadoor", sum := "6f9bd36bde7c31879b8c94fd09605365b852ae26d4de1daf3c57e61b253a4030", func := "pileup/pileuplaw03.ClocksAccepts", spec := "clocksAccepts", unfollowed := true, recurses := true, named := ["pileup/clocks.beginning"], plainKeys := false, apart := false, laid := [("pileup/clocks.beginning", laid_pileup_clocks_beginning)] }
def ClocksAcceptsSaid : Prop := clocksAcceptsRow.holds Tryd.pinned (OpenSpec.ofChange clocksAcceptsSpec)

/-- ITS FALSE NEIGHBOUR: 'it returns false'. Refute it at one input. -/
def clocksAcceptsWrong : ChangeSpec := { name := "clocksAccepts", fn := fun _ => fun
  | [d1, d2, d3] => { results := [.lit (.bool false)], args := [d1, d2, d3] }
  | _ => none }
def ClocksAcceptsWrongFalsely : Prop := clocksAcceptsRow.holds Tryd.pinned (OpenSpec.ofChange clocksAcceptsWrong)

/-- 'pileuplaw03.ClocksExact': WHATEVER THE INPUT: true; the input reads as it did. -/
def clocksExactSpec : ChangeSpec := { name := "clocksExact", fn := fun _ => fun
  | [d1, d2, d3, d4] => { results := [.lit (.bool true)], args := [d1, d2, d3, d4] }
  | _ => none }
def clocksExactRow : OpenClaim := { program := "ytodmbcoobjcooaadoor", sum := "6f9bd36bde7c31879b8c94fd09605365b852ae26d4de1daf3c57e61b253a4030", func := "pileup/pileuplaw03.ClocksExact", spec := "clocksExact", unfollowed := true, recurses := true, named := ["pileup/clocks.beginning"], plainKeys := false, apart := false, laid := [("pileup/clocks.beginning", laid_pileup_clocks_beginning)] }
def ClocksExactSaid : Prop := clocksExactRow.holds Tryd.pinned (OpenSpec.ofChange clocksExactSpec)

/-- ITS FALSE NEIGHBOUR: 'it returns false'. Refute it at one input. -/
def clocksExactWrong : ChangeSpec := { name := "clocksExact", fn := fun _ => fun
  | [d1, d2, d3, d4] => { results := [.lit (.bool false)], args := [d1, d2, d3, d4] }
  | _ => none }
def ClocksExactWrongFalsely : Prop := clocksExactRow.holds Tryd.pinned (OpenSpec.ofChange clocksExactWrong)

/-- 'pileuplaw03.ClocksLoops': WHATEVER THE INPUT: true; the input reads as it did. -/
def clocksLoopsSpec : ChangeSpec := { name := "clocksLoops", fn := fun _ => fun
  | [d1, d2, d3] => { results := [.lit (.bool true)], args := [d1, d2, d3] }
  | _ => none }
def clocksLoopsRow : OpenClaim := { program := "ytodmbcoobjcooaadoor", sum := "6f9bd36bde7c31879b8c94fd09605365b852ae26d4de1daf3c57e61b253a4030", func := "pileup/pileuplaw03.ClocksLoops", spec := "clocksLoops", unfollowed := true, recurses := true, named := ["pileup/clocks.beginning"], plainKeys := false, apart := false, laid := [("pileup/clocks.beginning", laid_pileup_clocks_beginning)] }
def ClocksLoopsSaid : Prop := clocksLoopsRow.holds Tryd.pinned (OpenSpec.ofChange clocksLoopsSpec)

/-- ITS FALSE NEIGHBOUR: 'it returns false'. Refute it at one input. -/
def clocksLoopsWrong : ChangeSpec := { name := "clocksLoops", fn := fun _ => fun
  | [d1, d2, d3] => { results := [.lit (.bool false)], args := [d1, d2, d3] }
  | _ => none }
def ClocksLoopsWrongFalsely : Prop := clocksLoopsRow.holds Tryd.pinned (OpenSpec.ofChange clocksLoopsWrong)

/-- 'pileuplaw03.ClocksTriangle': WHATEVER THE INPUT: true; the input reads as it did. -/
def clocksTriangleSpec : ChangeSpec := { name := "clocksTriangle", fn := fun _ => fun
  | [d1, d2, d3, d4] => { results := [.lit (.bool true)], args := [d1, d2, d3, d4] }
  | _ => none }
def clocksTriangleRow : OpenClaim := { program := "ytodmbcoobjcooaadoor", sum := "6f9bd36bde7c31879b8c94fd09605365b852ae26d4de1daf3c57e61b253a4030", func := "pileup/pileuplaw03.ClocksTriangle", spec := "clocksTriangle", unfollowed := true, recurses := true, named := ["pileup/clocks.beginning"], plainKeys := false, apart := false, laid := [("pileup/clocks.beginning", laid_pileup_clocks_beginning)] }
def ClocksTriangleSaid : Prop := clocksTriangleRow.holds Tryd.pinned (OpenSpec.ofChange clocksTriangleSpec)

/-- ITS FALSE NEIGHBOUR: 'it returns false'. Refute it at one input. -/
def clocksTriangleWrong : ChangeSpec := { name := "clocksTriangle", fn := fun _ => fun
  | [d1, d2, d3, d4] => { results := [.lit (.bool false)], args := [d1, d2, d3, d4] }
  | _ => none }
def ClocksTriangleWrongFalsely : Prop := clocksTriangleRow.holds Tryd.pinned (OpenSpec.ofChange clocksTriangleWrong)

/-- 'pileuplaw03.ClocksMore': WHATEVER THE INPUT: true; the input reads as it did. -/
def clocksMoreSpec : ChangeSpec := { name := "clocksMore", fn := fun _ => fun
  | [d1, d2, d3, d4] => { results := [.lit (.bool true)], args := [d1, d2, d3, d4] }
  | _ => none }
def clocksMoreRow : OpenClaim := { program := "ytodmbcoobjcooaadoor", sum := "6f9bd36bde7c31879b8c94fd09605365b852ae26d4de1daf3c57e61b253a4030", func := "pileup/pileuplaw03.ClocksMore", spec := "clocksMore", unfollowed := true, recurses := true, named := ["pileup/clocks.beginning"], plainKeys := false, apart := false, laid := [("pileup/clocks.beginning", laid_pileup_clocks_beginning)] }
def ClocksMoreSaid : Prop := clocksMoreRow.holds Tryd.pinned (OpenSpec.ofChange clocksMoreSpec)

/-- ITS FALSE NEIGHBOUR: 'it returns false'. Refute it at one input. -/
def clocksMoreWrong : ChangeSpec := { name := "clocksMore", fn := fun _ => fun
  | [d1, d2, d3, d4] => { results := [.lit (.bool false)], args := [d1, d2, d3, d4] }
  | _ => none }
def ClocksMoreWrongFalsely : Prop := clocksMoreRow.holds Tryd.pinned (OpenSpec.ofChange clocksMoreWrong)

/-- 'pileuplaw03.ClocksTried': WHATEVER THE INPUT: true; the input reads as it did. -/
def clocksTriedSpec : ChangeSpec := { name := "clocksTried", fn := fun _ => fun
  | [d1, d2, d3] => { results := [.lit (.bool true)], args := [d1, d2, d3] }
  | _ => none }
def clocksTriedRow : OpenClaim := { program := "ytodmbcoobjcooaadoor", sum := "6f9bd36bde7c31879b8c94fd09605365b852ae26d4de1daf3c57e61b253a4030", func := "pileup/pileuplaw03.ClocksTried", spec := "clocksTried", unfollowed := true, recurses := true, named := ["pileup/clocks.beginning"], plainKeys := false, apart := false, laid := [("pileup/clocks.beginning", laid_pileup_clocks_beginning)] }
def ClocksTriedSaid : Prop := clocksTriedRow.holds Tryd.pinned (OpenSpec.ofChange clocksTriedSpec)

/-- ITS FALSE NEIGHBOUR: 'it returns false'. Refute it at one input. -/
def clocksTriedWrong : ChangeSpec := { name := "clocksTried", fn := fun _ => fun
  | [d1, d2, d3] => { results := [.lit (.bool false)], args := [d1, d2, d3] }
  | _ => none }
def ClocksTriedWrongFalsely : Prop := clocksTriedRow.holds Tryd.pinned (OpenSpec.ofChange clocksTriedWrong)

/-- 'pileuplaw03.ClocksPaths': WHATEVER THE INPUT: true; the input reads as it did. -/
def clocksPathsSpec : ChangeSpec := { name := "clocksPaths", fn := fun _ => fun
  | [d1, d2, d3, d4, d5] => { results := [.lit (.bool true)], args := [d1, d2, d3, d4, d5] }
  | _ => none }
def clocksPathsRow : OpenClaim := { program := "ytodmbcoobjcooaadoor", sum := "6f9bd36bde7c31879b8c94fd09605365b852ae26d4de1daf3c57e61b253a4030", func := "pileup/pileuplaw03.ClocksPaths", spec := "clocksPaths", unfollowed := true, recurses := true, named := ["pileup/clocks.beginning"], plainKeys := false, apart := false, laid := [("pileup/clocks.beginning", laid_pileup_clocks_beginning)] }
def ClocksPathsSaid : Prop := clocksPathsRow.holds Tryd.pinned (OpenSpec.ofChange clocksPathsSpec)

/-- ITS FALSE NEIGHBOUR: 'it returns false'. Refute it at one input. -/
def clocksPathsWrong : ChangeSpec := { name := "clocksPaths", fn := fun _ => fun
  | [d1, d2, d3, d4, d5] => { results := [.lit (.bool false)], args := [d1, d2, d3, d4, d5] }
  | _ => none }
def ClocksPathsWrongFalsely : Prop := clocksPathsRow.holds Tryd.pinned (OpenSpec.ofChange clocksPathsWrong)

/-- 'pileuplaw03.ClocksMoves': WHATEVER THE INPUT: true; the input reads as it did. -/
def clocksMovesSpec : ChangeSpec := { name := "clocksMoves", fn := fun _ => fun
  | [d1, d2, d3, d4] => { results := [.lit (.bool true)], args := [d1, d2, d3, d4] }
  | _ => none }
def clocksMovesRow : OpenClaim := { program := "ytodmbcoobjcooaadoor", sum := "6f9bd36bde7c31879b8c94fd09605365b852ae26d4de1daf3c57e61b253a4030", func := "pileup/pileuplaw03.ClocksMoves", spec := "clocksMoves", unfollowed := true, recurses := true, named := ["pileup/clocks.beginning"], plainKeys := false, apart := false, laid := [("pileup/clocks.beginning", laid_pileup_clocks_beginning)] }
def ClocksMovesSaid : Prop := clocksMovesRow.holds Tryd.pinned (OpenSpec.ofChange clocksMovesSpec)

/-- ITS FALSE NEIGHBOUR: 'it returns false'. Refute it at one input. -/
def clocksMovesWrong : ChangeSpec := { name := "clocksMoves", fn := fun _ => fun
  | [d1, d2, d3, d4] => { results := [.lit (.bool false)], args := [d1, d2, d3, d4] }
  | _ => none }
def ClocksMovesWrongFalsely : Prop := clocksMovesRow.holds Tryd.pinned (OpenSpec.ofChange clocksMovesWrong)

/- THE SECOND FORM. 'bulk': how many values and letters a reading holds, each counted each time it is reached (what is shared counts as often as it is met; a slice's spare places count too). A statement '..UptoSaid' is the law's where the arguments, and the package variables that the reading takes, are together of bulk at most 1048576: NARROWER than '..Said'. Prove '..Said' where nothing that the law and all that it calls make is longer than what came in: it says more and counts as full. Else prove '..UptoSaid'. A law counts once. -/
mutual
def uptoBulk {H : Type} : DataW H → Nat
  | .lit (.string bytes) => bytes.length + 1
  | .lit _ => 1
  | .nil => 1
  | .ptr d => uptoBulk d + 1
  | .slice elems spare => uptoBulkAll elems + uptoBulkAll spare + 1
  | .agg parts => uptoBulkAll parts + 1
  | .iface _ d => uptoBulk d + 1
  | .map entries => uptoBulkEntries entries + 1
  | .held _ => 1
def uptoBulkAll {H : Type} : List (DataW H) → Nat
  | [] => 0
  | d :: r => uptoBulk d + uptoBulkAll r
def uptoBulkEntries {H : Type} : List (Lit × DataW H) → Nat
  | [] => 0
  | x :: r => uptoBulkEntry x + uptoBulkEntries r
def uptoBulkEntry {H : Type} : Lit × DataW H → Nat
  | (.string bytes, d) => bytes.length + uptoBulk d + 1
  | (_, d) => uptoBulk d + 1
 end
def uptoSmall : (H : Type) → List (DataW H) → Bool := fun _ ds => decide (uptoBulkAll ds ≤ 1048576)
def OpenSpec.upto (s : _root_.Go.ChangeSpec) : _root_.Go.OpenSpec := { _root_.Go.OpenSpec.ofChange s with cond := some uptoSmall }

/-- 'pileuplaw03.ClocksValid', WHERE WHAT IT READS IS OF BULK AT MOST 1048576: true; the input reads as it did. -/
def clocksValidUptoRow : OpenClaim := { program := "ytodmbcoobjcooaadoor", sum := "6f9bd36bde7c31879b8c94fd09605365b852ae26d4de1daf3c57e61b253a4030", func := "pileup/pileuplaw03.ClocksValid", spec := "clocksValid", unfollowed := true, recurses := true, named := ["pileup/clocks.beginning"], plainKeys := false, apart := false, laid := [("pileup/clocks.beginning", laid_pileup_clocks_beginning)], narrowed := true }
def ClocksValidUptoSaid : Prop := clocksValidUptoRow.holds Tryd.pinned (OpenSpec.upto clocksValidSpec)

/-- 'pileuplaw03.ClocksTimes', WHERE WHAT IT READS IS OF BULK AT MOST 1048576: true; the input reads as it did. -/
def clocksTimesUptoRow : OpenClaim := { program := "ytodmbcoobjcooaadoor", sum := "6f9bd36bde7c31879b8c94fd09605365b852ae26d4de1daf3c57e61b253a4030", func := "pileup/pileuplaw03.ClocksTimes", spec := "clocksTimes", unfollowed := true, recurses := true, named := ["pileup/clocks.beginning"], plainKeys := false, apart := false, laid := [("pileup/clocks.beginning", laid_pileup_clocks_beginning)], narrowed := true }
def ClocksTimesUptoSaid : Prop := clocksTimesUptoRow.holds Tryd.pinned (OpenSpec.upto clocksTimesSpec)

/-- 'pileuplaw03.ClocksRelations', WHERE WHAT IT READS IS OF BULK AT MOST 1048576: true; the input reads as it did. -/
def clocksRelationsUptoRow : OpenClaim := { program := "ytodmbcoobjcooaadoor", sum := "6f9bd36bde7c31879b8c94fd09605365b852ae26d4de1daf3c57e61b253a4030", func := "pileup/pileuplaw03.ClocksRelations", spec := "clocksRelations", unfollowed := true, recurses := true, named := ["pileup/clocks.beginning"], plainKeys := false, apart := false, laid := [("pileup/clocks.beginning", laid_pileup_clocks_beginning)], narrowed := true }
def ClocksRelationsUptoSaid : Prop := clocksRelationsUptoRow.holds Tryd.pinned (OpenSpec.upto clocksRelationsSpec)

/-- 'pileuplaw03.ClocksKeeps', WHERE WHAT IT READS IS OF BULK AT MOST 1048576: true; the input reads as it did. -/
def clocksKeepsUptoRow : OpenClaim := { program := "ytodmbcoobjcooaadoor", sum := "6f9bd36bde7c31879b8c94fd09605365b852ae26d4de1daf3c57e61b253a4030", func := "pileup/pileuplaw03.ClocksKeeps", spec := "clocksKeeps", unfollowed := true, recurses := true, named := ["pileup/clocks.beginning"], plainKeys := false, apart := false, laid := [("pileup/clocks.beginning", laid_pileup_clocks_beginning)], narrowed := true }
def ClocksKeepsUptoSaid : Prop := clocksKeepsUptoRow.holds Tryd.pinned (OpenSpec.upto clocksKeepsSpec)

/-- 'pileuplaw03.ClocksAccepts', WHERE WHAT IT READS IS OF BULK AT MOST 1048576: true; the input reads as it did. -/
def clocksAcceptsUptoRow : OpenClaim := { program := "ytodmbcoobjcooaadoor", sum := "6f9bd36bde7c31879b8c94fd09605365b852ae26d4de1daf3c57e61b253a4030", func := "pileup/pileuplaw03.ClocksAccepts", spec := "clocksAccepts", unfollowed := true, recurses := true, named := ["pileup/clocks.beginning"], plainKeys := false, apart := false, laid := [("pileup/clocks.beginning", laid_pileup_clocks_beginning)], narrowed := true }
def ClocksAcceptsUptoSaid : Prop := clocksAcceptsUptoRow.holds Tryd.pinned (OpenSpec.upto clocksAcceptsSpec)

/-- 'pileuplaw03.ClocksExact', WHERE WHAT IT READS IS OF BULK AT MOST 1048576: true; the input reads as it did. -/
def clocksExactUptoRow : OpenClaim := { program := "ytodmbcoobjcooaadoor", sum := "6f9bd36bde7c31879b8c94fd09605365b852ae26d4de1daf3c57e61b253a4030", func := "pileup/pileuplaw03.ClocksExact", spec := "clocksExact", unfollowed := true, recurses := true, named := ["pileup/clocks.beginning"], plainKeys := false, apart := false, laid := [("pileup/clocks.beginning", laid_pileup_clocks_beginning)], narrowed := true }
def ClocksExactUptoSaid : Prop := clocksExactUptoRow.holds Tryd.pinned (OpenSpec.upto clocksExactSpec)

/-- 'pileuplaw03.ClocksLoops', WHERE WHAT IT READS IS OF BULK AT MOST 1048576: true; the input reads as it did. -/
def clocksLoopsUptoRow : OpenClaim := { program := "ytodmbcoobjcooaadoor", sum := "6f9bd36bde7c31879b8c94fd09605365b852ae26d4de1daf3c57e61b253a4030", func := "pileup/pileuplaw03.ClocksLoops", spec := "clocksLoops", unfollowed := true, recurses := true, named := ["pileup/clocks.beginning"], plainKeys := false, apart := false, laid := [("pileup/clocks.beginning", laid_pileup_clocks_beginning)], narrowed := true }
def ClocksLoopsUptoSaid : Prop := clocksLoopsUptoRow.holds Tryd.pinned (OpenSpec.upto clocksLoopsSpec)

/-- 'pileuplaw03.ClocksTriangle', WHERE WHAT IT READS IS OF BULK AT MOST 1048576: true; the input reads as it did. -/
def clocksTriangleUptoRow : OpenClaim := { program := "ytodmbcoobjcooaadoor", sum := "6f9bd36bde7c31879b8c94fd09605365b852ae26d4de1daf3c57e61b253a4030", func := "pileup/pileuplaw03.ClocksTriangle", spec := "clocksTriangle", unfollowed := true, recurses := true, named := ["pileup/clocks.beginning"], plainKeys := false, apart := false, laid := [("pileup/clocks.beginning", laid_pileup_clocks_beginning)], narrowed := true }
def ClocksTriangleUptoSaid : Prop := clocksTriangleUptoRow.holds Tryd.pinned (OpenSpec.upto clocksTriangleSpec)

/-- 'pileuplaw03.ClocksMore', WHERE WHAT IT READS IS OF BULK AT MOST 1048576: true; the input reads as it did. -/
def clocksMoreUptoRow : OpenClaim := { program := "ytodmbcoobjcooaadoor", sum := "6f9bd36bde7c31879b8c94fd09605365b852ae26d4de1daf3c57e61b253a4030", func := "pileup/pileuplaw03.ClocksMore", spec := "clocksMore", unfollowed := true, recurses := true, named := ["pileup/clocks.beginning"], plainKeys := false, apart := false, laid := [("pileup/clocks.beginning", laid_pileup_clocks_beginning)], narrowed := true }
def ClocksMoreUptoSaid : Prop := clocksMoreUptoRow.holds Tryd.pinned (OpenSpec.upto clocksMoreSpec)

/-- 'pileuplaw03.ClocksTried', WHERE WHAT IT READS IS OF BULK AT MOST 1048576: true; the input reads as it did. -/
def clocksTriedUptoRow : OpenClaim := { program := "ytodmbcoobjcooaadoor", sum := "6f9bd36bde7c31879b8c94fd09605365b852ae26d4de1daf3c57e61b253a4030", func := "pileup/pileuplaw03.ClocksTried", spec := "clocksTried", unfollowed := true, recurses := true, named := ["pileup/clocks.beginning"], plainKeys := false, apart := false, laid := [("pileup/clocks.beginning", laid_pileup_clocks_beginning)], narrowed := true }
def ClocksTriedUptoSaid : Prop := clocksTriedUptoRow.holds Tryd.pinned (OpenSpec.upto clocksTriedSpec)

/-- 'pileuplaw03.ClocksPaths', WHERE WHAT IT READS IS OF BULK AT MOST 1048576: true; the input reads as it did. -/
def clocksPathsUptoRow : OpenClaim := { program := "ytodmbcoobjcooaadoor", sum := "6f9bd36bde7c31879b8c94fd09605365b852ae26d4de1daf3c57e61b253a4030", func := "pileup/pileuplaw03.ClocksPaths", spec := "clocksPaths", unfollowed := true, recurses := true, named := ["pileup/clocks.beginning"], plainKeys := false, apart := false, laid := [("pileup/clocks.beginning", laid_pileup_clocks_beginning)], narrowed := true }
def ClocksPathsUptoSaid : Prop := clocksPathsUptoRow.holds Tryd.pinned (OpenSpec.upto clocksPathsSpec)

/-- 'pileuplaw03.ClocksMoves', WHERE WHAT IT READS IS OF BULK AT MOST 1048576: true; the input reads as it did. -/
def clocksMovesUptoRow : OpenClaim := { program := "ytodmbcoobjcooaadoor", sum := "6f9bd36bde7c31879b8c94fd09605365b852ae26d4de1daf3c57e61b253a4030", func := "pileup/pileuplaw03.ClocksMoves", spec := "clocksMoves", unfollowed := true, recurses := true, named := ["pileup/clocks.beginning"], plainKeys := false, apart := false, laid := [("pileup/clocks.beginning", laid_pileup_clocks_beginning)], narrowed := true }
def ClocksMovesUptoSaid : Prop := clocksMovesUptoRow.holds Tryd.pinned (OpenSpec.upto clocksMovesSpec)

end Rows
end Go.Proofs.YtodmbcoobjcooaaDoor
