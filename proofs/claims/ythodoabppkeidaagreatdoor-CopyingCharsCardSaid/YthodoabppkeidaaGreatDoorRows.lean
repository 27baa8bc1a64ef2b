/-
  NARROWER THAN 'FOR EVERY INPUT', by the rows' own cells (each row's printed sentence says how): CopyingChars: laid · CopyingCosts: laid · CopyingProofs: laid · CopyingNearest: laid · CopyingNumbers: laid · CopyingLines: laid · CopyingBetter: laid.
  DERIVED. THE GIVEN ROWS OF THIS SEAT. 7 by the template 'for every input the law returns true; each argument reads behind the call as it read before'; 0 by the template 'total and deterministic' (their statements: YthodoabppkeidaaGreatDoorTotals.lean).
  GIVEN WITH THE SEED: the statements are not yours to turn. If you find one false, say at which input.
  Laid BY PROGRAM, IN A SANDBOX (cutbox-rows.mjs): the forced cells as the released guide's own fill.sh prints them over the translation 22d0d211e15e9319… (all of the seat's roots in one cut). By AI agents, Wed Nov 11 2026. No macro, syntax, notation, axiom, sorry.
-/
import Derived.Test.YthodoabppkeidaaGreatDoorChecked
import GoSem.PinnedTables
import GoSem.Claim
import GoSem.ClaimJoined
import GoSem.ClaimMapViews
import Derived.JoinedTies
import Derived.KernelRfl
namespace Go.Proofs.YthodoabppkeidaaGreatDoor
/- THE CELL 'sum', in the pinned program and in every row, IS THE sha256 OF THE DUMP (.gsa) THAT YthodoabppkeidaaGreatDoorProg.lean LOADS. Nothing in Lean hashes anything: it is a label: what it is worth is what the hold of that sum in a sandbox is worth. -/
noncomputable def Tryz.pinned : Pinned := { name := "ythodoabppkeidaagreatdoor", sum := "22d0d211e15e931911a543a9a296111b1ca19ccd55be01ec94f176b6803757d0", checked := Tryz.checked }
namespace Rows
def none {H : Type} : Left H := { results := [], args := [] }

/- WHAT THE LISTED PACKAGE-LEVEL VARIABLES READ AS WHEN THE CALL BEGINS. Each datum BY PROGRAM (the guide's laid-datum.mjs) off the statement by which the dump's own 'gosem.cut.vars' lays the variable. In a bare row this is a premise. The card (YthodoabppkeidaaGreatDoorCards.lean) ties it to the program's text. -/
def laid_math_bits_deBruijn32tab {H : Type} : DataW H := .agg [.lit (.int .u8 0), .lit (.int .u8 1), .lit (.int .u8 28), .lit (.int .u8 2), .lit (.int .u8 29), .lit (.int .u8 14), .lit (.int .u8 24), .lit (.int .u8 3), .lit (.int .u8 30), .lit (.int .u8 22), .lit (.int .u8 20), .lit (.int .u8 15), .lit (.int .u8 25), .lit (.int .u8 17), .lit (.int .u8 4), .lit (.int .u8 8), .lit (.int .u8 31), .lit (.int .u8 27), .lit (.int .u8 13), .lit (.int .u8 23), .lit (.int .u8 21), .lit (.int .u8 19), .lit (.int .u8 16), .lit (.int .u8 7), .lit (.int .u8 26), .lit (.int .u8 12), .lit (.int .u8 18), .lit (.int .u8 6), .lit (.int .u8 11), .lit (.int .u8 5), .lit (.int .u8 10), .lit (.int .u8 9)]
def laid_math_bits_deBruijn64tab {H : Type} : DataW H := .agg [.lit (.int .u8 0), .lit (.int .u8 1), .lit (.int .u8 56), .lit (.int .u8 2), .lit (.int .u8 57), .lit (.int .u8 49), .lit (.int .u8 28), .lit (.int .u8 3), .lit (.int .u8 61), .lit (.int .u8 58), .lit (.int .u8 42), .lit (.int .u8 50), .lit (.int .u8 38), .lit (.int .u8 29), .lit (.int .u8 17), .lit (.int .u8 4), .lit (.int .u8 62), .lit (.int .u8 47), .lit (.int .u8 59), .lit (.int .u8 36), .lit (.int .u8 45), .lit (.int .u8 43), .lit (.int .u8 51), .lit (.int .u8 22), .lit (.int .u8 53), .lit (.int .u8 39), .lit (.int .u8 33), .lit (.int .u8 30), .lit (.int .u8 24), .lit (.int .u8 18), .lit (.int .u8 12), .lit (.int .u8 5), .lit (.int .u8 63), .lit (.int .u8 55), .lit (.int .u8 48), .lit (.int .u8 27), .lit (.int .u8 60), .lit (.int .u8 41), .lit (.int .u8 37), .lit (.int .u8 16), .lit (.int .u8 46), .lit (.int .u8 35), .lit (.int .u8 44), .lit (.int .u8 21), .lit (.int .u8 52), .lit (.int .u8 32), .lit (.int .u8 23), .lit (.int .u8 11), .lit (.int .u8 54), .lit (.int .u8 26), .lit (.int .u8 40), .lit (.int .u8 15), .lit (.int .u8 34), .lit (.int .u8 20), .lit (.int .u8 31), .lit (.int .u8 10), .lit (.int .u8 25), .lit (.int .u8 14), .lit (.int .u8 19), .lit (.int .u8 9), .lit (.int .u8 13), .lit (.int .u8 8), .lit (.int .u8 7), .lit (.int .u8 6)]
def laid_internal_strconv_uint64pow10 {H : Type} : DataW H := .agg [.lit (.int .u64 1), .lit (.int .u64 10), .lit (.int .u64 100), .lit (.int .u64 1000), .lit (.int .u64 10000), .lit (.int .u64 100000), .lit (.int .u64 1000000), .lit (.int .u64 10000000), .lit (.int .u64 100000000), .lit (.int .u64 1000000000), .lit (.int .u64 10000000000), .lit (.int .u64 100000000000), .lit (.int .u64 1000000000000), .lit (.int .u64 10000000000000), .lit (.int .u64 100000000000000), .lit (.int .u64 1000000000000000), .lit (.int .u64 10000000000000000), .lit (.int .u64 100000000000000000), .lit (.int .u64 1000000000000000000), .lit (.int .u64 10000000000000000000)]
def laid_unicode_utf8_acceptRanges {H : Type} : DataW H := .agg [.agg [.lit (.int .u8 128), .lit (.int .u8 191)], .agg [.lit (.int .u8 160), .lit (.int .u8 191)], .agg [.lit (.int .u8 128), .lit (.int .u8 159)], .agg [.lit (.int .u8 144), .lit (.int .u8 191)], .agg [.lit (.int .u8 128), .lit (.int .u8 143)], .agg [.lit (.int .u8 0), .lit (.int .u8 0)], .agg [.lit (.int .u8 0), .lit (.int .u8 0)], .agg [.lit (.int .u8 0), .lit (.int .u8 0)], .agg [.lit (.int .u8 0), .lit (.int .u8 0)], .agg [.lit (.int .u8 0), .lit (.int .u8 0)], .agg [.lit (.int .u8 0), .lit (.int .u8 0)], .agg [.lit (.int .u8 0), .lit (.int .u8 0)], .agg [.lit (.int .u8 0), .lit (.int .u8 0)], .agg [.lit (.int .u8 0), .lit (.int .u8 0)], .agg [.lit (.int .u8 0), .lit (.int .u8 0)], .agg [.lit (.int .u8 0), .lit (.int .u8 0)]]
def laid_pileup_copying_codes {H : Type} : DataW H := .agg [.lit (.string [46, 45]), .lit (.string [45, 46, 46, 46]), .lit (.string [45, 46, 45, 46]), .lit (.string [45, 46, 46]), .lit (.string [46]), .lit (.string [46, 46, 45, 46]), .lit (.string [45, 45, 46]), .lit (.string [46, 46, 46, 46]), .lit (.string [46, 46]), .lit (.string [46, 45, 45, 45]), .lit (.string [45, 46, 45]), .lit (.string [46, 45, 46, 46]), .lit (.string [45, 45]), .lit (.string [45, 46]), .lit (.string [45, 45, 45]), .lit (.string [46, 45, 45, 46]), .lit (.string [45, 45, 46, 45]), .lit (.string [46, 45, 46]), .lit (.string [46, 46, 46]), .lit (.string [45]), .lit (.string [46, 46, 45]), .lit (.string [46, 46, 46, 45]), .lit (.string [46, 45, 45]), .lit (.string [45, 46, 46, 45]), .lit (.string [45, 46, 45, 45]), .lit (.string [45, 45, 46, 46]), .lit (.string [45, 45, 45, 45, 45]), .lit (.string [46, 45, 45, 45, 45]), .lit (.string [46, 46, 45, 45, 45]), .lit (.string [46, 46, 46, 45, 45]), .lit (.string [46, 46, 46, 46, 45]), .lit (.string [46, 46, 46, 46, 46]), .lit (.string [45, 46, 46, 46, 46]), .lit (.string [45, 45, 46, 46, 46]), .lit (.string [45, 45, 45, 46, 46]), .lit (.string [45, 45, 45, 45, 46]), .lit (.string [45, 46, 46, 45, 46])]
def laid_pileup_copying_families {H : Type} : DataW H := .agg [.lit (.string [66, 67, 68, 69, 71, 80, 84, 86, 90, 51]), .lit (.string [65, 72, 74, 75, 56]), .lit (.string [70, 76, 77, 78, 83, 88, 55]), .lit (.string [73, 89, 53, 57]), .lit (.string [81, 85, 87, 50]), .lit (.string [79, 48, 49, 52]), .lit (.string [82, 54, 47])]
/-- One of Go's own tables, pinned by name: the form's constant. -/
def laid_unicode_utf8_first : DataW Unit := Go.Pinned.utf8First

/-- 'pileuplaw04.CopyingChars': WHATEVER THE INPUT: true; the input reads as it did. -/
def copyingCharsSpec : ChangeSpec := { name := "copyingChars", fn := fun _ => fun
  | [d] => { results := [.lit (.bool true)], args := [d] }
  | _ => none }
def copyingCharsRow : OpenClaim := { program := "ythodoabppkeidaagreatdoor", sum := "22d0d211e15e931911a543a9a296111b1ca19ccd55be01ec94f176b6803757d0", func := "pileup/pileuplaw04.CopyingChars", spec := "copyingChars", inPlace := ["internal/bytealg.IndexByteString", "internal/abi.NoEscape", "internal/bytealg.MakeNoZero"], unfollowed := true, recurses := true, named := ["pileup/copying.codes", "internal/strconv.uint64pow10", "math/bits.deBruijn32tab", "math/bits.deBruijn64tab", "unicode/utf8.first", "unicode/utf8.acceptRanges", "pileup/copying.families"], apart := false, laid := [("math/bits.deBruijn32tab", laid_math_bits_deBruijn32tab), ("math/bits.deBruijn64tab", laid_math_bits_deBruijn64tab), ("internal/strconv.uint64pow10", laid_internal_strconv_uint64pow10), ("unicode/utf8.acceptRanges", laid_unicode_utf8_acceptRanges), ("pileup/copying.codes", laid_pileup_copying_codes), ("pileup/copying.families", laid_pileup_copying_families), ("unicode/utf8.first", laid_unicode_utf8_first)] }
def CopyingCharsSaid : Prop := copyingCharsRow.holds Tryz.pinned (OpenSpec.ofChange copyingCharsSpec)

/-- ITS FALSE NEIGHBOUR: 'it returns false'. Refute it at one input. -/
def copyingCharsWrong : ChangeSpec := { name := "copyingChars", fn := fun _ => fun
  | [d] => { results := [.lit (.bool false)], args := [d] }
  | _ => none }
def CopyingCharsWrongFalsely : Prop := copyingCharsRow.holds Tryz.pinned (OpenSpec.ofChange copyingCharsWrong)

/-- 'pileuplaw04.CopyingCosts': WHATEVER THE INPUT: true; the input reads as it did. -/
def copyingCostsSpec : ChangeSpec := { name := "copyingCosts", fn := fun _ => fun
  | [d] => { results := [.lit (.bool true)], args := [d] }
  | _ => none }
def copyingCostsRow : OpenClaim := { program := "ythodoabppkeidaagreatdoor", sum := "22d0d211e15e931911a543a9a296111b1ca19ccd55be01ec94f176b6803757d0", func := "pileup/pileuplaw04.CopyingCosts", spec := "copyingCosts", inPlace := ["internal/bytealg.IndexByteString", "internal/abi.NoEscape", "internal/bytealg.MakeNoZero"], unfollowed := true, recurses := true, named := ["pileup/copying.codes", "internal/strconv.uint64pow10", "math/bits.deBruijn32tab", "math/bits.deBruijn64tab", "unicode/utf8.first", "unicode/utf8.acceptRanges"], apart := false, laid := [("math/bits.deBruijn32tab", laid_math_bits_deBruijn32tab), ("math/bits.deBruijn64tab", laid_math_bits_deBruijn64tab), ("internal/strconv.uint64pow10", laid_internal_strconv_uint64pow10), ("unicode/utf8.acceptRanges", laid_unicode_utf8_acceptRanges), ("pileup/copying.codes", laid_pileup_copying_codes), ("unicode/utf8.first", laid_unicode_utf8_first)] }
def CopyingCostsSaid : Prop := copyingCostsRow.holds Tryz.pinned (OpenSpec.ofChange copyingCostsSpec)

/-- ITS FALSE NEIGHBOUR: 'it returns false'. Refute it at one input. -/
def copyingCostsWrong : ChangeSpec := { name := "copyingCosts", fn := fun _ => fun
  | [d] => { results := [.lit (.bool false)], args := [d] }
  | _ => none }
def CopyingCostsWrongFalsely : Prop := copyingCostsRow.holds Tryz.pinned (OpenSpec.ofChange copyingCostsWrong)

/-- 'pileuplaw04.CopyingProofs': WHATEVER THE INPUT: true; the input reads as it did. -/
def copyingProofsSpec : ChangeSpec := { name := "copyingProofs", fn := fun _ => fun
  | [d] => { results := [.lit (.bool true)], args := [d] }
  | _ => none }
def copyingProofsRow : OpenClaim := { program := "ythodoabppkeidaagreatdoor", sum := "22d0d211e15e931911a543a9a296111b1ca19ccd55be01ec94f176b6803757d0", func := "pileup/pileuplaw04.CopyingProofs", spec := "copyingProofs", inPlace := ["internal/bytealg.IndexByteString", "internal/abi.NoEscape", "internal/bytealg.MakeNoZero"], unfollowed := true, recurses := true, named := ["pileup/copying.codes", "internal/strconv.uint64pow10", "math/bits.deBruijn32tab", "math/bits.deBruijn64tab", "unicode/utf8.first", "unicode/utf8.acceptRanges"], apart := false, laid := [("math/bits.deBruijn32tab", laid_math_bits_deBruijn32tab), ("math/bits.deBruijn64tab", laid_math_bits_deBruijn64tab), ("internal/strconv.uint64pow10", laid_internal_strconv_uint64pow10), ("unicode/utf8.acceptRanges", laid_unicode_utf8_acceptRanges), ("pileup/copying.codes", laid_pileup_copying_codes), ("unicode/utf8.first", laid_unicode_utf8_first)] }
def CopyingProofsSaid : Prop := copyingProofsRow.holds Tryz.pinned (OpenSpec.ofChange copyingProofsSpec)

/-- ITS FALSE NEIGHBOUR: 'it returns false'. Refute it at one input. -/
def copyingProofsWrong : ChangeSpec := { name := "copyingProofs", fn := fun _ => fun
  | [d] => { results := [.lit (.bool false)], args := [d] }
  | _ => none }
def CopyingProofsWrongFalsely : Prop := copyingProofsRow.holds Tryz.pinned (OpenSpec.ofChange copyingProofsWrong)

/-- 'pileuplaw04.CopyingNearest': WHATEVER THE INPUT: true; the input reads as it did. -/
def copyingNearestSpec : ChangeSpec := { name := "copyingNearest", fn := fun _ => fun
  | [d] => { results := [.lit (.bool true)], args := [d] }
  | _ => none }
def copyingNearestRow : OpenClaim := { program := "ythodoabppkeidaagreatdoor", sum := "22d0d211e15e931911a543a9a296111b1ca19ccd55be01ec94f176b6803757d0", func := "pileup/pileuplaw04.CopyingNearest", spec := "copyingNearest", inPlace := ["internal/bytealg.IndexByteString", "internal/abi.NoEscape", "internal/bytealg.MakeNoZero"], unfollowed := true, recurses := true, named := ["pileup/copying.codes", "internal/strconv.uint64pow10", "math/bits.deBruijn32tab", "math/bits.deBruijn64tab", "unicode/utf8.first", "unicode/utf8.acceptRanges"], apart := false, laid := [("math/bits.deBruijn32tab", laid_math_bits_deBruijn32tab), ("math/bits.deBruijn64tab", laid_math_bits_deBruijn64tab), ("internal/strconv.uint64pow10", laid_internal_strconv_uint64pow10), ("unicode/utf8.acceptRanges", laid_unicode_utf8_acceptRanges), ("pileup/copying.codes", laid_pileup_copying_codes), ("unicode/utf8.first", laid_unicode_utf8_first)] }
def CopyingNearestSaid : Prop := copyingNearestRow.holds Tryz.pinned (OpenSpec.ofChange copyingNearestSpec)

/-- ITS FALSE NEIGHBOUR: 'it returns false'. Refute it at one input. -/
def copyingNearestWrong : ChangeSpec := { name := "copyingNearest", fn := fun _ => fun
  | [d] => { results := [.lit (.bool false)], args := [d] }
  | _ => none }
def CopyingNearestWrongFalsely : Prop := copyingNearestRow.holds Tryz.pinned (OpenSpec.ofChange copyingNearestWrong)

/-- 'pileuplaw04.CopyingNumbers': WHATEVER THE INPUT: true; the input reads as it did. -/
def copyingNumbersSpec : ChangeSpec := { name := "copyingNumbers", fn := fun _ => fun
  | [d] => { results := [.lit (.bool true)], args := [d] }
  | _ => none }
def copyingNumbersRow : OpenClaim := { program := "ythodoabppkeidaagreatdoor", sum := "22d0d211e15e931911a543a9a296111b1ca19ccd55be01ec94f176b6803757d0", func := "pileup/pileuplaw04.CopyingNumbers", spec := "copyingNumbers", inPlace := ["internal/bytealg.IndexByteString", "internal/abi.NoEscape", "internal/bytealg.MakeNoZero"], unfollowed := true, recurses := true, named := ["pileup/copying.codes", "internal/strconv.uint64pow10", "math/bits.deBruijn32tab", "math/bits.deBruijn64tab", "unicode/utf8.first", "unicode/utf8.acceptRanges"], apart := false, laid := [("math/bits.deBruijn32tab", laid_math_bits_deBruijn32tab), ("math/bits.deBruijn64tab", laid_math_bits_deBruijn64tab), ("internal/strconv.uint64pow10", laid_internal_strconv_uint64pow10), ("unicode/utf8.acceptRanges", laid_unicode_utf8_acceptRanges), ("pileup/copying.codes", laid_pileup_copying_codes), ("unicode/utf8.first", laid_unicode_utf8_first)] }
def CopyingNumbersSaid : Prop := copyingNumbersRow.holds Tryz.pinned (OpenSpec.ofChange copyingNumbersSpec)

/-- ITS FALSE NEIGHBOUR: 'it returns false'. Refute it at one input. -/
def copyingNumbersWrong : ChangeSpec := { name := "copyingNumbers", fn := fun _ => fun
  | [d] => { results := [.lit (.bool false)], args := [d] }
  | _ => none }
def CopyingNumbersWrongFalsely : Prop := copyingNumbersRow.holds Tryz.pinned (OpenSpec.ofChange copyingNumbersWrong)

/-- 'pileuplaw04.CopyingLines': WHATEVER THE INPUT: true; the input reads as it did. -/
def copyingLinesSpec : ChangeSpec := { name := "copyingLines", fn := fun _ => fun
  | [d1, d2] => { results := [.lit (.bool true)], args := [d1, d2] }
  | _ => none }
def copyingLinesRow : OpenClaim := { program := "ythodoabppkeidaagreatdoor", sum := "22d0d211e15e931911a543a9a296111b1ca19ccd55be01ec94f176b6803757d0", func := "pileup/pileuplaw04.CopyingLines", spec := "copyingLines", inPlace := ["internal/bytealg.IndexByteString", "internal/abi.NoEscape", "internal/bytealg.MakeNoZero"], unfollowed := true, recurses := true, named := ["pileup/copying.codes", "internal/strconv.uint64pow10", "math/bits.deBruijn32tab", "math/bits.deBruijn64tab", "unicode/utf8.first", "unicode/utf8.acceptRanges"], apart := false, laid := [("math/bits.deBruijn32tab", laid_math_bits_deBruijn32tab), ("math/bits.deBruijn64tab", laid_math_bits_deBruijn64tab), ("internal/strconv.uint64pow10", laid_internal_strconv_uint64pow10), ("unicode/utf8.acceptRanges", laid_unicode_utf8_acceptRanges), ("pileup/copying.codes", laid_pileup_copying_codes), ("unicode/utf8.first", laid_unicode_utf8_first)] }
def CopyingLinesSaid : Prop := copyingLinesRow.holds Tryz.pinned (OpenSpec.ofChange copyingLinesSpec)

/-- ITS FALSE NEIGHBOUR: 'it returns false'. Refute it at one input. -/
def copyingLinesWrong : ChangeSpec := { name := "copyingLines", fn := fun _ => fun
  | [d1, d2] => { results := [.lit (.bool false)], args := [d1, d2] }
  | _ => none }
def CopyingLinesWrongFalsely : Prop := copyingLinesRow.holds Tryz.pinned (OpenSpec.ofChange copyingLinesWrong)

/-- 'pileuplaw04.CopyingBetter': WHATEVER THE INPUT: true; the input reads as it did. -/
def copyingBetterSpec : ChangeSpec := { name := "copyingBetter", fn := fun _ => fun
  | [d] => { results := [.lit (.bool true)], args := [d] }
  | _ => none }
def copyingBetterRow : OpenClaim := { program := "ythodoabppkeidaagreatdoor", sum := "22d0d211e15e931911a543a9a296111b1ca19ccd55be01ec94f176b6803757d0", func := "pileup/pileuplaw04.CopyingBetter", spec := "copyingBetter", inPlace := ["internal/bytealg.IndexByteString", "internal/abi.NoEscape", "internal/bytealg.MakeNoZero"], unfollowed := true, recurses := true, named := ["pileup/copying.codes", "internal/strconv.uint64pow10", "math/bits.deBruijn32tab", "math/bits.deBruijn64tab", "unicode/utf8.first", "unicode/utf8.acceptRanges"], apart := false, laid := [("math/bits.deBruijn32tab", laid_math_bits_deBruijn32tab), ("math/bits.deBruijn64tab", laid_math_bits_deBruijn64tab), ("internal/strconv.uint64pow10", laid_internal_strconv_uint64pow10), ("unicode/utf8.acceptRanges", laid_unicode_utf8_acceptRanges), ("pileup/copying.codes", laid_pileup_copying_codes), ("unicode/utf8.first", laid_unicode_utf8_first)] }
def CopyingBetterSaid : Prop := copyingBetterRow.holds Tryz.pinned (OpenSpec.ofChange copyingBetterSpec)

/-- ITS FALSE NEIGHBOUR: 'it returns false'. Refute it at one input. -/
def copyingBetterWrong : ChangeSpec := { name := "copyingBetter", fn := fun _ => fun
  | [d] => { results := [.lit (.bool false)], args := [d] }
  | _ => none }
def CopyingBetterWrongFalsely : Prop := copyingBetterRow.holds Tryz.pinned (OpenSpec.ofChange copyingBetterWrong)

/- THE SECOND FORM. 'bulk': how many values and letters a reading holds, each counted each time it is reached (what is shared counts as often as it is met; a slice's spare places count too). A statement '..UptoSaid' is the law's where the arguments, and the package variables that the reading takes, are together of bulk at most 1048576: NARROWER than '..Said'. Prove '..Said' where nothing that the law and all that it calls make is longer than what came in: it says more and counts as full. Else prove '..UptoSaid'. A law counts once. -/
mutual
def uptoBulk {H : Type} : DataW H → Nat
  | .lit (.string bytes) => bytes.length + 1
  | .lit _ => 1
  | .nil => 1
  | .ptr d => uptoBulk d + 1
  | .slice elems spare => uptoBulkAll elems + uptoBulkAll spare + 1
  | .agg parts => uptoBulkAll parts + 1
  | .iface _ d => uptoBulk d + 1
  | .map entries => uptoBulkEntries entries + 1
  | .held _ => 1
def uptoBulkAll {H : Type} : List (DataW H) → Nat
  | [] => 0
  | d :: r => uptoBulk d + uptoBulkAll r
def uptoBulkEntries {H : Type} : List (Lit × DataW H) → Nat
  | [] => 0
  | x :: r => uptoBulkEntry x + uptoBulkEntries r
def uptoBulkEntry {H : Type} : Lit × DataW H → Nat
  | (.string bytes, d) => bytes.length + uptoBulk d + 1
  | (_, d) => uptoBulk d + 1
 end
def uptoSmall : (H : Type) → List (DataW H) → Bool := fun _ ds => decide (uptoBulkAll ds ≤ 1048576)
def OpenSpec.upto (s : _root_.Go.ChangeSpec) : _root_.Go.OpenSpec := { _root_.Go.OpenSpec.ofChange s with cond := some uptoSmall }

/-- 'pileuplaw04.CopyingChars', WHERE WHAT IT READS IS OF BULK AT MOST 1048576: true; the input reads as it did. -/
def copyingCharsUptoRow : OpenClaim := { program := "ythodoabppkeidaagreatdoor", sum := "22d0d211e15e931911a543a9a296111b1ca19ccd55be01ec94f176b6803757d0", func := "pileup/pileuplaw04.CopyingChars", spec := "copyingChars", inPlace := ["internal/bytealg.IndexByteString", "internal/abi.NoEscape", "internal/bytealg.MakeNoZero"], unfollowed := true, recurses := true, named := ["pileup/copying.codes", "internal/strconv.uint64pow10", "math/bits.deBruijn32tab", "math/bits.deBruijn64tab", "unicode/utf8.first", "unicode/utf8.acceptRanges", "pileup/copying.families"], apart := false, laid := [("math/bits.deBruijn32tab", laid_math_bits_deBruijn32tab), ("math/bits.deBruijn64tab", laid_math_bits_deBruijn64tab), ("internal/strconv.uint64pow10", laid_internal_strconv_uint64pow10), ("unicode/utf8.acceptRanges", laid_unicode_utf8_acceptRanges), ("pileup/copying.codes", laid_pileup_copying_codes), ("pileup/copying.families", laid_pileup_copying_families), ("unicode/utf8.first", laid_unicode_utf8_first)], narrowed := true }
def CopyingCharsUptoSaid : Prop := copyingCharsUptoRow.holds Tryz.pinned (OpenSpec.upto copyingCharsSpec)

/-- 'pileuplaw04.CopyingCosts', WHERE WHAT IT READS IS OF BULK AT MOST 1048576: true; the input reads as it did. -/
def copyingCostsUptoRow : OpenClaim := { program := "ythodoabppkeidaagreatdoor", sum := "22d0d211e15e931911a543a9a296111b1ca19ccd55be01ec94f176b6803757d0", func := "pileup/pileuplaw04.CopyingCosts", spec := "copyingCosts", inPlace := ["internal/bytealg.IndexByteString", "internal/abi.NoEscape", "internal/bytealg.MakeNoZero"], unfollowed := true, recurses := true, named := ["pileup/copying.codes", "internal/strconv.uint64pow10", "math/bits.deBruijn32tab", "math/bits.deBruijn64tab", "unicode/utf8.first", "unicode/utf8.acceptRanges"], apart := false, laid := [("math/bits.deBruijn32tab", laid_math_bits_deBruijn32tab), ("math/bits.deBruijn64tab", laid_math_bits_deBruijn64tab), ("internal/strconv.uint64pow10", laid_internal_strconv_uint64pow10), ("unicode/utf8.acceptRanges", laid_unicode_utf8_acceptRanges), ("pileup/copying.codes", laid_pileup_copying_codes), ("unicode/utf8.first", laid_unicode_utf8_first)], narrowed := true }
def CopyingCostsUptoSaid : Prop := copyingCostsUptoRow.holds Tryz.pinned (OpenSpec.upto copyingCostsSpec)

/-- 'pileuplaw04.CopyingProofs', WHERE WHAT IT READS IS OF BULK AT MOST 1048576: true; the input reads as it did. -/
def copyingProofsUptoRow : OpenClaim := { program := "ythodoabppkeidaagreatdoor", sum := "22d0d211e15e931911a543a9a296111b1ca19ccd55be01ec94f176b6803757d0", func := "pileup/pileuplaw04.CopyingProofs", spec := "copyingProofs", inPlace := ["internal/bytealg.IndexByteString", "internal/abi.NoEscape", "internal/bytealg.MakeNoZero"], unfollowed := true, recurses := true, named := ["pileup/copying.codes", "internal/strconv.uint64pow10", "math/bits.deBruijn32tab", "math/bits.deBruijn64tab", "unicode/utf8.first", "unicode/utf8.acceptRanges"], apart := false, laid := [("math/bits.deBruijn32tab", laid_math_bits_deBruijn32tab), ("math/bits.deBruijn64tab", laid_math_bits_deBruijn64tab), ("internal/strconv.uint64pow10", laid_internal_strconv_uint64pow10), ("unicode/utf8.acceptRanges", laid_unicode_utf8_acceptRanges), ("pileup/copying.codes", laid_pileup_copying_codes), ("unicode/utf8.first", laid_unicode_utf8_first)], narrowed := true }
def CopyingProofsUptoSaid : Prop := copyingProofsUptoRow.holds Tryz.pinned (OpenSpec.upto copyingProofsSpec)

/-- 'pileuplaw04.CopyingNearest', WHERE WHAT IT READS IS OF BULK AT MOST 1048576: true; the input reads as it did. -/
def copyingNearestUptoRow : OpenClaim := { program := "ythodoabppkeidaagreatdoor", sum := "22d0d211e15e931911a543a9a296111b1ca19ccd55be01ec94f176b6803757d0", func := "pileup/pileuplaw04.CopyingNearest", spec := "copyingNearest", inPlace := ["internal/bytealg.IndexByteString", "internal/abi.NoEscape", "internal/bytealg.MakeNoZero"], unfollowed := true, recurses := true, named := ["pileup/copying.codes", "internal/strconv.uint64pow10", "math/bits.deBruijn32tab", "math/bits.deBruijn64tab", "unicode/utf8.first", "unicode/utf8.acceptRanges"], apart := false, laid := [("math/bits.deBruijn32tab", laid_math_bits_deBruijn32tab), ("math/bits.deBruijn64tab", laid_math_bits_deBruijn64tab), ("internal/strconv.uint64pow10", laid_internal_strconv_uint64pow10), ("unicode/utf8.acceptRanges", laid_unicode_utf8_acceptRanges), ("pileup/copying.codes", laid_pileup_copying_codes), ("unicode/utf8.first", laid_unicode_utf8_first)], narrowed := true }
def CopyingNearestUptoSaid : Prop := copyingNearestUptoRow.holds Tryz.pinned (OpenSpec.upto copyingNearestSpec)

/-- 'pileuplaw04.CopyingNumbers', WHERE WHAT IT READS IS OF BULK AT MOST 1048576: true; the input reads as it did. -/
def copyingNumbersUptoRow : OpenClaim := { program := "ythodoabppkeidaagreatdoor", sum := "22d0d211e15e931911a543a9a296111b1ca19ccd55be01ec94f176b6803757d0", func := "pileup/pileuplaw04.CopyingNumbers", spec := "copyingNumbers", inPlace := ["internal/bytealg.IndexByteString", "internal/abi.NoEscape", "internal/bytealg.MakeNoZero"], unfollowed := true, recurses := true, named := ["pileup/copying.codes", "internal/strconv.uint64pow10", "math/bits.deBruijn32tab", "math/bits.deBruijn64tab", "unicode/utf8.first", "unicode/utf8.acceptRanges"], apart := false, laid := [("math/bits.deBruijn32tab", laid_math_bits_deBruijn32tab), ("math/bits.deBruijn64tab", laid_math_bits_deBruijn64tab), ("internal/strconv.uint64pow10", laid_internal_strconv_uint64pow10), ("unicode/utf8.acceptRanges", laid_unicode_utf8_acceptRanges), ("pileup/copying.codes", laid_pileup_copying_codes), ("unicode/utf8.first", laid_unicode_utf8_first)], narrowed := true }
def CopyingNumbersUptoSaid : Prop := copyingNumbersUptoRow.holds Tryz.pinned (OpenSpec.upto copyingNumbersSpec)

/-- 'pileuplaw04.CopyingLines', WHERE WHAT IT READS IS OF BULK AT MOST 1048576: true; the input reads as it did. -/
def copyingLinesUptoRow : OpenClaim := { program := "ythodoabppkeidaagreatdoor", sum := "22d0d211e15e931911a543a9a296111b1ca19ccd55be01ec94f176b6803757d0", func := "pileup/pileuplaw04.CopyingLines", spec := "copyingLines", inPlace := ["internal/bytealg.IndexByteString", "internal/abi.NoEscape", "internal/bytealg.MakeNoZero"], unfollowed := true, recurses := true, named := ["pileup/copying.codes", "internal/strconv.uint64pow10", "math/bits.deBruijn32tab", "math/bits.deBruijn64tab", "unicode/utf8.first", "unicode/utf8.acceptRanges"], apart := false, laid := [("math/bits.deBruijn32tab", laid_math_bits_deBruijn32tab), ("math/bits.deBruijn64tab", laid_math_bits_deBruijn64tab), ("internal/strconv.uint64pow10", laid_internal_strconv_uint64pow10), ("unicode/utf8.acceptRanges", laid_unicode_utf8_acceptRanges), ("pileup/copying.codes", laid_pileup_copying_codes), ("unicode/utf8.first", laid_unicode_utf8_first)], narrowed := true }
def CopyingLinesUptoSaid : Prop := copyingLinesUptoRow.holds Tryz.pinned (OpenSpec.upto copyingLinesSpec)

/-- 'pileuplaw04.CopyingBetter', WHERE WHAT IT READS IS OF BULK AT MOST 1048576: true; the input reads as it did. -/
def copyingBetterUptoRow : OpenClaim := { program := "ythodoabppkeidaagreatdoor", sum := "22d0d211e15e931911a543a9a296111b1ca19ccd55be01ec94f176b6803757d0", func := "pileup/pileuplaw04.CopyingBetter", spec := "copyingBetter", inPlace := ["internal/bytealg.IndexByteString", "internal/abi.NoEscape", "internal/bytealg.MakeNoZero"], unfollowed := true, recurses := true, named := ["pileup/copying.codes", "internal/strconv.uint64pow10", "math/bits.deBruijn32tab", "math/bits.deBruijn64tab", "unicode/utf8.first", "unicode/utf8.acceptRanges"], apart := false, laid := [("math/bits.deBruijn32tab", laid_math_bits_deBruijn32tab), ("math/bits.deBruijn64tab", laid_math_bits_deBruijn64tab), ("internal/strconv.uint64pow10", laid_internal_strconv_uint64pow10), ("unicode/utf8.acceptRanges", laid_unicode_utf8_acceptRanges), ("pileup/copying.codes", laid_pileup_copying_codes), ("unicode/utf8.first", laid_unicode_utf8_first)], narrowed := true }
def CopyingBetterUptoSaid : Prop := copyingBetterUptoRow.holds Tryz.pinned (OpenSpec.upto copyingBetterSpec)

end Rows
end Go.Proofs.YthodoabppkeidaaGreatDoor
