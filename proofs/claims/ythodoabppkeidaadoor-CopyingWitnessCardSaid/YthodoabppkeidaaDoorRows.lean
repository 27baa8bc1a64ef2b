/-
  NARROWER THAN 'FOR EVERY INPUT', by the rows' own cells (each row's printed sentence says how): CopyingChains: laid · CopyingCodes: laid · CopyingApart: laid · CopyingWitness: laid · CopyingJoins: laid · CopyingFigures: laid · CopyingExact: laid · CopyingRises: laid.
  DERIVED. THE GIVEN ROWS OF THIS SEAT. 8 by the template 'for every input the law returns true; each argument reads behind the call as it read before'; 0 by the template 'total and deterministic' (their statements: YthodoabppkeidaaDoorTotals.lean).
  GIVEN WITH THE SEED: the statements are not yours to turn. If you find one false, say at which input.
  Laid BY PROGRAM, IN A SANDBOX (cutbox-rows.mjs): the forced cells as the released guide's own fill.sh prints them over the translation 1f676682340be801… (all of the seat's roots in one cut). By AI agents, Wed Nov 11 2026. No macro, syntax, notation, axiom, sorry.
-/
import Derived.Test.YthodoabppkeidaaDoorChecked
import GoSem.PinnedTables
import GoSem.Claim
import GoSem.ClaimJoined
import GoSem.ClaimMapViews
import Derived.JoinedTies
import Derived.KernelRfl
namespace Go.Proofs.YthodoabppkeidaaDoor
/- THE CELL 'sum', in the pinned program and in every row, IS THE sha256 OF THE DUMP (.gsa) THAT YthodoabppkeidaaDoorProg.lean LOADS. Nothing in Lean hashes anything: it is a label: what it is worth is what the hold of that sum in a sandbox is worth. -/
noncomputable def Tryd.pinned : Pinned := { name := "ythodoabppkeidaadoor", sum := "1f676682340be8018deb2ddbe8063c45012a660e1754a43209b7360697be62ae", checked := Tryd.checked }
namespace Rows
def none {H : Type} : Left H := { results := [], args := [] }

/- WHAT THE LISTED PACKAGE-LEVEL VARIABLES READ AS WHEN THE CALL BEGINS. Each datum BY PROGRAM (the guide's laid-datum.mjs) off the statement by which the dump's own 'gosem.cut.vars' lays the variable. In a bare row this is a premise. The card (YthodoabppkeidaaDoorCards.lean) ties it to the program's text. -/
def laid_math_bits_deBruijn32tab {H : Type} : DataW H := .agg [.lit (.int .u8 0), .lit (.int .u8 1), .lit (.int .u8 28), .lit (.int .u8 2), .lit (.int .u8 29), .lit (.int .u8 14), .lit (.int .u8 24), .lit (.int .u8 3), .lit (.int .u8 30), .lit (.int .u8 22), .lit (.int .u8 20), .lit (.int .u8 15), .lit (.int .u8 25), .lit (.int .u8 17), .lit (.int .u8 4), .lit (.int .u8 8), .lit (.int .u8 31), .lit (.int .u8 27), .lit (.int .u8 13), .lit (.int .u8 23), .lit (.int .u8 21), .lit (.int .u8 19), .lit (.int .u8 16), .lit (.int .u8 7), .lit (.int .u8 26), .lit (.int .u8 12), .lit (.int .u8 18), .lit (.int .u8 6), .lit (.int .u8 11), .lit (.int .u8 5), .lit (.int .u8 10), .lit (.int .u8 9)]
def laid_math_bits_deBruijn64tab {H : Type} : DataW H := .agg [.lit (.int .u8 0), .lit (.int .u8 1), .lit (.int .u8 56), .lit (.int .u8 2), .lit (.int .u8 57), .lit (.int .u8 49), .lit (.int .u8 28), .lit (.int .u8 3), .lit (.int .u8 61), .lit (.int .u8 58), .lit (.int .u8 42), .lit (.int .u8 50), .lit (.int .u8 38), .lit (.int .u8 29), .lit (.int .u8 17), .lit (.int .u8 4), .lit (.int .u8 62), .lit (.int .u8 47), .lit (.int .u8 59), .lit (.int .u8 36), .lit (.int .u8 45), .lit (.int .u8 43), .lit (.int .u8 51), .lit (.int .u8 22), .lit (.int .u8 53), .lit (.int .u8 39), .lit (.int .u8 33), .lit (.int .u8 30), .lit (.int .u8 24), .lit (.int .u8 18), .lit (.int .u8 12), .lit (.int .u8 5), .lit (.int .u8 63), .lit (.int .u8 55), .lit (.int .u8 48), .lit (.int .u8 27), .lit (.int .u8 60), .lit (.int .u8 41), .lit (.int .u8 37), .lit (.int .u8 16), .lit (.int .u8 46), .lit (.int .u8 35), .lit (.int .u8 44), .lit (.int .u8 21), .lit (.int .u8 52), .lit (.int .u8 32), .lit (.int .u8 23), .lit (.int .u8 11), .lit (.int .u8 54), .lit (.int .u8 26), .lit (.int .u8 40), .lit (.int .u8 15), .lit (.int .u8 34), .lit (.int .u8 20), .lit (.int .u8 31), .lit (.int .u8 10), .lit (.int .u8 25), .lit (.int .u8 14), .lit (.int .u8 19), .lit (.int .u8 9), .lit (.int .u8 13), .lit (.int .u8 8), .lit (.int .u8 7), .lit (.int .u8 6)]
def laid_internal_strconv_uint64pow10 {H : Type} : DataW H := .agg [.lit (.int .u64 1), .lit (.int .u64 10), .lit (.int .u64 100), .lit (.int .u64 1000), .lit (.int .u64 10000), .lit (.int .u64 100000), .lit (.int .u64 1000000), .lit (.int .u64 10000000), .lit (.int .u64 100000000), .lit (.int .u64 1000000000), .lit (.int .u64 10000000000), .lit (.int .u64 100000000000), .lit (.int .u64 1000000000000), .lit (.int .u64 10000000000000), .lit (.int .u64 100000000000000), .lit (.int .u64 1000000000000000), .lit (.int .u64 10000000000000000), .lit (.int .u64 100000000000000000), .lit (.int .u64 1000000000000000000), .lit (.int .u64 10000000000000000000)]
def laid_unicode_utf8_acceptRanges {H : Type} : DataW H := .agg [.agg [.lit (.int .u8 128), .lit (.int .u8 191)], .agg [.lit (.int .u8 160), .lit (.int .u8 191)], .agg [.lit (.int .u8 128), .lit (.int .u8 159)], .agg [.lit (.int .u8 144), .lit (.int .u8 191)], .agg [.lit (.int .u8 128), .lit (.int .u8 143)], .agg [.lit (.int .u8 0), .lit (.int .u8 0)], .agg [.lit (.int .u8 0), .lit (.int .u8 0)], .agg [.lit (.int .u8 0), .lit (.int .u8 0)], .agg [.lit (.int .u8 0), .lit (.int .u8 0)], .agg [.lit (.int .u8 0), .lit (.int .u8 0)], .agg [.lit (.int .u8 0), .lit (.int .u8 0)], .agg [.lit (.int .u8 0), .lit (.int .u8 0)], .agg [.lit (.int .u8 0), .lit (.int .u8 0)], .agg [.lit (.int .u8 0), .lit (.int .u8 0)], .agg [.lit (.int .u8 0), .lit (.int .u8 0)], .agg [.lit (.int .u8 0), .lit (.int .u8 0)]]
def laid_pileup_copying_codes {H : Type} : DataW H := .agg [.lit (.string [46, 45]), .lit (.string [45, 46, 46, 46]), .lit (.string [45, 46, 45, 46]), .lit (.string [45, 46, 46]), .lit (.string [46]), .lit (.string [46, 46, 45, 46]), .lit (.string [45, 45, 46]), .lit (.string [46, 46, 46, 46]), .lit (.string [46, 46]), .lit (.string [46, 45, 45, 45]), .lit (.string [45, 46, 45]), .lit (.string [46, 45, 46, 46]), .lit (.string [45, 45]), .lit (.string [45, 46]), .lit (.string [45, 45, 45]), .lit (.string [46, 45, 45, 46]), .lit (.string [45, 45, 46, 45]), .lit (.string [46, 45, 46]), .lit (.string [46, 46, 46]), .lit (.string [45]), .lit (.string [46, 46, 45]), .lit (.string [46, 46, 46, 45]), .lit (.string [46, 45, 45]), .lit (.string [45, 46, 46, 45]), .lit (.string [45, 46, 45, 45]), .lit (.string [45, 45, 46, 46]), .lit (.string [45, 45, 45, 45, 45]), .lit (.string [46, 45, 45, 45, 45]), .lit (.string [46, 46, 45, 45, 45]), .lit (.string [46, 46, 46, 45, 45]), .lit (.string [46, 46, 46, 46, 45]), .lit (.string [46, 46, 46, 46, 46]), .lit (.string [45, 46, 46, 46, 46]), .lit (.string [45, 45, 46, 46, 46]), .lit (.string [45, 45, 45, 46, 46]), .lit (.string [45, 45, 45, 45, 46]), .lit (.string [45, 46, 46, 45, 46])]
/-- One of Go's own tables, pinned by name: the form's constant. -/
def laid_unicode_utf8_first : DataW Unit := Go.Pinned.utf8First
def laid_pileup_copying_families {H : Type} : DataW H := .agg [.lit (.string [66, 67, 68, 69, 71, 80, 84, 86, 90, 51]), .lit (.string [65, 72, 74, 75, 56]), .lit (.string [70, 76, 77, 78, 83, 88, 55]), .lit (.string [73, 89, 53, 57]), .lit (.string [81, 85, 87, 50]), .lit (.string [79, 48, 49, 52]), .lit (.string [82, 54, 47])]

/-- 'pileuplaw04.CopyingChains': WHATEVER THE INPUT: true; the input reads as it did. -/
def copyingChainsSpec : ChangeSpec := { name := "copyingChains", fn := fun _ => fun
  | [d] => { results := [.lit (.bool true)], args := [d] }
  | _ => none }
def copyingChainsRow : OpenClaim := { program := "ythodoabppkeidaadoor", sum := "1f676682340be8018deb2ddbe8063c45012a660e1754a43209b7360697be62ae", func := "pileup/pileuplaw04.CopyingChains", spec := "copyingChains", inPlace := ["internal/bytealg.IndexByteString", "internal/abi.NoEscape", "internal/bytealg.MakeNoZero"], unfollowed := true, recurses := true, named := ["pileup/copying.codes", "internal/strconv.uint64pow10", "math/bits.deBruijn32tab", "math/bits.deBruijn64tab", "unicode/utf8.first", "unicode/utf8.acceptRanges"], apart := false, laid := [("math/bits.deBruijn32tab", laid_math_bits_deBruijn32tab), ("math/bits.deBruijn64tab", laid_math_bits_deBruijn64tab), ("internal/strconv.uint64pow10", laid_internal_strconv_uint64pow10), ("unicode/utf8.acceptRanges", laid_unicode_utf8_acceptRanges), ("pileup/copying.codes", laid_pileup_copying_codes), ("unicode/utf8.first", laid_unicode_utf8_first)] }
def CopyingChainsSaid : Prop := copyingChainsRow.holds Tryd.pinned (OpenSpec.ofChange copyingChainsSpec)

/-- ITS FALSE NEIGHBOUR: 'it returns false'. Refute it at one input. -/
def copyingChainsWrong : ChangeSpec := { name := "copyingChains", fn := fun _ => fun
  | [d] => { results := [.lit (.bool false)], args := [d] }
  | _ => none }
def CopyingChainsWrongFalsely : Prop := copyingChainsRow.holds Tryd.pinned (OpenSpec.ofChange copyingChainsWrong)

/-- 'pileuplaw04.CopyingCodes': WHATEVER THE INPUT: true; the input reads as it did. -/
def copyingCodesSpec : ChangeSpec := { name := "copyingCodes", fn := fun _ => fun
  | [d] => { results := [.lit (.bool true)], args := [d] }
  | _ => none }
def copyingCodesRow : OpenClaim := { program := "ythodoabppkeidaadoor", sum := "1f676682340be8018deb2ddbe8063c45012a660e1754a43209b7360697be62ae", func := "pileup/pileuplaw04.CopyingCodes", spec := "copyingCodes", inPlace := ["internal/bytealg.IndexByteString", "internal/abi.NoEscape", "internal/bytealg.MakeNoZero"], unfollowed := true, recurses := true, named := ["pileup/copying.codes", "internal/strconv.uint64pow10", "math/bits.deBruijn32tab", "math/bits.deBruijn64tab", "unicode/utf8.first", "unicode/utf8.acceptRanges", "pileup/copying.families"], apart := false, laid := [("math/bits.deBruijn32tab", laid_math_bits_deBruijn32tab), ("math/bits.deBruijn64tab", laid_math_bits_deBruijn64tab), ("internal/strconv.uint64pow10", laid_internal_strconv_uint64pow10), ("unicode/utf8.acceptRanges", laid_unicode_utf8_acceptRanges), ("pileup/copying.codes", laid_pileup_copying_codes), ("pileup/copying.families", laid_pileup_copying_families), ("unicode/utf8.first", laid_unicode_utf8_first)] }
def CopyingCodesSaid : Prop := copyingCodesRow.holds Tryd.pinned (OpenSpec.ofChange copyingCodesSpec)

/-- ITS FALSE NEIGHBOUR: 'it returns false'. Refute it at one input. -/
def copyingCodesWrong : ChangeSpec := { name := "copyingCodes", fn := fun _ => fun
  | [d] => { results := [.lit (.bool false)], args := [d] }
  | _ => none }
def CopyingCodesWrongFalsely : Prop := copyingCodesRow.holds Tryd.pinned (OpenSpec.ofChange copyingCodesWrong)

/-- 'pileuplaw04.CopyingApart': WHATEVER THE INPUT: true; the input reads as it did. -/
def copyingApartSpec : ChangeSpec := { name := "copyingApart", fn := fun _ => fun
  | [d] => { results := [.lit (.bool true)], args := [d] }
  | _ => none }
def copyingApartRow : OpenClaim := { program := "ythodoabppkeidaadoor", sum := "1f676682340be8018deb2ddbe8063c45012a660e1754a43209b7360697be62ae", func := "pileup/pileuplaw04.CopyingApart", spec := "copyingApart", inPlace := ["internal/bytealg.IndexByteString", "internal/abi.NoEscape", "internal/bytealg.MakeNoZero"], unfollowed := true, recurses := true, named := ["pileup/copying.codes", "internal/strconv.uint64pow10", "math/bits.deBruijn32tab", "math/bits.deBruijn64tab", "unicode/utf8.first", "unicode/utf8.acceptRanges"], apart := false, laid := [("math/bits.deBruijn32tab", laid_math_bits_deBruijn32tab), ("math/bits.deBruijn64tab", laid_math_bits_deBruijn64tab), ("internal/strconv.uint64pow10", laid_internal_strconv_uint64pow10), ("unicode/utf8.acceptRanges", laid_unicode_utf8_acceptRanges), ("pileup/copying.codes", laid_pileup_copying_codes), ("unicode/utf8.first", laid_unicode_utf8_first)] }
def CopyingApartSaid : Prop := copyingApartRow.holds Tryd.pinned (OpenSpec.ofChange copyingApartSpec)

/-- ITS FALSE NEIGHBOUR: 'it returns false'. Refute it at one input. -/
def copyingApartWrong : ChangeSpec := { name := "copyingApart", fn := fun _ => fun
  | [d] => { results := [.lit (.bool false)], args := [d] }
  | _ => none }
def CopyingApartWrongFalsely : Prop := copyingApartRow.holds Tryd.pinned (OpenSpec.ofChange copyingApartWrong)

/-- 'pileuplaw04.CopyingWitness': WHATEVER THE INPUT: true; the input reads as it did. -/
def copyingWitnessSpec : ChangeSpec := { name := "copyingWitness", fn := fun _ => fun
  | [d] => { results := [.lit (.bool true)], args := [d] }
  | _ => none }
def copyingWitnessRow : OpenClaim := { program := "ythodoabppkeidaadoor", sum := "1f676682340be8018deb2ddbe8063c45012a660e1754a43209b7360697be62ae", func := "pileup/pileuplaw04.CopyingWitness", spec := "copyingWitness", inPlace := ["internal/bytealg.IndexByteString", "internal/abi.NoEscape", "internal/bytealg.MakeNoZero"], unfollowed := true, recurses := true, named := ["pileup/copying.codes", "internal/strconv.uint64pow10", "math/bits.deBruijn32tab", "math/bits.deBruijn64tab", "unicode/utf8.first", "unicode/utf8.acceptRanges"], apart := false, laid := [("math/bits.deBruijn32tab", laid_math_bits_deBruijn32tab), ("math/bits.deBruijn64tab", laid_math_bits_deBruijn64tab), ("internal/strconv.uint64pow10", laid_internal_strconv_uint64pow10), ("unicode/utf8.acceptRanges", laid_unicode_utf8_acceptRanges), ("pileup/copying.codes", laid_pileup_copying_codes), ("unicode/utf8.first", laid_unicode_utf8_first)] }
def CopyingWitnessSaid : Prop := copyingWitnessRow.holds Tryd.pinned (OpenSpec.ofChange copyingWitnessSpec)

/-- ITS FALSE NEIGHBOUR: 'it returns false'. Refute it at one input. -/
def copyingWitnessWrong : ChangeSpec := { name := "copyingWitness", fn := fun _ => fun
  | [d] => { results := [.lit (.bool false)], args := [d] }
  | _ => none }
def CopyingWitnessWrongFalsely : Prop := copyingWitnessRow.holds Tryd.pinned (OpenSpec.ofChange copyingWitnessWrong)

/-- 'pileuplaw04.CopyingJoins': WHATEVER THE INPUT: true; the input reads as it did. -/
def copyingJoinsSpec : ChangeSpec := { name := "copyingJoins", fn := fun _ => fun
  | [d1, d2, d3] => { results := [.lit (.bool true)], args := [d1, d2, d3] }
  | _ => none }
def copyingJoinsRow : OpenClaim := { program := "ythodoabppkeidaadoor", sum := "1f676682340be8018deb2ddbe8063c45012a660e1754a43209b7360697be62ae", func := "pileup/pileuplaw04.CopyingJoins", spec := "copyingJoins", inPlace := ["internal/bytealg.IndexByteString", "internal/abi.NoEscape", "internal/bytealg.MakeNoZero"], unfollowed := true, recurses := true, named := ["pileup/copying.codes", "internal/strconv.uint64pow10", "math/bits.deBruijn32tab", "math/bits.deBruijn64tab", "unicode/utf8.first", "unicode/utf8.acceptRanges"], apart := false, laid := [("math/bits.deBruijn32tab", laid_math_bits_deBruijn32tab), ("math/bits.deBruijn64tab", laid_math_bits_deBruijn64tab), ("internal/strconv.uint64pow10", laid_internal_strconv_uint64pow10), ("unicode/utf8.acceptRanges", laid_unicode_utf8_acceptRanges), ("pileup/copying.codes", laid_pileup_copying_codes), ("unicode/utf8.first", laid_unicode_utf8_first)] }
def CopyingJoinsSaid : Prop := copyingJoinsRow.holds Tryd.pinned (OpenSpec.ofChange copyingJoinsSpec)

/-- ITS FALSE NEIGHBOUR: 'it returns false'. Refute it at one input. -/
def copyingJoinsWrong : ChangeSpec := { name := "copyingJoins", fn := fun _ => fun
  | [d1, d2, d3] => { results := [.lit (.bool false)], args := [d1, d2, d3] }
  | _ => none }
def CopyingJoinsWrongFalsely : Prop := copyingJoinsRow.holds Tryd.pinned (OpenSpec.ofChange copyingJoinsWrong)

/-- 'pileuplaw04.CopyingFigures': WHATEVER THE INPUT: true; the input reads as it did. -/
def copyingFiguresSpec : ChangeSpec := { name := "copyingFigures", fn := fun _ => fun
  | [d] => { results := [.lit (.bool true)], args := [d] }
  | _ => none }
def copyingFiguresRow : OpenClaim := { program := "ythodoabppkeidaadoor", sum := "1f676682340be8018deb2ddbe8063c45012a660e1754a43209b7360697be62ae", func := "pileup/pileuplaw04.CopyingFigures", spec := "copyingFigures", inPlace := ["internal/bytealg.IndexByteString", "internal/abi.NoEscape", "internal/bytealg.MakeNoZero"], unfollowed := true, recurses := true, named := ["pileup/copying.codes", "internal/strconv.uint64pow10", "math/bits.deBruijn32tab", "math/bits.deBruijn64tab", "unicode/utf8.first", "unicode/utf8.acceptRanges"], apart := false, laid := [("math/bits.deBruijn32tab", laid_math_bits_deBruijn32tab), ("math/bits.deBruijn64tab", laid_math_bits_deBruijn64tab), ("internal/strconv.uint64pow10", laid_internal_strconv_uint64pow10), ("unicode/utf8.acceptRanges", laid_unicode_utf8_acceptRanges), ("pileup/copying.codes", laid_pileup_copying_codes), ("unicode/utf8.first", laid_unicode_utf8_first)] }
def CopyingFiguresSaid : Prop := copyingFiguresRow.holds Tryd.pinned (OpenSpec.ofChange copyingFiguresSpec)

/-- ITS FALSE NEIGHBOUR: 'it returns false'. Refute it at one input. -/
def copyingFiguresWrong : ChangeSpec := { name := "copyingFigures", fn := fun _ => fun
  | [d] => { results := [.lit (.bool false)], args := [d] }
  | _ => none }
def CopyingFiguresWrongFalsely : Prop := copyingFiguresRow.holds Tryd.pinned (OpenSpec.ofChange copyingFiguresWrong)

/-- 'pileuplaw04.CopyingExact': WHATEVER THE INPUT: true; the input reads as it did. -/
def copyingExactSpec : ChangeSpec := { name := "copyingExact", fn := fun _ => fun
  | [d1, d2] => { results := [.lit (.bool true)], args := [d1, d2] }
  | _ => none }
def copyingExactRow : OpenClaim := { program := "ythodoabppkeidaadoor", sum := "1f676682340be8018deb2ddbe8063c45012a660e1754a43209b7360697be62ae", func := "pileup/pileuplaw04.CopyingExact", spec := "copyingExact", inPlace := ["internal/bytealg.IndexByteString", "internal/abi.NoEscape", "internal/bytealg.MakeNoZero"], unfollowed := true, recurses := true, named := ["pileup/copying.codes", "internal/strconv.uint64pow10", "math/bits.deBruijn32tab", "math/bits.deBruijn64tab", "unicode/utf8.first", "unicode/utf8.acceptRanges"], apart := false, laid := [("math/bits.deBruijn32tab", laid_math_bits_deBruijn32tab), ("math/bits.deBruijn64tab", laid_math_bits_deBruijn64tab), ("internal/strconv.uint64pow10", laid_internal_strconv_uint64pow10), ("unicode/utf8.acceptRanges", laid_unicode_utf8_acceptRanges), ("pileup/copying.codes", laid_pileup_copying_codes), ("unicode/utf8.first", laid_unicode_utf8_first)] }
def CopyingExactSaid : Prop := copyingExactRow.holds Tryd.pinned (OpenSpec.ofChange copyingExactSpec)

/-- ITS FALSE NEIGHBOUR: 'it returns false'. Refute it at one input. -/
def copyingExactWrong : ChangeSpec := { name := "copyingExact", fn := fun _ => fun
  | [d1, d2] => { results := [.lit (.bool false)], args := [d1, d2] }
  | _ => none }
def CopyingExactWrongFalsely : Prop := copyingExactRow.holds Tryd.pinned (OpenSpec.ofChange copyingExactWrong)

/-- 'pileuplaw04.CopyingRises': WHATEVER THE INPUT: true; the input reads as it did. -/
def copyingRisesSpec : ChangeSpec := { name := "copyingRises", fn := fun _ => fun
  | [d] => { results := [.lit (.bool true)], args := [d] }
  | _ => none }
def copyingRisesRow : OpenClaim := { program := "ythodoabppkeidaadoor", sum := "1f676682340be8018deb2ddbe8063c45012a660e1754a43209b7360697be62ae", func := "pileup/pileuplaw04.CopyingRises", spec := "copyingRises", inPlace := ["internal/bytealg.IndexByteString", "internal/abi.NoEscape", "internal/bytealg.MakeNoZero"], unfollowed := true, recurses := true, named := ["pileup/copying.codes", "internal/strconv.uint64pow10", "math/bits.deBruijn32tab", "math/bits.deBruijn64tab", "unicode/utf8.first", "unicode/utf8.acceptRanges"], apart := false, laid := [("math/bits.deBruijn32tab", laid_math_bits_deBruijn32tab), ("math/bits.deBruijn64tab", laid_math_bits_deBruijn64tab), ("internal/strconv.uint64pow10", laid_internal_strconv_uint64pow10), ("unicode/utf8.acceptRanges", laid_unicode_utf8_acceptRanges), ("pileup/copying.codes", laid_pileup_copying_codes), ("unicode/utf8.first", laid_unicode_utf8_first)] }
def CopyingRisesSaid : Prop := copyingRisesRow.holds Tryd.pinned (OpenSpec.ofChange copyingRisesSpec)

/-- ITS FALSE NEIGHBOUR: 'it returns false'. Refute it at one input. -/
def copyingRisesWrong : ChangeSpec := { name := "copyingRises", fn := fun _ => fun
  | [d] => { results := [.lit (.bool false)], args := [d] }
  | _ => none }
def CopyingRisesWrongFalsely : Prop := copyingRisesRow.holds Tryd.pinned (OpenSpec.ofChange copyingRisesWrong)

/- THE SECOND FORM. 'bulk': how many values and letters a reading holds, each counted each time it is reached (what is shared counts as often as it is met; a slice's spare places count too). A statement '..UptoSaid' is the law's where the arguments, and the package variables that the reading takes, are together of bulk at most 1048576: NARROWER than '..Said'. Prove '..Said' where nothing that the law and all that it calls make is longer than what came in: it says more and counts as full. Else prove '..UptoSaid'. A law counts once. -/
mutual
def uptoBulk {H : Type} : DataW H → Nat
  | .lit (.string bytes) => bytes.length + 1
  | .lit _ => 1
  | .nil => 1
  | .ptr d => uptoBulk d + 1
  | .slice elems spare => uptoBulkAll elems + uptoBulkAll spare + 1
  | .agg parts => uptoBulkAll parts + 1
  | .iface _ d => uptoBulk d + 1
  | .map entries => uptoBulkEntries entries + 1
  | .held _ => 1
def uptoBulkAll {H : Type} : List (DataW H) → Nat
  | [] => 0
  | d :: r => uptoBulk d + uptoBulkAll r
def uptoBulkEntries {H : Type} : List (Lit × DataW H) → Nat
  | [] => 0
  | x :: r => uptoBulkEntry x + uptoBulkEntries r
def uptoBulkEntry {H : Type} : Lit × DataW H → Nat
  | (.string bytes, d) => bytes.length + uptoBulk d + 1
  | (_, d) => uptoBulk d + 1
 end
def uptoSmall : (H : Type) → List (DataW H) → Bool := fun _ ds => decide (uptoBulkAll ds ≤ 1048576)
def OpenSpec.upto (s : _root_.Go.ChangeSpec) : _root_.Go.OpenSpec := { _root_.Go.OpenSpec.ofChange s with cond := some uptoSmall }

/-- 'pileuplaw04.CopyingChains', WHERE WHAT IT READS IS OF BULK AT MOST 1048576: true; the input reads as it did. -/
def copyingChainsUptoRow : OpenClaim := { program := "ythodoabppkeidaadoor", sum := "1f676682340be8018deb2ddbe8063c45012a660e1754a43209b7360697be62ae", func := "pileup/pileuplaw04.CopyingChains", spec := "copyingChains", inPlace := ["internal/bytealg.IndexByteString", "internal/abi.NoEscape", "internal/bytealg.MakeNoZero"], unfollowed := true, recurses := true, named := ["pileup/copying.codes", "internal/strconv.uint64pow10", "math/bits.deBruijn32tab", "math/bits.deBruijn64tab", "unicode/utf8.first", "unicode/utf8.acceptRanges"], apart := false, laid := [("math/bits.deBruijn32tab", laid_math_bits_deBruijn32tab), ("math/bits.deBruijn64tab", laid_math_bits_deBruijn64tab), ("internal/strconv.uint64pow10", laid_internal_strconv_uint64pow10), ("unicode/utf8.acceptRanges", laid_unicode_utf8_acceptRanges), ("pileup/copying.codes", laid_pileup_copying_codes), ("unicode/utf8.first", laid_unicode_utf8_first)], narrowed := true }
def CopyingChainsUptoSaid : Prop := copyingChainsUptoRow.holds Tryd.pinned (OpenSpec.upto copyingChainsSpec)

/-- 'pileuplaw04.CopyingCodes', WHERE WHAT IT READS IS OF BULK AT MOST 1048576: true; the input reads as it did. -/
def copyingCodesUptoRow : OpenClaim := { program := "ythodoabppkeidaadoor", sum := "1f676682340be8018deb2ddbe8063c45012a660e1754a43209b7360697be62ae", func := "pileup/pileuplaw04.CopyingCodes", spec := "copyingCodes", inPlace := ["internal/bytealg.IndexByteString", "internal/abi.NoEscape", "internal/bytealg.MakeNoZero"], unfollowed := true, recurses := true, named := ["pileup/copying.codes", "internal/strconv.uint64pow10", "math/bits.deBruijn32tab", "math/bits.deBruijn64tab", "unicode/utf8.first", "unicode/utf8.acceptRanges", "pileup/copying.families"], apart := false, laid := [("math/bits.deBruijn32tab", laid_math_bits_deBruijn32tab), ("math/bits.deBruijn64tab", laid_math_bits_deBruijn64tab), ("internal/strconv.uint64pow10", laid_internal_strconv_uint64pow10), ("unicode/utf8.acceptRanges", laid_unicode_utf8_acceptRanges), ("pileup/copying.codes", laid_pileup_copying_codes), ("pileup/copying.families", laid_pileup_copying_families), ("unicode/utf8.first", laid_unicode_utf8_first)], narrowed := true }
def CopyingCodesUptoSaid : Prop := copyingCodesUptoRow.holds Tryd.pinned (OpenSpec.upto copyingCodesSpec)

/-- 'pileuplaw04.CopyingApart', WHERE WHAT IT READS IS OF BULK AT MOST 1048576: true; the input reads as it did. -/
def copyingApartUptoRow : OpenClaim := { program := "ythodoabppkeidaadoor", sum := "1f676682340be8018deb2ddbe8063c45012a660e1754a43209b7360697be62ae", func := "pileup/pileuplaw04.CopyingApart", spec := "copyingApart", inPlace := ["internal/bytealg.IndexByteString", "internal/abi.NoEscape", "internal/bytealg.MakeNoZero"], unfollowed := true, recurses := true, named := ["pileup/copying.codes", "internal/strconv.uint64pow10", "math/bits.deBruijn32tab", "math/bits.deBruijn64tab", "unicode/utf8.first", "unicode/utf8.acceptRanges"], apart := false, laid := [("math/bits.deBruijn32tab", laid_math_bits_deBruijn32tab), ("math/bits.deBruijn64tab", laid_math_bits_deBruijn64tab), ("internal/strconv.uint64pow10", laid_internal_strconv_uint64pow10), ("unicode/utf8.acceptRanges", laid_unicode_utf8_acceptRanges), ("pileup/copying.codes", laid_pileup_copying_codes), ("unicode/utf8.first", laid_unicode_utf8_first)], narrowed := true }
def CopyingApartUptoSaid : Prop := copyingApartUptoRow.holds Tryd.pinned (OpenSpec.upto copyingApartSpec)

/-- 'pileuplaw04.CopyingWitness', WHERE WHAT IT READS IS OF BULK AT MOST 1048576: true; the input reads as it did. -/
def copyingWitnessUptoRow : OpenClaim := { program := "ythodoabppkeidaadoor", sum := "1f676682340be8018deb2ddbe8063c45012a660e1754a43209b7360697be62ae", func := "pileup/pileuplaw04.CopyingWitness", spec := "copyingWitness", inPlace := ["internal/bytealg.IndexByteString", "internal/abi.NoEscape", "internal/bytealg.MakeNoZero"], unfollowed := true, recurses := true, named := ["pileup/copying.codes", "internal/strconv.uint64pow10", "math/bits.deBruijn32tab", "math/bits.deBruijn64tab", "unicode/utf8.first", "unicode/utf8.acceptRanges"], apart := false, laid := [("math/bits.deBruijn32tab", laid_math_bits_deBruijn32tab), ("math/bits.deBruijn64tab", laid_math_bits_deBruijn64tab), ("internal/strconv.uint64pow10", laid_internal_strconv_uint64pow10), ("unicode/utf8.acceptRanges", laid_unicode_utf8_acceptRanges), ("pileup/copying.codes", laid_pileup_copying_codes), ("unicode/utf8.first", laid_unicode_utf8_first)], narrowed := true }
def CopyingWitnessUptoSaid : Prop := copyingWitnessUptoRow.holds Tryd.pinned (OpenSpec.upto copyingWitnessSpec)

/-- 'pileuplaw04.CopyingJoins', WHERE WHAT IT READS IS OF BULK AT MOST 1048576: true; the input reads as it did. -/
def copyingJoinsUptoRow : OpenClaim := { program := "ythodoabppkeidaadoor", sum := "1f676682340be8018deb2ddbe8063c45012a660e1754a43209b7360697be62ae", func := "pileup/pileuplaw04.CopyingJoins", spec := "copyingJoins", inPlace := ["internal/bytealg.IndexByteString", "internal/abi.NoEscape", "internal/bytealg.MakeNoZero"], unfollowed := true, recurses := true, named := ["pileup/copying.codes", "internal/strconv.uint64pow10", "math/bits.deBruijn32tab", "math/bits.deBruijn64tab", "unicode/utf8.first", "unicode/utf8.acceptRanges"], apart := false, laid := [("math/bits.deBruijn32tab", laid_math_bits_deBruijn32tab), ("math/bits.deBruijn64tab", laid_math_bits_deBruijn64tab), ("internal/strconv.uint64pow10", laid_internal_strconv_uint64pow10), ("unicode/utf8.acceptRanges", laid_unicode_utf8_acceptRanges), ("pileup/copying.codes", laid_pileup_copying_codes), ("unicode/utf8.first", laid_unicode_utf8_first)], narrowed := true }
def CopyingJoinsUptoSaid : Prop := copyingJoinsUptoRow.holds Tryd.pinned (OpenSpec.upto copyingJoinsSpec)

/-- 'pileuplaw04.CopyingFigures', WHERE WHAT IT READS IS OF BULK AT MOST 1048576: true; the input reads as it did. -/
def copyingFiguresUptoRow : OpenClaim := { program := "ythodoabppkeidaadoor", sum := "1f676682340be8018deb2ddbe8063c45012a660e1754a43209b7360697be62ae", func := "pileup/pileuplaw04.CopyingFigures", spec := "copyingFigures", inPlace := ["internal/bytealg.IndexByteString", "internal/abi.NoEscape", "internal/bytealg.MakeNoZero"], unfollowed := true, recurses := true, named := ["pileup/copying.codes", "internal/strconv.uint64pow10", "math/bits.deBruijn32tab", "math/bits.deBruijn64tab", "unicode/utf8.first", "unicode/utf8.acceptRanges"], apart := false, laid := [("math/bits.deBruijn32tab", laid_math_bits_deBruijn32tab), ("math/bits.deBruijn64tab", laid_math_bits_deBruijn64tab), ("internal/strconv.uint64pow10", laid_internal_strconv_uint64pow10), ("unicode/utf8.acceptRanges", laid_unicode_utf8_acceptRanges), ("pileup/copying.codes", laid_pileup_copying_codes), ("unicode/utf8.first", laid_unicode_utf8_first)], narrowed := true }
def CopyingFiguresUptoSaid : Prop := copyingFiguresUptoRow.holds Tryd.pinned (OpenSpec.upto copyingFiguresSpec)

/-- 'pileuplaw04.CopyingExact', WHERE WHAT IT READS IS OF BULK AT MOST 1048576: true; the input reads as it did. -/
def copyingExactUptoRow : OpenClaim := { program := "ythodoabppkeidaadoor", sum := "1f676682340be8018deb2ddbe8063c45012a660e1754a43209b7360697be62ae", func := "pileup/pileuplaw04.CopyingExact", spec := "copyingExact", inPlace := ["internal/bytealg.IndexByteString", "internal/abi.NoEscape", "internal/bytealg.MakeNoZero"], unfollowed := true, recurses := true, named := ["pileup/copying.codes", "internal/strconv.uint64pow10", "math/bits.deBruijn32tab", "math/bits.deBruijn64tab", "unicode/utf8.first", "unicode/utf8.acceptRanges"], apart := false, laid := [("math/bits.deBruijn32tab", laid_math_bits_deBruijn32tab), ("math/bits.deBruijn64tab", laid_math_bits_deBruijn64tab), ("internal/strconv.uint64pow10", laid_internal_strconv_uint64pow10), ("unicode/utf8.acceptRanges", laid_unicode_utf8_acceptRanges), ("pileup/copying.codes", laid_pileup_copying_codes), ("unicode/utf8.first", laid_unicode_utf8_first)], narrowed := true }
def CopyingExactUptoSaid : Prop := copyingExactUptoRow.holds Tryd.pinned (OpenSpec.upto copyingExactSpec)

/-- 'pileuplaw04.CopyingRises', WHERE WHAT IT READS IS OF BULK AT MOST 1048576: true; the input reads as it did. -/
def copyingRisesUptoRow : OpenClaim := { program := "ythodoabppkeidaadoor", sum := "1f676682340be8018deb2ddbe8063c45012a660e1754a43209b7360697be62ae", func := "pileup/pileuplaw04.CopyingRises", spec := "copyingRises", inPlace := ["internal/bytealg.IndexByteString", "internal/abi.NoEscape", "internal/bytealg.MakeNoZero"], unfollowed := true, recurses := true, named := ["pileup/copying.codes", "internal/strconv.uint64pow10", "math/bits.deBruijn32tab", "math/bits.deBruijn64tab", "unicode/utf8.first", "unicode/utf8.acceptRanges"], apart := false, laid := [("math/bits.deBruijn32tab", laid_math_bits_deBruijn32tab), ("math/bits.deBruijn64tab", laid_math_bits_deBruijn64tab), ("internal/strconv.uint64pow10", laid_internal_strconv_uint64pow10), ("unicode/utf8.acceptRanges", laid_unicode_utf8_acceptRanges), ("pileup/copying.codes", laid_pileup_copying_codes), ("unicode/utf8.first", laid_unicode_utf8_first)], narrowed := true }
def CopyingRisesUptoSaid : Prop := copyingRisesUptoRow.holds Tryd.pinned (OpenSpec.upto copyingRisesSpec)

end Rows
end Go.Proofs.YthodoabppkeidaaDoor
