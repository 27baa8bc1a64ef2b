/-
  Same of the program, for every two texts in a world that has the library's variable MaxLen.
-/
import Derived.Test.YtkbdmdnahphkkaaGreatDoorPrints
namespace Go.Proofs.YtkbdmdnahphkkaaGreatDoor
open Go.RowKit
theorem bytes_eq (a b : Bytes) : ((B a).toList == (B b).toList) = decide (a = b) := by
  rw [Lib.toList_data, Lib.toList_data]
  show (a == b) = _
  by_cases h : a = b
  · subst h; simp
  · rw [beq_eq_false_iff_ne.2 h]; simp [h]
/-- Whether two texts have the same base, and the error, in the program's words. -/
def sameV (a b : Option P4) : Bool × Int :=
  match a, b with
  | some p, some q => (decide (baseV (some p) = baseV (some q)), 0)
  | _, _ => (false, 10)
end Go.Proofs.YtkbdmdnahphkkaaGreatDoor
