/-
  DayOf of the program and of the specification: one value, for every day and minute.
-/
import Derived.Test.YtkbdmdnahphkkaaGreatDoorGNum
import Derived.Test.YtkbdmdnahphkkaaGreatDoorBands
namespace Go.Proofs.YtkbdmdnahphkkaaGreatDoor
open Go.RowKit
/-- The day of a minute of a contest that begins on a day, and the error. -/
def dayV (day m : Int) : Int × Int :=
  if withinB day 0 99999 && withinB m 0 20000 then (if 99999 < day + m / 1440 then (0, 2) else (day + m / 1440, 0)) else (0, 1)
theorem air_validDay (d : Int) (w : World) : Calls Tryz.prog 44 #[.int .i64 d] w fun e w' => e = .returned (.bool (withinB d 0 99999)) ∧ w = w' := by
  go_enter Tryz.func44, Tryz.ntmps44
  go_wp2_with fail
  refine (air_within _ _ _ w).mono ?_
  rintro e w' ⟨rfl, rfl⟩
  go_wp2_with fail
  go_ret
  exact ⟨rfl, rfl⟩
end Go.Proofs.YtkbdmdnahphkkaaGreatDoor
