/-
  DayOf of the program and of the specification: one value, for every day and minute.
-/
import Derived.Test.YtcaljokcgfkppaaDoorTimes
import Derived.Test.YtcaljokcgfkppaaDoorBands
namespace Go.Proofs.YtcaljokcgfkppaaDoor
open Go.RowKit
/-- The day of a minute of a contest that begins on a day, and the error. -/
def dayV (day m : Int) : Int × Int :=
  if withinB day 0 99999 && withinB m 0 20000 then (if 99999 < day + m / 1440 then (0, 2) else (day + m / 1440, 0)) else (0, 1)
theorem air_validDay (d : Int) (w : World) : Calls Tryd.prog 67 #[.int .i64 d] w fun e w' => e = .returned (.bool (withinB d 0 99999)) ∧ w = w' := by
  go_enter Tryd.func67, Tryd.ntmps67
  go_wp2_with fail
  refine (air_within _ _ _ w).mono ?_
  rintro e w' ⟨rfl, rfl⟩
  go_wp2_with fail
  go_ret
  exact ⟨rfl, rfl⟩
theorem air_DayOf (day m : Int) (w : World) : Calls Tryd.prog 40 #[.int .i64 day, .int .i64 m] w fun e w' => e = .returned (.tuple #[.int .i64 (dayV day m).1, .int .i64 (dayV day m).2]) ∧ w = w' := by
  have HD : Hid (dayV day m = if withinB day 0 99999 && withinB m 0 20000 then (if 99999 < day + m / 1440 then (0, 2) else (day + m / 1440, 0)) else (0, 1)) := rfl
  go_enter Tryd.func40, Tryd.ntmps40
  go_wp2_with fail
  refine (air_validDay _ w).mono ?_
  rintro e w' ⟨rfl, rfl⟩
  cases h1 : withinB day 0 99999 with
  | false =>
    rw [h1] at HD
    go_wp2_with fail
    exact bodyPost_ret (v := .tuple #[.int .i64 0, .int .i64 1]) (by simp [results, Tryd.results40, go_sem]) rfl ⟨by rw [HD.out]; rfl, rfl⟩
  | true =>
    rw [h1] at HD
    go_wp2_with fail
    refine (air_within _ _ _ w).mono ?_
    rintro e w' ⟨rfl, rfl⟩
    cases h2 : withinB m 0 20000 with
    | false =>
      rw [h2] at HD
      clear h1 h2
      go_wp2_with fail
      exact bodyPost_ret (v := .tuple #[.int .i64 0, .int .i64 1]) (by simp [results, Tryd.results40, go_sem]) rfl ⟨by rw [HD.out]; rfl, rfl⟩
    | true =>
      rw [h2] at HD
      rw [withinB_iff] at h1 h2
      have h3 : 0 ≤ m / 1440 ∧ m / 1440 ≤ 13 := by omega
      have ht : m.tdiv 1440 = m / 1440 := by rw [Int.tdiv_eq_ediv_of_nonneg h2.1]
      by_cases h4 : 99999 < day + m / 1440
      · have HE : Hid (dayV day m = (0, 2)) := by
          have h : dayV day m = (0, 2) := by rw [HD.out, if_pos (by decide), if_pos h4]
          exact Lib.hid h
        go_wp2_with fail
        exact bodyPost_ret (v := .tuple #[.int .i64 0, .int .i64 2]) (by simp [results, Tryd.results40, go_sem]) rfl ⟨by rw [HE.out], rfl⟩
      · have HE : Hid (dayV day m = (day + m / 1440, 0)) := by
          have h : dayV day m = (day + m / 1440, 0) := by rw [HD.out, if_pos (by decide), if_neg h4]
          exact Lib.hid h
        go_wp2_with fail
        exact bodyPost_ret (v := .tuple #[.int .i64 (day + m / 1440), .int .i64 0]) (by simp [results, Tryd.results40, go_sem]) rfl ⟨by rw [HE.out], rfl⟩
theorem ref_DayOf (day m : Int) (w : World) : Calls Tryd.prog 41 #[.int .i64 day, .int .i64 m] w fun e w' => e = .returned (.tuple #[.int .i64 (dayV day m).1, .int .i64 (dayV day m).2]) ∧ w = w' := by
  have HD : Hid (dayV day m = if withinB day 0 99999 && withinB m 0 20000 then (if 99999 < day + m / 1440 then (0, 2) else (day + m / 1440, 0)) else (0, 1)) := rfl
  go_enter Tryd.func41, Tryd.ntmps41
  go_wp2_with fail
  refine (ref_within _ _ _ w).mono ?_
  rintro e w' ⟨rfl, rfl⟩
  cases h1 : withinB day 0 99999 with
  | false =>
    rw [h1] at HD
    go_wp2_with fail
    exact bodyPost_ret (v := .tuple #[.int .i64 0, .int .i64 1]) (by simp [results, Tryd.results41, go_sem]) rfl ⟨by rw [HD.out]; rfl, rfl⟩
  | true =>
    rw [h1] at HD
    go_wp2_with fail
    refine (ref_within _ _ _ w).mono ?_
    rintro e w' ⟨rfl, rfl⟩
    cases h2 : withinB m 0 20000 with
    | false =>
      rw [h2] at HD
      clear h1 h2
      go_wp2_with fail
      exact bodyPost_ret (v := .tuple #[.int .i64 0, .int .i64 1]) (by simp [results, Tryd.results41, go_sem]) rfl ⟨by rw [HD.out]; rfl, rfl⟩
    | true =>
      rw [h2] at HD
      rw [withinB_iff] at h1 h2
      have h3 : 0 ≤ m / 1440 ∧ m / 1440 ≤ 13 := by omega
      have ht : m.tdiv 1440 = m / 1440 := by rw [Int.tdiv_eq_ediv_of_nonneg h2.1]
      by_cases h4 : 99999 < day + m / 1440
      · have HE : Hid (dayV day m = (0, 2)) := by
          have h : dayV day m = (0, 2) := by rw [HD.out, if_pos (by decide), if_pos h4]
          exact Lib.hid h
        go_wp2_with fail
        exact bodyPost_ret (v := .tuple #[.int .i64 0, .int .i64 2]) (by simp [results, Tryd.results41, go_sem]) rfl ⟨by rw [HE.out], rfl⟩
      · have HE : Hid (dayV day m = (day + m / 1440, 0)) := by
          have h : dayV day m = (day + m / 1440, 0) := by rw [HD.out, if_pos (by decide), if_neg h4]
          exact Lib.hid h
        go_wp2_with fail
        exact bodyPost_ret (v := .tuple #[.int .i64 (day + m / 1440), .int .i64 0]) (by simp [results, Tryd.results41, go_sem]) rfl ⟨by rw [HE.out], rfl⟩

end Go.Proofs.YtcaljokcgfkppaaDoor
