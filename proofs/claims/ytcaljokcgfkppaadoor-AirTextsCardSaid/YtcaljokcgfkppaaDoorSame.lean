/-
  Same of the program, for every two texts in a world that has the library's variable MaxLen.
-/
import Derived.Test.YtcaljokcgfkppaaDoorPrints
namespace Go.Proofs.YtcaljokcgfkppaaDoor
open Go.RowKit
theorem bytes_eq (a b : Bytes) : ((B a).toList == (B b).toList) = decide (a = b) := by
  rw [Lib.toList_data, Lib.toList_data]
  show (a == b) = _
  by_cases h : a = b
  · subst h; simp
  · rw [beq_eq_false_iff_ne.2 h]; simp [h]
/-- Whether two texts have the same base, and the error, in the program's words. -/
def sameV (a b : Option P4) : Bool × Int :=
  match a, b with
  | some p, some q => (decide (baseV (some p) = baseV (some q)), 0)
  | _, _ => (false, 10)
set_option maxHeartbeats 1000000 in
theorem air_Same (s t : ByteArray) (w : World) (hm : HasMax w) (hs : s.size ≤ 9223372036854775807) (ht : t.size ≤ 9223372036854775807) :
    Calls Tryd.prog 26 #[.string s, .string t] w fun e w' => e = .returned (.tuple #[.bool (sameV (splitV (bs s)) (splitV (bs t))).1, .int .i64 (sameV (splitV (bs s)) (splitV (bs t))).2]) ∧ New w w' := by
  go_enter Tryd.func26, Tryd.ntmps26
  go_wp2_with fail
  refine (air_Base s w hm hs).mono ?_
  rintro e w1 ⟨rfl, h1⟩
  have hm1 := hm.keep h1
  go_wp2_with fail
  refine (air_Base t w1 hm1 ht).mono ?_
  rintro e w2 ⟨rfl, h2⟩
  have h2 := h1.trans h2
  clear h1 hm1
  cases hx : splitV (bs s) with
  | none =>
    have HX := Lib.hid hx
    clear hx
    generalize p4E (splitV (bs t)) = e2
    simp only [p4E]
    go_wp2_with fail
    all_goals exact bodyPost_ret (v := .tuple #[.bool false, .int .i64 10]) (by simp [results, Tryd.results26, go_sem]) rfl ⟨by rw [HX.out]; rfl, h2⟩
  | some p =>
    have HX := Lib.hid hx
    clear hx
    cases hy : splitV (bs t) with
    | none =>
      have HY := Lib.hid hy
      clear hy
      simp only [p4E]
      go_wp2_with fail
      refine bodyPost_ret (v := .tuple #[.bool false, .int .i64 10]) (by simp [results, Tryd.results26, go_sem]) rfl ⟨by rw [HX.out, HY.out]; rfl, h2⟩
    | some q =>
      have HY := Lib.hid hy
      clear hy
      simp only [p4E]
      have hb := bytes_eq (baseV (some p)) (baseV (some q))
      have HB := Lib.hid hb
      clear hb
      go_wp2_with fail
      refine bodyPost_ret (v := .tuple #[.bool (decide (baseV (some p) = baseV (some q))), .int .i64 0]) (by simp [results, Tryd.results26, go_sem, HB.out]) rfl ⟨by rw [HX.out, HY.out]; rfl, h2⟩

end Go.Proofs.YtcaljokcgfkppaaDoor
