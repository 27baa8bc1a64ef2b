/-
  ValidCall of the specification: the same as the program's. Condition: texts of at most 100000 bytes.
-/
import Derived.Test.YtkbdmdnahphkkaaGreatDoorRefParts
namespace Go.Proofs.YtkbdmdnahphkkaaGreatDoor
open Go.RowKit
theorem ref_VC (s : ByteArray) (w : World) (hs : s.size ≤ 100000) :
    Calls Tryz.prog 65 #[.string s] w fun e w' => e = .returned (.bool (splitV (bs s)).isSome) ∧ New w w' := by
  have HQ := Lib.hid (partsR_eq (bs s))
  go_enter Tryz.func65, Tryz.ntmps65
  go_wp2_with fail
  refine (ref_parts s _ hs).mono ?_
  rintro e w1 ⟨rfl, h1⟩
  cases hp : partsR (bs s) with
  | none =>
    have HE : Hid (splitV (bs s) = none) := by
      have h := HQ.out
      rw [hp] at h
      exact Lib.hid h.symm
    clear hp
    simp only [t3V]
    go_wp2_with fail
    go_ret
    exact ⟨by rw [HE.out]; rfl, h1⟩
  | some t =>
    have HE : Hid (splitV (bs s) = some (toP4 t)) := by
      have h := HQ.out
      rw [hp] at h
      exact Lib.hid h.symm
    clear hp
    simp only [t3V]
    go_wp2_with fail
    go_ret
    exact ⟨by rw [HE.out]; rfl, h1⟩

end Go.Proofs.YtkbdmdnahphkkaaGreatDoor
