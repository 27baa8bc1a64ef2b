/-
  The families in every world of a row that lays them. No condition.
-/
import Derived.Test.YthodoabppkeidaaGreatDoorCpLaid
namespace Go.Proofs.YthodoabppkeidaaGreatDoor
open Go Go.RowKit
open Go.ChangeShapes Go.WideShapes Go.ChangeAt Go.Deep
/-- The families as the program's text lays them. -/
def famsL : List Bytes := [[66, 67, 68, 69, 71, 80, 84, 86, 90, 51], [65, 72, 74, 75, 56], [70, 76, 77, 78, 83, 88, 55], [73, 89, 53, 57], [81, 85, 87, 50], [79, 48, 49, 52], [82, 54, 47]]
/-- The families, out of the row's list, in which they stand sixth. -/
theorem fams_of_laid {W : World} {n1 n2 n3 n4 n5 : String} {d1 d2 d3 d4 d5 : DataW Unit} {rest : List (String × DataW Unit)} (h : laidMet Tryz.prog ((n1, d1) :: (n2, d2) :: (n3, d3) :: (n4, d4) :: (n5, d5) :: ("pileup/copying.families", Rows.laid_pileup_copying_families) :: rest) W) : W.var? Tryz.prog "pileup/copying.families" = some (famsL.map strV).toArray := by
  obtain ⟨ps, hv, _⟩ := h
  obtain ⟨_, _, _, _, _, _, _, _, _, _, hv, _⟩ := hv
  obtain ⟨_, _, _, _, _, _, _, _, _, _, hv, _⟩ := hv
  obtain ⟨_, _, _, _, _, _, _, _, _, _, hv, _⟩ := hv
  obtain ⟨_, _, _, _, _, _, _, _, _, _, hv, _⟩ := hv
  obtain ⟨_, _, _, _, _, _, _, _, _, _, hv, _⟩ := hv
  obtain ⟨g', t', cs, fuel, p, q, hg', ht', hvar, hd, _, _⟩ := hv
  obtain rfl : g' = 1 := Option.some.inj (hg'.symm.trans (show Tryz.prog.globalNamed "pileup/copying.families" = some 1 by kernel_rfl))
  have hty : (Tryz.prog.globals[1]?).map (·.type) = some 129 := by kernel_rfl
  obtain rfl := Option.some.inj (hty.symm.trans ht')
  have hd' : DataW.trod _ _ _ _ _ _ _ _ _ = some (.agg (famsL.map fun z => .lit (.string z)), p) := hd
  rw [hvar, ← cells_of_strs Tryz.underlying129 Tryz.underlying9 (by kernel_rfl) (by kernel_rfl) hd']
theorem strV_inj {a b : List Bytes} (h : a.map strV = b.map strV) : a = b := by
  have h2 := congrArg (List.map strOf) h
  simp only [List.map_map] at h2
  have e : ∀ l : List Bytes, l.map (strOf ∘ strV) = l := fun l => by
    conv => rhs; rw [← List.map_id l]
    exact List.map_congr_left (fun x _ => by simp [strOf, strV, B])
  rwa [e, e] at h2
theorem tab_codes {W : World} {n1 n2 n3 n4 : String} {d1 d2 d3 d4 : DataW Unit} {rest : List (String × DataW Unit)} (hS : W.ShapedOpen Tryz.prog) (h : laidMet Tryz.prog ((n1, d1) :: (n2, d2) :: (n3, d3) :: (n4, d4) :: ("pileup/copying.codes", Rows.laid_pileup_copying_codes) :: ("pileup/copying.families", Rows.laid_pileup_copying_families) :: rest) W) : TabAt W famsL := by
  obtain ⟨F, hT⟩ := tab_of_row hS h
  have hf := fams_of_laid h
  have hT' := hT
  obtain ⟨_, ⟨t, h2⟩, _⟩ := hT
  unfold World.var? at hf
  rw [show Tryz.prog.globalNamed "pileup/copying.families" = some 1 by kernel_rfl] at hf
  simp only [Option.bind_some, h2] at hf
  have e := Option.some.inj hf
  have e2 : F.map strV = famsL.map strV := by simpa using e
  rw [← strV_inj e2]
  exact hT'
/-- The witnesses' world with the families laid, too. -/
noncomputable def laidWorldF (os : Os) : World := { laidWorld os with heap := (laidWorld os).heap.modify 1 (layTab Rows.laid_pileup_copying_families) }
end Go.Proofs.YthodoabppkeidaaGreatDoor
