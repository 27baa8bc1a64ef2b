/-
  ValidTable, Overlap of the program and of the specification, for every slice of rows. Conditions: the texts are in memory.
-/
import Derived.Test.YtkbdmdnahphkkaaGreatDoorTabOpen
namespace Go.Proofs.YtkbdmdnahphkkaaGreatDoor
open Go.RowKit
theorem air_ValidTable (A : Option Addr) (n c : Nat) (l : List Rw) (w : World) (hl : RowsAt w A n l) (hn : n ≤ 9223372036854775807) (ht : TextsIn l) :
    Calls Tryz.prog 15 #[.slice A n c] w fun e w' => e = .returned (.bool (tabB l)) ∧ New w w' := by
  have HL := Lib.hid hl
  have HT := Lib.hid ht
  clear hl ht
  go_enter Tryz.func15, Tryz.ntmps15
  go_wp2_with fail
  refine (air_openTable A n c l w HL.out hn HT.out).mono ?_
  rintro e w1 ⟨A', n', c', m, rfl, h1, _⟩
  go_wp2_with fail
  go_ret
  exact ⟨rfl, h1.alloc _⟩
/-- What Overlap tells. -/
def overV (l : List Rw) : Int × Int × Int :=
  if rowsB l = false then (0, 0, 12) else
  match clashV l with
  | some (i, k) => ((i : Int), (k : Int), 0)
  | none => (0, 0, 3)
theorem over_bad {l : List Rw} (h : rowsB l = false) : overV l = (0, 0, 12) := by unfold overV; rw [if_pos h]
theorem over_none {l : List Rw} (h : rowsB l = true) (h2 : clashV l = none) : overV l = (0, 0, 3) := by unfold overV; rw [if_neg (by simp [h]), h2]
theorem over_some {l : List Rw} {i k : Nat} (h : rowsB l = true) (h2 : clashV l = some (i, k)) : overV l = ((i : Int), (k : Int), 0) := by unfold overV; rw [if_neg (by simp [h]), h2]
def over3 (l : List Rw) : Value := .tuple #[.int .i64 (overV l).1, .int .i64 (overV l).2.1, .int .i64 (overV l).2.2]
set_option maxHeartbeats 1000000 in
theorem air_Overlap (A : Option Addr) (n c : Nat) (l : List Rw) (w : World) (hl : RowsAt w A n l) (hn : n ≤ 9223372036854775807) (ht : TextsIn l) :
    Calls Tryz.prog 9 #[.slice A n c] w fun e w' => e = .returned (over3 l) ∧ New w w' := by
  have HL := Lib.hid hl
  have HT := Lib.hid ht
  have HLN := Lib.hid hl.1
  have HO : Hid (over3 l = .tuple #[.int .i64 (overV l).1, .int .i64 (overV l).2.1, .int .i64 (overV l).2.2]) := Lib.hid rfl
  clear hl ht
  go_enter Tryz.func9, Tryz.ntmps9
  go_wp2_with fail
  refine (air_validRows A n c l _ HL.out hn HT.out).mono ?_
  rintro e w1 ⟨rfl, h1⟩
  have HN := Lib.hid h1
  clear h1
  cases hv : rowsB l with
  | false =>
    have HG := Lib.hid (over_bad hv)
    clear hv
    go_wp2_with fail
    go_ret3
    exact ⟨by rw [HO.out, HG.out]; rfl, HN.out⟩
  | true =>
    have HV := Lib.hid hv
    have h4 : n ≤ 400 := by have h := rowsB_len hv; rw [HLN.out] at h; exact h
    clear hv
    go_wp2_with fail
    refine (air_byKey A n c l w1 (HL.out.keep HN.out) h4 HT.out).mono ?_
    rintro e w2 ⟨rfl, h2, hm⟩
    have HM := Lib.hid hm
    replace HN := Lib.hid (HN.out.trans h2)
    clear h2 hm
    go_wp2_with fail
    refine (air_firstClash A n c _ _ l w2 (HL.out.keep HN.out) HM.out h4 HT.out).mono ?_
    rintro e w3 ⟨rfl, h3⟩
    replace HN := Lib.hid (HN.out.trans h3)
    clear h3
    cases hcl : clashV l with
    | none =>
      have HG := Lib.hid (over_none HV.out hcl)
      clear hcl
      unfold clV
      go_wp2_with fail
      go_ret3
      exact ⟨by rw [HO.out, HG.out]; rfl, HN.out⟩
    | some p =>
      obtain ⟨i, k⟩ := p
      have HG := Lib.hid (over_some HV.out hcl)
      clear hcl
      unfold clV
      go_wp2_with fail
      go_ret3
      exact ⟨by rw [HO.out, HG.out]; rfl, HN.out⟩

end Go.Proofs.YtkbdmdnahphkkaaGreatDoor
