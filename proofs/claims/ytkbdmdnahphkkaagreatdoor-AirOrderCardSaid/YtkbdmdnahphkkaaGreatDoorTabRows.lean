/-
  Rows of tables: which are valid, for the program (validRow, validRows), and slices of rows in memory. Condition: the texts are in memory.
-/
import Derived.Test.YtkbdmdnahphkkaaGreatDoorTabText
import Derived.Test.YtkbdmdnahphkkaaGreatDoorRow
import Derived.Test.YtkbdmdnahphkkaaGreatDoorDays
namespace Go.Proofs.YtkbdmdnahphkkaaGreatDoor
open Go.RowKit
structure Rw where
  text : Bytes
  country : Int
  zone : Int
  cont : Int
  frm : Int
  til : Int
  whole : Bool
def rowCs (r : Rw) : Array Value := #[.string (B r.text), .int .i64 r.country, .int .i64 r.zone, .int .i64 r.cont, .int .i64 r.frm, .int .i64 r.til, .bool r.whole]
def rowV (r : Rw) : Value := .agg #[.string (B r.text), .int .i64 r.country, .int .i64 r.zone, .int .i64 r.cont, .int .i64 r.frm, .int .i64 r.til, .bool r.whole]
def rowB (r : Rw) : Bool := textB r.text r.whole && (withinB r.country 1 65535 && (withinB r.zone 1 99 && (withinB r.cont 1 7 && (withinB r.frm 0 99999 && (withinB r.til 0 99999 && decide (r.frm ≤ r.til))))))
/-- A row in a block of its own. -/
def RowIn (w : World) (g : Nat) (r : Rw) : Prop := w.heap[g]? = some (.cells (rowCs r) 49 (0, 0))
theorem RowIn.new (w : World) (r : Rw) : RowIn (w.alloc (.cells #[.string (B r.text), .int .i64 r.country, .int .i64 r.zone, .int .i64 r.cont, .int .i64 r.frm, .int .i64 r.til, .bool r.whole] 49)) w.heap.size r := heap_alloc_new w _
theorem RowIn.keep {w w' : World} {g : Nat} {r : Rw} (h : RowIn w g r) (k : New w w') : RowIn w' g r := heap_keep k h
/-- The seven cells of a row from a place on. -/
def RowAt (w : World) (b o : Nat) (r : Rw) : Prop := w.cell? ⟨b, o, none⟩ = some (.string (B r.text)) ∧ w.cell? ⟨b, o + 1, none⟩ = some (.int .i64 r.country) ∧ w.cell? ⟨b, o + 2, none⟩ = some (.int .i64 r.zone) ∧ w.cell? ⟨b, o + 3, none⟩ = some (.int .i64 r.cont) ∧
  w.cell? ⟨b, o + 4, none⟩ = some (.int .i64 r.frm) ∧ w.cell? ⟨b, o + 5, none⟩ = some (.int .i64 r.til) ∧ w.cell? ⟨b, o + 6, none⟩ = some (.bool r.whole)
theorem RowIn.cells {w : World} {g : Nat} {r : Rw} (h : RowIn w g r) : RowAt w g 0 r := by
  unfold RowIn rowCs at h
  refine ⟨?_, ?_, ?_, ?_, ?_, ?_, ?_⟩
  · rw [cell_of_row _ _ 0 _ _ _ h]; rfl
  · rw [cell_of_row _ _ 1 _ _ _ h]; rfl
  · rw [cell_of_row _ _ 2 _ _ _ h]; rfl
  · rw [cell_of_row _ _ 3 _ _ _ h]; rfl
  · rw [cell_of_row _ _ 4 _ _ _ h]; rfl
  · rw [cell_of_row _ _ 5 _ _ _ h]; rfl
  · rw [cell_of_row _ _ 6 _ _ _ h]; rfl
theorem RowAt.keep {w w' : World} {b o : Nat} {r : Rw} (h : RowAt w b o r) (k : New w w') : RowAt w' b o r := by
  obtain ⟨h0, h1, h2, h3, h4, h5, h6⟩ := h
  exact ⟨k.cellOf h0, k.cellOf h1, k.cellOf h2, k.cellOf h3, k.cellOf h4, k.cellOf h5, k.cellOf h6⟩
set_option maxHeartbeats 2000000 in
theorem air_validRow (r : Rw) (w : World) (hs : r.text.length ≤ 9223372036854775807) :
    Calls Tryz.prog 61 #[rowV r] w fun e w' => e = .returned (.bool (rowB r)) ∧ New w w' := by
  have HE : Hid (rowB r = (textB r.text r.whole && (withinB r.country 1 65535 && (withinB r.zone 1 99 && (withinB r.cont 1 7 && (withinB r.frm 0 99999 && (withinB r.til 0 99999 && decide (r.frm ≤ r.til)))))))) := rfl
  have HR := Lib.hid (RowIn.new w r)
  have HN := Lib.hid ((New.refl w).alloc (.cells #[.string (B r.text), .int .i64 r.country, .int .i64 r.zone, .int .i64 r.cont, .int .i64 r.frm, .int .i64 r.til, .bool r.whole] 49))
  unfold rowV
  go_enter Tryz.func61, Tryz.ntmps61
  go_wp2_with fail
  refine (air_validText (B r.text) r.whole _ (by rw [B_size]; exact hs)).mono ?_
  rintro e w1 ⟨rfl, h1⟩
  rw [bs_B]
  replace HR := Lib.hid (HR.out.keep h1)
  replace HN := Lib.hid (HN.out.trans h1)
  clear h1
  obtain ⟨c0, c1, c2, c3, c4, c5, c6⟩ := HR.out.cells
  simp only [Nat.zero_add] at c1 c2 c3 c4 c5 c6
  cases q0 : textB r.text r.whole with
  | false =>
    rw [q0] at HE
    clear q0
    go_wp2_with fail
    go_ret
    exact ⟨by rw [HE.out]; rfl, HN.out⟩
  | true =>
    rw [q0, Bool.true_and] at HE
    clear q0
    go_wp2_with fail
    refine (air_within _ _ _ _).mono ?_
    rintro e w' ⟨rfl, rfl⟩
    cases q1 : withinB r.country 1 65535 with
    | false =>
      rw [q1] at HE
      clear q1
      go_wp2_with fail
      go_ret
      exact ⟨by rw [HE.out]; rfl, HN.out⟩
    | true =>
      rw [q1, Bool.true_and] at HE
      clear q1
      go_wp2_with fail
      refine (air_within _ _ _ _).mono ?_
      rintro e w' ⟨rfl, rfl⟩
      cases q2 : withinB r.zone 1 99 with
      | false =>
        rw [q2] at HE
        clear q2
        go_wp2_with fail
        go_ret
        exact ⟨by rw [HE.out]; rfl, HN.out⟩
      | true =>
        rw [q2, Bool.true_and] at HE
        clear q2
        go_wp2_with fail
        refine (air_within _ _ _ _).mono ?_
        rintro e w' ⟨rfl, rfl⟩
        cases q3 : withinB r.cont 1 7 with
        | false =>
          rw [q3] at HE
          clear q3
          go_wp2_with fail
          go_ret
          exact ⟨by rw [HE.out]; rfl, HN.out⟩
        | true =>
          rw [q3, Bool.true_and] at HE
          clear q3
          go_wp2_with fail
          refine (air_validDay _ _).mono ?_
          rintro e w' ⟨rfl, rfl⟩
          cases q4 : withinB r.frm 0 99999 with
          | false =>
            rw [q4] at HE
            clear q4
            go_wp2_with fail
            go_ret
            exact ⟨by rw [HE.out]; rfl, HN.out⟩
          | true =>
            rw [q4, Bool.true_and] at HE
            clear q4
            go_wp2_with fail
            refine (air_validDay _ _).mono ?_
            rintro e w' ⟨rfl, rfl⟩
            cases q5 : withinB r.til 0 99999 with
            | false =>
              rw [q5] at HE
              clear q5
              go_wp2_with fail
              go_ret
              exact ⟨by rw [HE.out]; rfl, HN.out⟩
            | true =>
              rw [q5, Bool.true_and] at HE
              clear q5
              go_wp2_with fail
              go_ret
              exact ⟨by rw [HE.out]; rfl, HN.out⟩

end Go.Proofs.YtkbdmdnahphkkaaGreatDoor
