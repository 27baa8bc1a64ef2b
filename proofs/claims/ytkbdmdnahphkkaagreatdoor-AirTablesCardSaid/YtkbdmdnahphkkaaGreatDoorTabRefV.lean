/-
  rows, Overlap, ValidTable of the specification. Conditions: the texts are in memory.
-/
import Derived.Test.YtkbdmdnahphkkaaGreatDoorTabValid
namespace Go.Proofs.YtkbdmdnahphkkaaGreatDoor
open Go.RowKit
set_option maxHeartbeats 1000000 in
theorem ref_rows (A : Option Addr) (n c : Nat) (l : List Rw) (w : World) (hl : RowsAt w A n l) (hn : n ≤ 9223372036854775807) (ht : TextsIn l) :
    Calls Tryz.prog 32 #[.slice A n c] w fun e w' => e = .returned (.bool (rowsB l)) ∧ New w w' := by
  have hlen := hl.1
  have HL := Lib.hid hl
  have HT := Lib.hid ht
  have HE : Hid (rowsB l = (decide (l.length ≤ 400) && l.all rowB)) := Lib.hid rfl
  clear hl ht
  by_cases h4 : n ≤ 400
  · rw [hlen, decide_eq_true h4, Bool.true_and] at HE
    have HLN := Lib.hid hlen
    clear hlen
    go_enter Tryz.func32, Tryz.ntmps32
    go_wp2_with fail
    go_loopw [3] (fun x wr => ∃ k : Nat, k ≤ n ∧ x = .int .i64 k ∧ New w wr ∧ Hid (l.all rowB = (l.drop k).all rowB)) (fun x _ => n - (intOf x).toNat)
    case atStart => exact ⟨0, by omega, rfl, New.refl w, Lib.hid rfl⟩
    case round =>
      obtain ⟨k, hk, rfl, hnew, HF⟩ := hrel
      by_cases hlt : k < n
      · obtain ⟨b, off, r, rfl, hr, hd, hrow⟩ := HL.out.row hnew hlt
        obtain ⟨c0, c1, c2, c3, c4, c5, c6⟩ := hrow
        have htx := HT.out r (List.mem_of_getElem? hr)
        have HD := Lib.hid hd
        clear hr hd
        go_wp2_with fail
        refine (ref_row r _ htx).mono ?_
        rintro e w1 ⟨rfl, h1⟩
        cases hv : rowB r with
        | true =>
          have HG : Hid (l.all rowB = (l.drop (k + 1)).all rowB) := by
            have h := HF.out
            rw [HD.out, List.all_cons, hv, Bool.true_and] at h
            exact Lib.hid h
          clear hv c0 c1 c2 c3 c4 c5 c6
          go_wp2_with fail
          exact ⟨⟨k + 1, by omega, rfl, hnew.trans h1, HG⟩, by simp [intOf]; omega⟩
        | false =>
          have HG : Hid (l.all rowB = false) := by
            have h := HF.out
            rw [HD.out, List.all_cons, hv, Bool.false_and] at h
            exact Lib.hid h
          clear hv c0 c1 c2 c3 c4 c5 c6
          go_wp2_with fail
          go_ret
          exact ⟨by rw [HE.out, HG.out]; rfl, hnew.trans h1⟩
      · have HG : Hid (l.all rowB = true) := by
          have h := HF.out
          rw [List.drop_eq_nil_of_le (by rw [HLN.out]; omega)] at h
          exact Lib.hid h
        go_wp2_with fail
        go_ret
        exact ⟨by rw [HE.out, HG.out]; rfl, hnew⟩
  · rw [hlen, decide_eq_false h4, Bool.false_and] at HE
    clear hlen
    go_enter Tryz.func32, Tryz.ntmps32
    go_wp2_with fail
    go_ret
    exact ⟨by rw [HE.out]; rfl, New.refl w⟩

end Go.Proofs.YtkbdmdnahphkkaaGreatDoor
