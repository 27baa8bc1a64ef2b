/-
  Overlap, ValidTable of the specification: the same as the program's. Conditions: the texts are in memory.
-/
import Derived.Test.YtkbdmdnahphkkaaGreatDoorGTab
import Derived.Test.YtkbdmdnahphkkaaGreatDoorGJoin
namespace Go.Proofs.YtkbdmdnahphkkaaGreatDoor
open Go.RowKit
theorem clashB_eq (x y : Rw) : clashB x y = ((decide (x.text = y.text) && (x.whole == y.whole)) && (decide (x.frm ≤ y.til) && decide (y.frm ≤ x.til))) := by
  unfold clashB keyB
  rw [show decide (y.text = x.text) = decide (x.text = y.text) from decide_eq_decide.2 ⟨Eq.symm, Eq.symm⟩, Bool.beq_comm, Bool.and_comm (decide (y.frm ≤ x.til))]
set_option maxHeartbeats 8000000 in
theorem ref_Overlap (A : Option Addr) (n c : Nat) (l : List Rw) (w : World) (hl : RowsAt w A n l) (hn : n ≤ 9223372036854775807) (ht : TextsIn l) :
    Calls Tryz.prog 10 #[.slice A n c] w fun e w' => e = .returned (over3 l) ∧ New w w' := by
  have HL := Lib.hid hl
  have HT := Lib.hid ht
  have HLN := Lib.hid hl.1
  have HO : Hid (over3 l = .tuple #[.int .i64 (overV l).1, .int .i64 (overV l).2.1, .int .i64 (overV l).2.2]) := Lib.hid rfl
  clear hl ht
  go_enter Tryz.func10, Tryz.ntmps10
  go_wp2_with fail
  refine (ref_rows A n c l w HL.out hn HT.out).mono ?_
  rintro e w1 ⟨rfl, h1⟩
  have HN := Lib.hid h1
  clear h1
  cases hv : rowsB l with
  | false =>
    have HG := Lib.hid (over_bad hv)
    clear hv
    go_wp2_with fail
    go_ret3
    exact ⟨by rw [HO.out, HG.out]; rfl, HN.out⟩
  | true =>
    have HV := Lib.hid hv
    have h4 : n ≤ 400 := by have h := rowsB_len hv; rw [HLN.out] at h; exact h
    clear hv
    go_wp2_with fail
    go_loopw [5] (fun x wr => ∃ k : Nat, k ≤ n ∧ x = .int .i64 k ∧ New w wr ∧ Hid (∀ j, j < k → clash1 l j = none)) (fun x _ => n - (intOf x).toNat)
    case atStart => exact ⟨0, by omega, rfl, HN.out, Lib.hid (fun j hj => by omega)⟩
    case round =>
      obtain ⟨i, hi, rfl, hnew, HK⟩ := hrel
      by_cases hlt : i < n
      · go_wp2_with fail
        go_loopw [6] (fun x wv => ∃ k : Nat, i < k ∧ k ≤ n ∧ x = .int .i64 k ∧ New wr wv ∧ Hid (∀ j, i < j → j < k → clashB (rowN l i) (rowN l j) = false)) (fun x _ => n - (intOf x).toNat)
        case atStart => exact ⟨i + 1, by omega, by omega, rfl, New.refl _, Lib.hid (fun j h1 h2 => by omega)⟩
        case round =>
          obtain ⟨k, hik, hk, rfl, hnew2, HC⟩ := hrel
          have HNB := Lib.hid (hnew.trans hnew2)
          by_cases hlk : k < n
          · obtain ⟨bb, off, x, rfl, hx, _, hrow⟩ := HL.out.row HNB.out hlt
            obtain ⟨bb2, off2, y, hA, hy, _, hrow2⟩ := HL.out.row HNB.out hlk
            injection hA with hA
            injection hA with hA1 hA2 hA3
            subst hA1 hA2
            obtain ⟨a0, a1, a2, a3, a4, a5, a6⟩ := hrow
            obtain ⟨c0, c1, c2, c3, c4, c5, c6⟩ := hrow2
            have HE : Hid (clashB (rowN l i) (rowN l k) = ((decide (x.text = y.text) && (x.whole == y.whole)) && (decide (x.frm ≤ y.til) && decide (y.frm ≤ x.til)))) := by
              have h1 : rowN l i = x := by simp [rowN, List.getD, hx]
              have h2 : rowN l k = y := by simp [rowN, List.getD, hy]
              rw [h1, h2]
              exact Lib.hid (clashB_eq x y)
            have HNO : Hid (clashB (rowN l i) (rowN l k) = false → ∀ j, i < j → j < k + 1 → clashB (rowN l i) (rowN l j) = false) := Lib.hid (fun h j h1 h2 => by
              by_cases hj : j = k
              · rw [hj]; exact h
              · exact HC.out j h1 (by omega))
            have HYES : Hid (clashB (rowN l i) (rowN l k) = true → clashV l = some (i, k)) := Lib.hid (fun h => by
              refine clashV_some (by rw [HLN.out]; exact hlt) (fst_some (by rw [HLN.out]; exact hlk) (by rw [h, decide_eq_true hik]; rfl) (fun j hj => ?_)) HK.out
              by_cases hij : i < j
              · rw [HC.out j hij hj]; simp
              · rw [decide_eq_false hij]; rfl)
            clear hx hy
            have hq1 : (0 : Int) ≤ (i : Int) := by omega
            have hq2 : (i : Int) < (n : Int) := by omega
            have hq3 : (0 : Int) ≤ (k : Int) := by omega
            have hq4 : (k : Int) < (n : Int) := by omega
            by_cases g0 : x.text = y.text
            · rw [decide_eq_true g0] at HE
              have g0' : (B x.text).toList = (B y.text).toList := by rw [g0]
              clear g0
              cases g1 : (x.whole == y.whole) with
              | false =>
                have HG := Lib.hid (HNO.out (by rw [HE.out, g1]; rfl))
                clear HE HNO HYES a1 a2 a3 a4 a5 c1 c2 c3 c4 c5
                go_wp2_with fail
                go_quiet (fail)
                clear a0 a6 c0 c6 g0' g1
                go_wp2_with fail
                exact ⟨⟨k + 1, by omega, by omega, rfl, hnew2.drewN _, HG⟩, by simp [intOf]; omega⟩
              | true =>
                cases g2 : decide (x.frm ≤ y.til) with
                | false =>
                  have HG := Lib.hid (HNO.out (by rw [HE.out, g1, g2]; rfl))
                  clear HE HNO HYES a1 a2 a3 a5 c1 c2 c3 c4
                  go_wp2_with fail
                  go_quiet (fail)
                  clear a0 a4 a6 c0 c5 c6 g0' g1 g2
                  go_wp2_with fail
                  exact ⟨⟨k + 1, by omega, by omega, rfl, hnew2.drewN _, HG⟩, by simp [intOf]; omega⟩
                | true =>
                  clear a1 a2 a3 c1 c2 c3
                  go_wp2_with fail
                  go_quiet (fail)
                  clear a0 a4 a5 a6 c0 c4 c5 c6 g0'
                  cases g3 : decide (y.frm ≤ x.til) with
                  | false =>
                    have HG := Lib.hid (HNO.out (by rw [HE.out, g1, g2, g3]; rfl))
                    clear HE HNO HYES g1 g2 g3
                    go_wp2_with fail
                    exact ⟨⟨k + 1, by omega, by omega, rfl, hnew2.drewN _, HG⟩, by simp [intOf]; omega⟩
                  | true =>
                    have HG := Lib.hid (over_some HV.out (HYES.out (by rw [HE.out, g1, g2, g3]; rfl)))
                    clear HE HNO HYES g1 g2 g3
                    go_wp2_with fail
                    go_ret3
                    exact ⟨by rw [HO.out, HG.out]; rfl, HNB.out.drewN _⟩
            · rw [decide_eq_false g0] at HE
              have g0' : ((B x.text).toList == (B y.text).toList) = false := by rw [beq_eq_false_iff_ne]; exact bytes_ne g0
              clear g0
              have HG := Lib.hid (HNO.out (by rw [HE.out]; rfl))
              clear HE HNO HYES a1 a2 a3 a4 a5 a6 c1 c2 c3 c4 c5 c6
              go_wp2_with fail
              go_quiet (fail)
              clear a0 c0 g0'
              go_wp2_with fail
              exact ⟨⟨k + 1, by omega, by omega, rfl, hnew2.drewN _, HG⟩, by simp [intOf]; omega⟩
          · have HZ : Hid (clash1 l i = none) := by
              refine Lib.hid (fst_none (fun j hj => ?_))
              rw [HLN.out] at hj
              by_cases hij : i < j
              · rw [HC.out j hij (by omega)]; simp
              · rw [decide_eq_false hij]; rfl
            go_wp2_with fail
            exact ⟨⟨i + 1, by omega, rfl, HNB.out, Lib.hid (fun j hj => by
              by_cases hjk : j = i
              · rw [hjk]; exact HZ.out
              · exact HK.out j (by omega))⟩, by simp [intOf]; omega⟩
      · have HG : Hid (overV l = (0, 0, 3)) := Lib.hid (over_none HV.out (clashV_none (fun j hj => HK.out j (by rw [HLN.out] at hj; omega))))
        go_wp2_with fail
        go_ret3
        exact ⟨by rw [HO.out, HG.out]; rfl, hnew⟩
theorem over_tab (l : List Rw) : ((overV l).2.2 == (3 : Int)) = tabB l := by
  unfold overV tabB
  cases h : rowsB l
  · rfl
  · cases h2 : clashV l with
    | none => rfl
    | some p => rfl
theorem ref_ValidTable (A : Option Addr) (n c : Nat) (l : List Rw) (w : World) (hl : RowsAt w A n l) (hn : n ≤ 9223372036854775807) (ht : TextsIn l) :
    Calls Tryz.prog 16 #[.slice A n c] w fun e w' => e = .returned (.bool (tabB l)) ∧ New w w' := by
  have HT := Lib.hid (over_tab l)
  go_enter Tryz.func16, Tryz.ntmps16
  go_wp2_with fail
  refine (ref_Overlap A n c l w hl hn ht).mono ?_
  rintro e w1 ⟨rfl, h1⟩
  unfold over3
  generalize overV l = o at *
  go_wp2_with fail
  go_ret
  exact ⟨by rw [← HT.out]; rfl, h1⟩

end Go.Proofs.YtkbdmdnahphkkaaGreatDoor
