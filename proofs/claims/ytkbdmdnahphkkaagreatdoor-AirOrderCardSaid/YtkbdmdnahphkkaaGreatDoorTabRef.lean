/-
  Rows of tables in the specification: row, rows; keyOf and inForce of the program. Condition: the texts are in memory.
-/
import Derived.Test.YtkbdmdnahphkkaaGreatDoorTabSlice
namespace Go.Proofs.YtkbdmdnahphkkaaGreatDoor
open Go.RowKit
theorem text_stop (s : ByteArray) (wh : Bool) (k : Nat) (h : k < s.size) (hf : tB wh s[k] = false) : (bs s).all (tB wh) = false := all_stop (f := tB wh) s k h hf
theorem days_eq (f t : Int) : (withinB f 0 99999 && (withinB t 0 99999 && decide (f ≤ t))) = (decide (0 ≤ f) && (decide (f ≤ t) && decide (t ≤ 99999))) := by
  rw [Bool.eq_iff_iff]
  simp only [Bool.and_eq_true, withinB_iff, decide_eq_true_eq]
  omega
set_option maxHeartbeats 4000000 in
theorem ref_row (r : Rw) (w : World) (hs : r.text.length ≤ 9223372036854775807) :
    Calls Tryz.prog 63 #[rowV r] w fun e w' => e = .returned (.bool (rowB r)) ∧ New w w' := by
  have hsz := B_size r.text
  have HE : Hid (rowB r = ((withinB r.text.length 1 16 && r.text.all (tB r.whole)) && (withinB r.country 1 65535 && (withinB r.zone 1 99 && (withinB r.cont 1 7 && (withinB r.frm 0 99999 && (withinB r.til 0 99999 && decide (r.frm ≤ r.til)))))))) := rfl
  have HR := Lib.hid (RowIn.new w r)
  have HN := Lib.hid ((New.refl w).alloc (.cells #[.string (B r.text), .int .i64 r.country, .int .i64 r.zone, .int .i64 r.cont, .int .i64 r.frm, .int .i64 r.til, .bool r.whole] 49))
  unfold rowV
  go_enter Tryz.func63, Tryz.ntmps63
  go_wp2_with fail
  refine (ref_within _ _ _ _).mono ?_
  rintro e w' ⟨rfl, rfl⟩
  cases q0 : withinB r.text.length 1 16 with
  | false =>
    rw [q0] at HE
    clear q0
    go_wp2_with fail
    go_ret
    exact ⟨by rw [HE.out]; rfl, HN.out⟩
  | true =>
    rw [q0, Bool.true_and] at HE
    clear q0
    obtain ⟨c0, c1, c2, c3, c4, c5, c6⟩ := HR.out.cells
    simp only [Nat.zero_add] at c1 c2 c3 c4 c5 c6
    go_wp2_with fail
    generalize hW : w.alloc (.cells #[.string (B r.text), .int .i64 r.country, .int .i64 r.zone, .int .i64 r.cont, .int .i64 r.frm, .int .i64 r.til, .bool r.whole] 49) = W at *
    clear hW
    have HB := Lib.hid (bs_B r.text)
    go_loop [3, 4] (fun i _ => ∃ k : Nat, k ≤ r.text.length ∧ i = .int .i64 k ∧ (r.text.take k).all (tB r.whole) = true) (fun i _ => r.text.length - (intOf i).toNat)
    case atStart => exact ⟨0, by omega, rfl, by simp⟩
    case round =>
      obtain ⟨k, hk, rfl, hp⟩ := hrel
      have HP := Lib.hid hp
      clear hp
      by_cases hlt : k < r.text.length
      · have hlt2 : k < (B r.text).size := by omega
        have HS : Hid (tB r.whole ((B r.text)[k]'hlt2) = true → (r.text.take (k + 1)).all (tB r.whole) = true) := Lib.hid (fun h => by
          have h2 := all_step (f := tB r.whole) (B r.text) k hlt2 h (by rw [HB.out]; exact HP.out)
          rw [HB.out] at h2; exact h2)
        have HT : Hid (tB r.whole ((B r.text)[k]'hlt2) = false → r.text.all (tB r.whole) = false) := Lib.hid (fun h => by
          have h2 := all_stop (f := tB r.whole) (B r.text) k hlt2 h
          rw [HB.out] at h2; exact h2)
        have HTB : Hid (∀ c : UInt8, tB r.whole c = ((isL c || isD c) || (r.whole && decide (c.toNat = 47)))) := Lib.hid (fun c => rfl)
        go_wp2_with fail
        refine (ref_letter _ _).mono ?_
        rintro e w' ⟨rfl, rfl⟩
        rw [rng_isL]
        cases hL : isL ((B r.text)[k]'hlt2) with
        | true =>
          have HG := Lib.hid (HS.out (by rw [HTB.out, hL]; rfl))
          clear hL
          go_wp2_with fail
          exact ⟨⟨k + 1, by omega, rfl, HG.out⟩, by simp [intOf]; omega⟩
        | false =>
          have HL := Lib.hid hL
          clear hL
          go_wp2_with fail
          refine (ref_digit _ _).mono ?_
          rintro e w' ⟨rfl, rfl⟩
          rw [rng_isD]
          cases hD : isD ((B r.text)[k]'hlt2) with
          | true =>
            have HG := Lib.hid (HS.out (by rw [HTB.out, HL.out, hD]; rfl))
            clear hD
            go_wp2_with fail
            exact ⟨⟨k + 1, by omega, rfl, HG.out⟩, by simp [intOf]; omega⟩
          | false =>
            have HD := Lib.hid hD
            clear hD
            rcases (show r.whole = false ∨ r.whole = true by cases r.whole <;> simp) with hwh | hwh
            · skip
              have HG := Lib.hid (HT.out (by rw [HTB.out, HL.out, HD.out, hwh]; rfl))
              rw [hwh] at c6
              go_wp2_with fail
              go_ret
              exact ⟨by rw [HE.out, HG.out]; rfl, HN.out⟩
            · rw [hwh] at c6
              have HWH := Lib.hid hwh
              clear hwh
              by_cases h47 : ((B r.text)[k]'hlt2).toNat = 47
              · have HG := Lib.hid (HS.out (by rw [HTB.out, HL.out, HD.out, HWH.out, decide_eq_true h47]; rfl))
                have hx : ((((B r.text)[k]'hlt2).toNat : Int) != 47) = false := by rw [h47]; rfl
                have H47 := Lib.hid h47
                clear h47
                go_wp2_with fail
                exact ⟨⟨k + 1, by omega, rfl, HG.out⟩, by simp [intOf]; omega⟩
              · have HG := Lib.hid (HT.out (by rw [HTB.out, HL.out, HD.out, HWH.out, decide_eq_false h47]; rfl))
                have hx : ((((B r.text)[k]'hlt2).toNat : Int) != 47) = true := by rw [bne_iff_ne]; omega
                clear h47
                go_wp2_with fail
                go_ret
                exact ⟨by rw [HE.out, HG.out]; rfl, HN.out⟩
      · obtain rfl : k = r.text.length := by omega
        have HG : Hid (r.text.all (tB r.whole) = true) := by
          have h := HP.out
          rw [List.take_length] at h
          exact Lib.hid h
        rw [HG.out, Bool.true_and] at HE
        clear HP
        rw [days_eq] at HE
        go_wp2_with fail
        refine (ref_within _ _ _ _).mono ?_
        rintro e w' ⟨rfl, rfl⟩
        cases q1 : withinB r.country 1 65535 with
        | false =>
          rw [q1] at HE
          clear q1
          go_wp2_with fail
          go_ret
          exact ⟨by rw [HE.out]; rfl, HN.out⟩
        | true =>
          rw [q1, Bool.true_and] at HE
          clear q1
          go_wp2_with fail
          refine (ref_within _ _ _ _).mono ?_
          rintro e w' ⟨rfl, rfl⟩
          cases q2 : withinB r.zone 1 99 with
          | false =>
            rw [q2] at HE
            clear q2
            go_wp2_with fail
            go_ret
            exact ⟨by rw [HE.out]; rfl, HN.out⟩
          | true =>
            rw [q2, Bool.true_and] at HE
            clear q2
            go_wp2_with fail
            refine (ref_within _ _ _ _).mono ?_
            rintro e w' ⟨rfl, rfl⟩
            cases q3 : withinB r.cont 1 7 with
            | false =>
              rw [q3] at HE
              clear q3
              go_wp2_with fail
              go_ret
              exact ⟨by rw [HE.out]; rfl, HN.out⟩
            | true =>
              rw [q3, Bool.true_and] at HE
              clear q3
              cases d1 : decide (0 ≤ r.frm)
              case false =>
                rw [d1] at HE
                go_wp2_with fail
                go_ret
                exact ⟨by rw [HE.out]; rfl, HN.out⟩
              case true =>
                rw [d1, Bool.true_and] at HE
                cases d2 : decide (r.frm ≤ r.til)
                case false =>
                  rw [d2] at HE
                  go_wp2_with fail
                  go_ret
                  exact ⟨by rw [HE.out]; rfl, HN.out⟩
                case true =>
                  rw [d2, Bool.true_and] at HE
                  go_wp2_with fail
                  go_ret
                  exact ⟨by rw [HE.out]; rfl, HN.out⟩

end Go.Proofs.YtkbdmdnahphkkaaGreatDoor
