/-
  mixed, lettered, cut, area, stroke and base of the specification, for every text in memory. No other condition.
-/
import Derived.Test.YtkbdmdnahphkkaaGreatDoorGNum
import Derived.Test.YtkbdmdnahphkkaaGreatDoorRefB
namespace Go.Proofs.YtkbdmdnahphkkaaGreatDoor
open Go.RowKit
theorem all_stop {f : UInt8 → Bool} (s : ByteArray) (k : Nat) (h : k < s.size) (hf : f s[k] = false) : (bs s).all f = false := by
  have h1 : (bs s).all f = (((bs s).take (k + 1)).all f && ((bs s).drop (k + 1)).all f) := by rw [← List.all_append, List.take_append_drop]
  rw [h1, take_on s k h, List.all_append]
  simp [hf]
theorem all_step {f : UInt8 → Bool} (s : ByteArray) (k : Nat) (h : k < s.size) (hf : f s[k] = true) (hp : ((bs s).take k).all f = true) : ((bs s).take (k + 1)).all f = true := by
  rw [take_on s k h, List.all_append, hp]
  simp [hf]
theorem any_stop {f : UInt8 → Bool} (s : ByteArray) (k : Nat) (h : k < s.size) (hf : f s[k] = true) : (bs s).any f = true := by
  have h1 : (bs s).any f = (((bs s).take (k + 1)).any f || ((bs s).drop (k + 1)).any f) := by rw [← List.any_append, List.take_append_drop]
  rw [h1, take_on s k h, List.any_append]
  simp [hf]
theorem any_step {f : UInt8 → Bool} (s : ByteArray) (k : Nat) (h : k < s.size) (hf : f s[k] = false) (hp : ((bs s).take k).any f = false) : ((bs s).take (k + 1)).any f = false := by
  rw [take_on s k h, List.any_append, hp]
  simp [hf]
theorem take_all (s : ByteArray) : (bs s).take s.size = bs s := by rw [← bs_size, List.take_length]
theorem dec_zero (b : Nat) : decide (b = 0) = (((b : Nat) : Int) == 0) := by
  rw [Bool.eq_iff_iff]; simp
theorem ref_mixed (s : ByteArray) (w : World) (hs : s.size ≤ 9223372036854775807) :
    Calls Tryz.prog 121 #[.string s] w fun e w' => e = .returned (.bool ((bs s).all isM)) ∧ w = w' := by
  go_enter Tryz.func121, Tryz.ntmps121
  go_wp2_with fail
  go_loop [3] (fun i => ∃ k : Nat, k ≤ s.size ∧ i = .int .i64 k ∧ ((bs s).take k).all isM = true) (fun i => s.size - (intOf i).toNat)
  case atStart => exact ⟨0, by omega, rfl, by simp⟩
  case round =>
    obtain ⟨k, hk, rfl, hp⟩ := hrel
    have HP := Lib.hid hp
    clear hp
    by_cases hlt : k < s.size
    · go_wp2_with fail
      refine (ref_letter _ _).mono ?_
      rintro e w' ⟨rfl, rfl⟩
      rw [rng_isL]
      cases hL : isL (s[k]'hlt) with
      | true =>
        have HS := Lib.hid (all_step s k hlt (by unfold isM; rw [hL]; rfl) HP.out)
        clear hL
        go_wp2_with fail
        refine ⟨⟨k + 1, by omega, rfl, HS.out⟩, by simp [intOf]; omega⟩
      | false =>
        have HL := Lib.hid hL
        clear hL
        go_wp2_with fail
        refine (ref_digit _ _).mono ?_
        rintro e w' ⟨rfl, rfl⟩
        rw [rng_isD]
        cases hD : isD (s[k]'hlt) with
        | true =>
          have HS := Lib.hid (all_step s k hlt (by unfold isM; rw [hD, Bool.or_true]) HP.out)
          clear hD
          go_wp2_with fail
          refine ⟨⟨k + 1, by omega, rfl, HS.out⟩, by simp [intOf]; omega⟩
        | false =>
          have HS := Lib.hid (all_stop (f := isM) s k hlt (by unfold isM; rw [hD, HL.out]; rfl))
          clear hD
          go_wp2_with fail
          go_ret
          exact ⟨by rw [HS.out]; rfl, rfl⟩
    · obtain rfl : k = s.size := by omega
      have HS := Lib.hid (take_all s)
      go_wp2_with fail
      go_ret
      exact ⟨by rw [← HS.out, HP.out]; rfl, rfl⟩
theorem ref_lettered (s : ByteArray) (w : World) (hs : s.size ≤ 9223372036854775807) :
    Calls Tryz.prog 122 #[.string s] w fun e w' => e = .returned (.bool ((bs s).any isL)) ∧ w = w' := by
  go_enter Tryz.func122, Tryz.ntmps122
  go_wp2_with fail
  go_loop [3] (fun i => ∃ k : Nat, k ≤ s.size ∧ i = .int .i64 k ∧ ((bs s).take k).any isL = false) (fun i => s.size - (intOf i).toNat)
  case atStart => exact ⟨0, by omega, rfl, by simp⟩
  case round =>
    obtain ⟨k, hk, rfl, hp⟩ := hrel
    have HP := Lib.hid hp
    clear hp
    by_cases hlt : k < s.size
    · go_wp2_with fail
      refine (ref_letter _ _).mono ?_
      rintro e w' ⟨rfl, rfl⟩
      rw [rng_isL]
      cases hL : isL (s[k]'hlt) with
      | false =>
        have HS := Lib.hid (any_step s k hlt hL HP.out)
        clear hL
        go_wp2_with fail
        refine ⟨⟨k + 1, by omega, rfl, HS.out⟩, by simp [intOf]; omega⟩
      | true =>
        have HS := Lib.hid (any_stop s k hlt hL)
        clear hL
        go_wp2_with fail
        go_ret
        exact ⟨by rw [HS.out]; rfl, rfl⟩
    · obtain rfl : k = s.size := by omega
      have HS := Lib.hid (take_all s)
      go_wp2_with fail
      go_ret
      exact ⟨by rw [← HS.out, HP.out]; rfl, rfl⟩
theorem ref_cut (s : ByteArray) (w : World) (hs : s.size ≤ 9223372036854775807) :
    Calls Tryz.prog 120 #[.string s] w fun e w' => e = .returned (.int .i64 (cutB (bs s))) ∧ w = w' := by
  go_enter Tryz.func120, Tryz.ntmps120
  go_wp2_with fail
  go_loop [3, 4] (fun n i => ∃ k : Nat, k ≤ s.size ∧ i = .int .i64 k ∧ n = .int .i64 (cutB ((bs s).take k))) (fun _ i => s.size - (intOf i).toNat)
  case atStart => exact ⟨0, by omega, rfl, by simp [cutB]⟩
  case round =>
    obtain ⟨k, hk, rfl, rfl⟩ := hrel
    by_cases hlt : k < s.size
    · have HS := Lib.hid (cutB_step s k hlt)
      go_wp2_with fail
      refine (ref_digit _ _).mono ?_
      rintro e w' ⟨rfl, rfl⟩
      rw [rng_isD]
      cases hD : isD (s[k]'hlt) with
      | false =>
        have HT : Hid (cutB ((bs s).take (k + 1)) = cutB ((bs s).take k)) := by
          have h := HS.out
          rw [hD] at h
          exact Lib.hid h
        clear hD
        go_wp2_with fail
        refine ⟨⟨k + 1, by omega, rfl, by rw [HT.out]⟩, by simp [intOf]; omega⟩
      | true =>
        have HT : Hid (cutB ((bs s).take (k + 1)) = k + 1) := by
          have h := HS.out
          rw [hD] at h
          exact Lib.hid h
        clear hD
        go_wp2_with fail
        refine ⟨⟨k + 1, by omega, rfl, by rw [HT.out]; rfl⟩, by simp [intOf]; omega⟩
    · obtain rfl : k = s.size := by omega
      have HS := Lib.hid (take_all s)
      go_wp2_with fail
      go_ret
      exact ⟨by rw [HS.out]; rfl, rfl⟩
theorem ref_area (s : ByteArray) (w : World) (hs : s.size ≤ 9223372036854775807) :
    Calls Tryz.prog 93 #[.string s] w fun e w' => e = .returned (.bool (areaB (bs s))) ∧ w = w' := by
  have hz := bs_size s
  have HE : Hid (areaB (bs s) = ((bs s).all isM && (withinB s.size 1 4 && (bs s).any isL))) := by
    have h : areaB (bs s) = ((bs s).all isM && (withinB s.size 1 4 && (bs s).any isL)) := by rw [← areaR_eq]; unfold areaR; rw [hz]
    exact Lib.hid h
  clear hz
  go_enter Tryz.func93, Tryz.ntmps93
  go_wp2_with fail
  refine (ref_mixed s w hs).mono ?_
  rintro e w' ⟨rfl, rfl⟩
  cases h1 : (bs s).all isM with
  | false =>
    rw [h1] at HE
    clear h1
    go_wp2_with fail
    go_ret
    exact ⟨by rw [HE.out]; rfl, rfl⟩
  | true =>
    rw [h1] at HE
    clear h1
    go_wp2_with fail
    refine (ref_within _ _ _ w).mono ?_
    rintro e w' ⟨rfl, rfl⟩
    cases h2 : withinB s.size 1 4 with
    | false =>
      rw [h2] at HE
      clear h2
      go_wp2_with fail
      go_ret
      exact ⟨by rw [HE.out]; rfl, rfl⟩
    | true =>
      rw [h2] at HE
      clear h2
      go_wp2_with fail
      refine (ref_lettered s w hs).mono ?_
      rintro e w' ⟨rfl, rfl⟩
      rw [Bool.true_and, Bool.true_and] at HE
      generalize (bs s).any isL = b at *
      go_wp2_with fail
      go_ret
      exact ⟨by rw [HE.out]; rfl, rfl⟩
theorem one_digit (s : ByteArray) (h : s.size = 1) : (bs s).any isD = isD (s[0]'(by omega)) := by
  have h1 := bs_get s 0 (by omega)
  have h2 := bs_size s
  rw [h] at h2
  match hl : bs s, h2 with
  | [c], _ =>
    rw [hl] at h1
    simp at h1
    rw [← h1]
    simp
theorem ref_stroke (s : ByteArray) (w : World) (hs : s.size ≤ 9223372036854775807) :
    Calls Tryz.prog 94 #[.string s] w fun e w' => e = .returned (.bool (strokeB (bs s))) ∧ w = w' := by
  have hz := bs_size s
  have HE : Hid (strokeB (bs s) = ((decide (s.size = 1) && (bs s).any isD) || ((bs s).all isM && (withinB s.size 1 4 && decide (cutB (bs s) = 0))))) := by
    have h : strokeB (bs s) = ((decide (s.size = 1) && (bs s).any isD) || ((bs s).all isM && (withinB s.size 1 4 && decide (cutB (bs s) = 0)))) := by rw [← strokeR_eq]; unfold strokeR; rw [hz]
    exact Lib.hid h
  have hcl := cutB_le (bs s)
  rw [hz] at hcl
  clear hz
  have rest : ∀ b : Bool, strokeB (bs s) = (b || ((bs s).all isM && (withinB s.size 1 4 && decide (cutB (bs s) = 0)))) → b = false → strokeB (bs s) = ((bs s).all isM && (withinB s.size 1 4 && decide (cutB (bs s) = 0))) := by
    intro b h hb; rw [h, hb, Bool.false_or]
  have HR := Lib.hid rest
  clear rest
  by_cases h1 : s.size = 1
  · have hx : ((s.size : Int) == 1) = true := by rw [beq_iff_eq]; omega
    have hp : 0 < s.size := by omega
    have HD : Hid ((bs s).any isD = isD (s[0]'hp)) := Lib.hid (one_digit s h1)
    rw [decide_eq_true h1, Bool.true_and] at HE
    clear h1
    go_enter Tryz.func94, Tryz.ntmps94
    go_wp2_with fail
    refine (ref_digit _ _).mono ?_
    rintro e w' ⟨rfl, rfl⟩
    rw [rng_isD, ← HD.out]
    cases h2 : (bs s).any isD with
    | true =>
      rw [h2] at HE
      clear h2
      go_wp2_with fail
      go_ret
      exact ⟨by rw [HE.out]; rfl, rfl⟩
    | false =>
      replace HE := Lib.hid (HR.out _ HE.out h2)
      clear h2 HR HD
      go_wp2_with fail
      refine (ref_mixed s w hs).mono ?_
      rintro e w' ⟨rfl, rfl⟩
      cases h1 : (bs s).all isM with
      | false =>
        rw [h1] at HE
        clear h1
        go_wp2_with fail
        go_ret
        exact ⟨by rw [HE.out]; rfl, rfl⟩
      | true =>
        rw [h1] at HE
        clear h1
        go_wp2_with fail
        refine (ref_within _ _ _ w).mono ?_
        rintro e w' ⟨rfl, rfl⟩
        cases h2 : withinB s.size 1 4 with
        | false =>
          rw [h2] at HE
          clear h2
          go_wp2_with fail
          go_ret
          exact ⟨by rw [HE.out]; rfl, rfl⟩
        | true =>
          rw [h2] at HE
          clear h2
          go_wp2_with fail
          refine (ref_cut s w hs).mono ?_
          rintro e w' ⟨rfl, rfl⟩
          rw [Bool.true_and, Bool.true_and] at HE
          generalize cutB (bs s) = b at *
          go_wp2_with fail
          go_ret
          exact ⟨by rw [HE.out, dec_zero]; rfl, rfl⟩
  · have hx : ((s.size : Int) == 1) = false := by rw [beq_eq_false_iff_ne]; omega
    replace HE := Lib.hid (HR.out _ HE.out (by rw [decide_eq_false h1]; rfl))
    clear h1 HR
    go_enter Tryz.func94, Tryz.ntmps94
    go_wp2_with fail
    refine (ref_mixed s w hs).mono ?_
    rintro e w' ⟨rfl, rfl⟩
    cases h1 : (bs s).all isM with
    | false =>
      rw [h1] at HE
      clear h1
      go_wp2_with fail
      go_ret
      exact ⟨by rw [HE.out]; rfl, rfl⟩
    | true =>
      rw [h1] at HE
      clear h1
      go_wp2_with fail
      refine (ref_within _ _ _ w).mono ?_
      rintro e w' ⟨rfl, rfl⟩
      cases h2 : withinB s.size 1 4 with
      | false =>
        rw [h2] at HE
        clear h2
        go_wp2_with fail
        go_ret
        exact ⟨by rw [HE.out]; rfl, rfl⟩
      | true =>
        rw [h2] at HE
        clear h2
        go_wp2_with fail
        refine (ref_cut s w hs).mono ?_
        rintro e w' ⟨rfl, rfl⟩
        rw [Bool.true_and, Bool.true_and] at HE
        generalize cutB (bs s) = b at *
        go_wp2_with fail
        go_ret
        exact ⟨by rw [HE.out, dec_zero]; rfl, rfl⟩
theorem ref_base (s : ByteArray) (w : World) (hs : s.size ≤ 9223372036854775807) :
    Calls Tryz.prog 92 #[.string s] w fun e w' => e = .returned (.bool (baseB (bs s))) ∧ w = w' := by
  have hz := bs_size s
  have hcl := cutB_le (bs s)
  rw [hz] at hcl
  have HE : Hid (baseB (bs s) = ((bs s).all isM && (withinB (cutB (bs s)) 1 4 && (((bs s).take (cutB (bs s))).any isL && withinB (s.size - cutB (bs s) : Nat) 1 4)))) := by
    have h : baseB (bs s) = ((bs s).all isM && (withinB (cutB (bs s)) 1 4 && (((bs s).take (cutB (bs s))).any isL && withinB (s.size - cutB (bs s) : Nat) 1 4))) := by rw [← baseR_eq]; unfold baseR; rw [hz]
    exact Lib.hid h
  clear hz
  go_enter Tryz.func92, Tryz.ntmps92
  go_wp2_with fail
  refine (ref_cut s w hs).mono ?_
  rintro e w' ⟨rfl, rfl⟩
  go_wp2_with fail
  refine (ref_mixed s w hs).mono ?_
  rintro e w' ⟨rfl, rfl⟩
  have hx : s.extract 0 (cutB (bs s)) = B ((bs s).take (cutB (bs s))) := extract_B s 0 (cutB (bs s))
  have HX := Lib.hid hx
  clear hx
  generalize hk : cutB (bs s) = k at *
  clear hk
  cases h1 : (bs s).all isM with
  | false =>
    rw [h1] at HE
    clear h1
    go_wp2_with fail
    go_ret
    exact ⟨by rw [HE.out]; rfl, rfl⟩
  | true =>
    rw [h1] at HE
    clear h1
    go_wp2_with fail
    refine (ref_within _ _ _ w).mono ?_
    rintro e w' ⟨rfl, rfl⟩
    cases h2 : withinB k 1 4 with
    | false =>
      rw [h2] at HE
      clear h2
      go_wp2_with fail
      go_ret
      exact ⟨by rw [HE.out]; rfl, rfl⟩
    | true =>
      rw [h2] at HE
      clear h2
      go_wp2_with fail
      rw [HX.out]
      refine (ref_lettered (B ((bs s).take k)) w (by rw [B_size, List.length_take, bs_size]; omega)).mono ?_
      rintro e w' ⟨rfl, rfl⟩
      rw [bs_B]
      cases h3 : ((bs s).take k).any isL with
      | false =>
        rw [h3] at HE
        clear h3
        go_wp2_with fail
        go_ret
        exact ⟨by rw [HE.out]; rfl, rfl⟩
      | true =>
        rw [h3] at HE
        clear h3
        have hsub : ((s.size : Int) - (k : Int)) = ((s.size - k : Nat) : Int) := by omega
        have HS := Lib.hid hsub
        clear hsub
        go_wp2_with fail
        rw [HS.out]
        refine (ref_within _ _ _ w).mono ?_
        rintro e w' ⟨rfl, rfl⟩
        rw [Bool.true_and, Bool.true_and, Bool.true_and] at HE
        generalize withinB ((s.size - k : Nat) : Int) 1 4 = b at *
        go_wp2_with fail
        go_ret
        exact ⟨by rw [HE.out]; rfl, rfl⟩

end Go.Proofs.YtkbdmdnahphkkaaGreatDoor
