/-
  Texts in the specification: digit, letter, number, and what stands between the blanks or the strokes of a text (split, pieces). Conditions: texts of at most 100000 bytes.
-/
import Derived.Test.YtcaljokcgfkppaaDoorTimeBack
import Derived.OwnWalk
namespace Go.Proofs.YtcaljokcgfkppaaDoor
open Go.RowKit
theorem ref_digit (c : Int) (w : World) : Calls Tryd.prog 54 #[.int .u8 c] w fun e w' => e = .returned (.bool (rngR 48 57 c)) ∧ w = w' := by
  go_enter Tryd.func54, Tryd.ntmps54
  go_wp2
  all_goals
    go_ret
    exact ⟨ret_bool (by simp [rngR]; omega), rfl⟩
theorem ref_letter (c : Int) (w : World) : Calls Tryd.prog 102 #[.int .u8 c] w fun e w' => e = .returned (.bool (rngR 65 90 c)) ∧ w = w' := by
  go_enter Tryd.func102, Tryd.ntmps102
  go_wp2
  all_goals
    go_ret
    exact ⟨ret_bool (by simp [rngR]; omega), rfl⟩
theorem rng_isD (c : UInt8) : rngR 48 57 c.toNat = isD c := by
  unfold rngR isD
  rw [Bool.eq_iff_iff]; simp; omega
theorem rng_isL (c : UInt8) : rngR 65 90 c.toNat = isL c := by
  unfold rngR isL
  rw [Bool.eq_iff_iff]; simp; omega
theorem take_on (s : ByteArray) (k : Nat) (h : k < s.size) : (bs s).take (k + 1) = (bs s).take k ++ [s[k]] := by
  have hl : k < (bs s).length := by rw [bs_size]; exact h
  have hg : (bs s)[k] = s[k] := by have := bs_get s k h; rw [List.getElem?_eq_getElem hl] at this; exact Option.some.inj this
  rw [List.take_succ_eq_append_getElem hl, hg]
  rfl
/-- One byte on, in a number. -/
theorem num_on (s : ByteArray) (k : Nat) (h : k < s.size) (hk : s.size ≤ 9) (hd : ((bs s).take k).all isD = true) :
    valL 0 ((bs s).take k) < 1000000000 ∧ (isD s[k] = true → ((bs s).take (k + 1)).all isD = true ∧ 48 ≤ s[k].toNat ∧ s[k].toNat ≤ 57 ∧ valL 0 ((bs s).take (k + 1)) = 10 * valL 0 ((bs s).take k) + (s[k].toNat - 48)) ∧ (isD s[k] = false → (bs s).all isD = false) := by
  refine ⟨?_, fun hx => ?_, fun hx => ?_⟩
  · have h1 := valL_lt _ (all_digs.1 hd)
    have h2 : ((bs s).take k).length ≤ 9 := by rw [List.length_take]; omega
    have h3 : 10 ^ ((bs s).take k).length ≤ 10 ^ 9 := Nat.pow_le_pow_right (by omega) h2
    omega
  · rw [take_on s k h, List.all_append, hd, valL_snoc]
    have h1 := hx
    unfold isD at h1
    simp at h1
    refine ⟨by simp [hx], by omega, by omega, by omega⟩
  · have h1 : (bs s).all isD = (((bs s).take (k + 1)).all isD && ((bs s).drop (k + 1)).all isD) := by rw [← List.all_append, List.take_append_drop]
    rw [h1, take_on s k h, List.all_append]
    simp [hx]
theorem ref_number (s : ByteArray) (w : World) (hs : s.size ≤ 9223372036854775807) :
    Calls Tryd.prog 64 #[.string s] w fun e w' => e = .returned (.int .i64 (numI (numR (bs s)))) ∧ w = w' := by
  have hz := bs_size s
  by_cases hl : 1 ≤ s.size ∧ s.size ≤ 9
  · obtain ⟨hl1, hl9⟩ := hl
    have HN : Hid (numR (bs s) = if (bs s).all isD = true then some (valL 0 (bs s)) else none) := by
      have h : numR (bs s) = if (bs s).all isD = true then some (valL 0 (bs s)) else none := by
        unfold numR
        rw [hz]
        simp only [hl1, hl9, true_and]
      exact Lib.hid h
    go_enter Tryd.func64, Tryd.ntmps64
    go_wp2_with fail
    go_loop [3, 4] (fun n i => ∃ k : Nat, k ≤ s.size ∧ i = .int .i64 k ∧ n = .int .i64 (valL 0 ((bs s).take k) : Nat) ∧ ((bs s).take k).all isD = true) (fun _ i => s.size - (intOf i).toNat)
    case atStart => exact ⟨0, by omega, rfl, by simp [valL], by simp⟩
    case round =>
      obtain ⟨k, hk, rfl, rfl, hd⟩ := hrel
      by_cases hlt : k < s.size
      · obtain ⟨hv, hyes, hno⟩ := num_on s k hlt hl9 hd
        have HY := Lib.hid hyes
        have HO := Lib.hid hno
        clear hyes hno hd
        go_wp2_with fail
        refine (ref_digit _ _).mono ?_
        rintro e w' ⟨rfl, rfl⟩
        rw [rng_isD]
        cases hx : isD (s[k]'hlt) with
        | true =>
          obtain ⟨h1, h2, h3, h4⟩ := HY.out hx
          have H1 := Lib.hid h1
          have H4 := Lib.hid h4
          clear h1 h4 hx
          go_wp2_with fail
          refine ⟨⟨k + 1, by omega, rfl, by rw [H4.out]; go_num, H1.out⟩, by simp [intOf]; omega⟩
        | false =>
          have H1 := Lib.hid (HO.out hx)
          clear hx
          go_wp2_with fail
          go_ret
          exact ⟨by rw [HN.out, H1.out]; rfl, rfl⟩
      · obtain rfl : k = s.size := by omega
        have ht : (bs s).take s.size = bs s := by rw [← hz, List.take_length]
        rw [ht] at hd ⊢
        have HD := Lib.hid hd
        clear hd ht
        go_wp2_with fail
        go_ret
        exact ⟨by rw [HN.out, if_pos HD.out]; rfl, rfl⟩
  · have HN : Hid (numR (bs s) = none) := by
      have h : numR (bs s) = none := by
        unfold numR
        rw [if_neg (by rw [hz]; omega)]
      exact Lib.hid h
    go_enter Tryd.func64, Tryd.ntmps64
    go_wp2_with fail
    all_goals
      go_ret
      exact ⟨by rw [HN.out]; rfl, rfl⟩

end Go.Proofs.YtcaljokcgfkppaaDoor
