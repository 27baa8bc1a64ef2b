/-
  Texts in the specification: digit, letter, number, and what stands between the blanks or the strokes of a text (split, pieces). Conditions: texts of at most 100000 bytes.
-/
import Derived.Test.YtkbdmdnahphkkaaGreatDoorTimeBack
import Derived.OwnWalk
namespace Go.Proofs.YtkbdmdnahphkkaaGreatDoor
open Go.RowKit
theorem ref_digit (c : Int) (w : World) : Calls Tryz.prog 90 #[.int .u8 c] w fun e w' => e = .returned (.bool (rngR 48 57 c)) ∧ w = w' := by
  go_enter Tryz.func90, Tryz.ntmps90
  go_wp2
  all_goals
    go_ret
    exact ⟨ret_bool (by simp [rngR]; omega), rfl⟩
theorem ref_letter (c : Int) (w : World) : Calls Tryz.prog 89 #[.int .u8 c] w fun e w' => e = .returned (.bool (rngR 65 90 c)) ∧ w = w' := by
  go_enter Tryz.func89, Tryz.ntmps89
  go_wp2
  all_goals
    go_ret
    exact ⟨ret_bool (by simp [rngR]; omega), rfl⟩
theorem rng_isD (c : UInt8) : rngR 48 57 c.toNat = isD c := by
  unfold rngR isD
  rw [Bool.eq_iff_iff]; simp; omega
theorem rng_isL (c : UInt8) : rngR 65 90 c.toNat = isL c := by
  unfold rngR isL
  rw [Bool.eq_iff_iff]; simp; omega
theorem take_on (s : ByteArray) (k : Nat) (h : k < s.size) : (bs s).take (k + 1) = (bs s).take k ++ [s[k]] := by
  have hl : k < (bs s).length := by rw [bs_size]; exact h
  have hg : (bs s)[k] = s[k] := by have := bs_get s k h; rw [List.getElem?_eq_getElem hl] at this; exact Option.some.inj this
  rw [List.take_succ_eq_append_getElem hl, hg]
  rfl
/-- One byte on, in a number. -/
theorem num_on (s : ByteArray) (k : Nat) (h : k < s.size) (hk : s.size ≤ 9) (hd : ((bs s).take k).all isD = true) :
    valL 0 ((bs s).take k) < 1000000000 ∧ (isD s[k] = true → ((bs s).take (k + 1)).all isD = true ∧ 48 ≤ s[k].toNat ∧ s[k].toNat ≤ 57 ∧ valL 0 ((bs s).take (k + 1)) = 10 * valL 0 ((bs s).take k) + (s[k].toNat - 48)) ∧ (isD s[k] = false → (bs s).all isD = false) := by
  refine ⟨?_, fun hx => ?_, fun hx => ?_⟩
  · have h1 := valL_lt _ (all_digs.1 hd)
    have h2 : ((bs s).take k).length ≤ 9 := by rw [List.length_take]; omega
    have h3 : 10 ^ ((bs s).take k).length ≤ 10 ^ 9 := Nat.pow_le_pow_right (by omega) h2
    omega
  · rw [take_on s k h, List.all_append, hd, valL_snoc]
    have h1 := hx
    unfold isD at h1
    simp at h1
    refine ⟨by simp [hx], by omega, by omega, by omega⟩
  · have h1 : (bs s).all isD = (((bs s).take (k + 1)).all isD && ((bs s).drop (k + 1)).all isD) := by rw [← List.all_append, List.take_append_drop]
    rw [h1, take_on s k h, List.all_append]
    simp [hx]
end Go.Proofs.YtkbdmdnahphkkaaGreatDoor
