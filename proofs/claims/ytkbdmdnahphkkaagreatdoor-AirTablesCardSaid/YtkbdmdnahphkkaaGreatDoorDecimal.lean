/-
  Decimal of the specification for numbers below 100: the same as the program's pad.
-/
import Derived.Test.YtkbdmdnahphkkaaGreatDoorPrints
namespace Go.Proofs.YtkbdmdnahphkkaaGreatDoor
open Go.RowKit
/-- The digits of a number, none of 0. -/
def digs (n : Nat) : Bytes := if n = 0 then [] else Lib.decDigits n
/-- With zeros ahead. -/
def zp (n d : Nat) : Bytes := List.replicate (d - (digs n).length) 48 ++ digs n
theorem digs_step {n : Nat} (h : 0 < n) : digs n = digs (n / 10) ++ [UInt8.ofNat (48 + n % 10)] := by
  unfold digs
  rw [if_neg (by omega)]
  conv => lhs; unfold Lib.decDigits
  by_cases h10 : n < 10
  · have : n / 10 = 0 := by omega
    rw [dif_pos h10, if_pos this, Nat.mod_eq_of_lt h10]; rfl
  · have : ¬ n / 10 = 0 := by omega
    rw [dif_neg h10, if_neg this]
theorem zp_step {n d : Nat} (h : 0 < n ∨ 0 < d) : zp n d = zp (n / 10) (d - 1) ++ [UInt8.ofNat (48 + n % 10)] := by
  unfold zp
  by_cases hn : 0 < n
  · rw [digs_step hn, List.length_append, ← List.append_assoc]
    congr 2
    congr 1
    simp only [List.length_cons, List.length_nil]; omega
  · have h0 : n = 0 := by omega
    subst h0
    have hd : 0 < d := by omega
    have e : digs 0 = [] := rfl
    rw [e]
    simp only [List.append_nil, List.length_nil, Nat.sub_zero]
    obtain ⟨k, rfl⟩ : ∃ k, d = k + 1 := ⟨d - 1, by omega⟩
    rw [List.replicate_succ']
    rfl
theorem zp_pad {n d : Nat} (h : 1 ≤ d) : zp n d = padL n d := by
  unfold zp padL digs
  by_cases hn : n = 0
  · subst hn
    rw [if_pos rfl]
    have e : Lib.decDigits 0 = [48] := by unfold Lib.decDigits; rfl
    rw [e]
    obtain ⟨k, rfl⟩ : ∃ k, d = k + 1 := ⟨d - 1, by omega⟩
    simp [List.replicate_succ']
  · rw [if_neg hn]
theorem dig_at (m : Nat) (h : m < 10) : (⟨#[48, 49, 50, 51, 52, 53, 54, 55, 56, 57]⟩ : ByteArray).extract m (m + 1) = B [UInt8.ofNat (48 + m)] := by
  obtain rfl | rfl | rfl | rfl | rfl | rfl | rfl | rfl | rfl | rfl : m = 0 ∨ m = 1 ∨ m = 2 ∨ m = 3 ∨ m = 4 ∨ m = 5 ∨ m = 6 ∨ m = 7 ∨ m = 8 ∨ m = 9 := by omega
  all_goals decide
def lenOf : Value → Nat
  | .string s => s.size
  | _ => 0
end Go.Proofs.YtkbdmdnahphkkaaGreatDoor
