/-
  Code, Family of the program: the code and the family of a character. Condition: the tables lie in memory.
-/
import Derived.Test.YthodoabppkeidaaGreatDoorCpAlign
namespace Go.Proofs.YthodoabppkeidaaGreatDoor
open Go Go.RowKit
/-- The key of a text that is one character. -/
def keyC : Bytes → Option Nat
  | [b] => if keyOf b < 37 then some (keyOf b) else none
  | _ => none
theorem keyC_lt {c : Bytes} {k : Nat} (h : keyC c = some k) : k < 37 ∧ c = [charOf k] := by
  unfold keyC at h
  split at h
  · next b =>
    split at h
    · next hk =>
      obtain rfl := Option.some.inj h
      exact ⟨hk, by rw [char_key hk]⟩
    · cases h
  · cases h
theorem keyC_char {k : Nat} (h : k < 37) : keyC [charOf k] = some k := by
  rw [keyC, key_char h, if_pos h]
/-- readKey at every text. -/
theorem cp_readKey (c : Bytes) (w : World) (hc : c.length ≤ 1000000) : Calls Tryz.prog 50 #[.string (B c)] w fun e w' =>
    e = .returned (.tuple (match keyC c with | some k => #[.int .i64 k, .int .i64 0] | none => #[.int .i64 0, .int .i64 41])) ∧ w = w' := by
  by_cases h : c.length = 1
  · obtain ⟨b, rfl⟩ := List.length_eq_one_iff.1 h
    refine (cp_readKey_one b w).mono ?_
    rintro e w' ⟨rfl, rfl⟩
    refine ⟨?_, rfl⟩
    unfold keyV keyC
    by_cases hk : keyOf b < 37
    · simp only [if_pos hk]
    · simp only [if_neg hk]
  · refine (cp_readKey_bad (B c) w (by rw [B_size]; exact h) (by rw [B_size]; omega)).mono ?_
    rintro e w' ⟨rfl, rfl⟩
    have e1 : keyC c = none := by
      match c, h with
      | [], _ => rfl
      | [_], h => exact absurd rfl h
      | _ :: _ :: _, _ => rfl
    rw [e1]
    exact ⟨rfl, rfl⟩
set_option maxHeartbeats 400000 in
theorem cp_Code (F : List Bytes) (c : Bytes) (w : World) (hT : TabAt w F) (hc : c.length ≤ 1000000) : Calls Tryz.prog 12 #[.string (B c)] w fun e w' =>
    e = .returned (.tuple (match keyC c with | some k => #[strV (codeOf k), .int .i64 0] | none => #[.string ⟨#[]⟩, .int .i64 41])) ∧ w = w' := by
  have HC := Lib.hid (cp_readKey c w hc)
  cases hk : keyC c with
  | none =>
    rw [hk] at HC
    clear hT hk
    go_enter Tryz.func12, Tryz.ntmps12
    go_wp2_with (go_at_call 50; refine HC.out.mono ?_; rintro e w' ⟨rfl, rfl⟩)
    go_ret2
    exact ⟨rfl, rfl⟩
  | some k =>
    rw [hk] at HC
    have h37 := (keyC_lt hk).1
    have hcd := hT.code h37
    clear hT hk
    unfold strV at *
    have i1 : (k : Int) < 37 := by omega
    go_enter Tryz.func12, Tryz.ntmps12
    go_wp2_with (go_at_call 50; refine HC.out.mono ?_; rintro e w' ⟨rfl, rfl⟩)
    go_ret2
    exact ⟨rfl, rfl⟩
set_option maxHeartbeats 400000 in
theorem cp_Family (F : List Bytes) (c : Bytes) (w : World) (hT : TabAt w F) (hc : c.length ≤ 1000000) : Calls Tryz.prog 16 #[.string (B c)] w fun e w' =>
    e = .returned (.tuple (match keyC c with | some k => #[.int .i64 ((famOf F k : Int) + 1), .int .i64 0] | none => #[.int .i64 0, .int .i64 41])) ∧ w = w' := by
  have HC := Lib.hid (cp_readKey c w hc)
  cases hk : keyC c with
  | none =>
    rw [hk] at HC
    clear hT hk
    go_enter Tryz.func16, Tryz.ntmps16
    go_wp2_with (go_at_call 50; refine HC.out.mono ?_; rintro e w' ⟨rfl, rfl⟩)
    go_ret2
    exact ⟨rfl, rfl⟩
  | some k =>
    rw [hk] at HC
    have h37 := (keyC_lt hk).1
    have HF := Lib.hid (cp_familyOf F k h37 w hT)
    have hfl : famOf F k ≤ 7 := by have h1 : famOf F k ≤ F.length := famGo_le _ _; rw [hT.2.2.1] at h1; exact h1
    clear hT hk
    show Calls _ _ _ _ fun e w' => e = .returned (.tuple #[.int .i64 ((famOf F k : Int) + 1), .int .i64 0]) ∧ w = w'
    generalize famOf F k = z at *
    go_enter Tryz.func16, Tryz.ntmps16
    go_wp2_with (first | (go_at_call 50; refine HC.out.mono ?_; rintro e w' ⟨rfl, rfl⟩) | (go_at_call 54; refine HF.out.mono ?_; rintro e w' ⟨rfl, rfl⟩))
    go_ret2
    exact ⟨rfl, rfl⟩
end Go.Proofs.YthodoabppkeidaaGreatDoor
