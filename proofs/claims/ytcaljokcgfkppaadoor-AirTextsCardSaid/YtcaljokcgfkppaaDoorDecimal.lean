/-
  Decimal of the specification for numbers below 100: the same as the program's pad.
-/
import Derived.Test.YtcaljokcgfkppaaDoorPrints
namespace Go.Proofs.YtcaljokcgfkppaaDoor
open Go.RowKit
/-- The digits of a number, none of 0. -/
def digs (n : Nat) : Bytes := if n = 0 then [] else Lib.decDigits n
/-- With zeros ahead. -/
def zp (n d : Nat) : Bytes := List.replicate (d - (digs n).length) 48 ++ digs n
theorem digs_step {n : Nat} (h : 0 < n) : digs n = digs (n / 10) ++ [UInt8.ofNat (48 + n % 10)] := by
  unfold digs
  rw [if_neg (by omega)]
  conv => lhs; unfold Lib.decDigits
  by_cases h10 : n < 10
  · have : n / 10 = 0 := by omega
    rw [dif_pos h10, if_pos this, Nat.mod_eq_of_lt h10]; rfl
  · have : ¬ n / 10 = 0 := by omega
    rw [dif_neg h10, if_neg this]
theorem zp_step {n d : Nat} (h : 0 < n ∨ 0 < d) : zp n d = zp (n / 10) (d - 1) ++ [UInt8.ofNat (48 + n % 10)] := by
  unfold zp
  by_cases hn : 0 < n
  · rw [digs_step hn, List.length_append, ← List.append_assoc]
    congr 2
    congr 1
    simp only [List.length_cons, List.length_nil]; omega
  · have h0 : n = 0 := by omega
    subst h0
    have hd : 0 < d := by omega
    have e : digs 0 = [] := rfl
    rw [e]
    simp only [List.append_nil, List.length_nil, Nat.sub_zero]
    obtain ⟨k, rfl⟩ : ∃ k, d = k + 1 := ⟨d - 1, by omega⟩
    rw [List.replicate_succ']
    rfl
theorem zp_pad {n d : Nat} (h : 1 ≤ d) : zp n d = padL n d := by
  unfold zp padL digs
  by_cases hn : n = 0
  · subst hn
    rw [if_pos rfl]
    have e : Lib.decDigits 0 = [48] := by unfold Lib.decDigits; rfl
    rw [e]
    obtain ⟨k, rfl⟩ : ∃ k, d = k + 1 := ⟨d - 1, by omega⟩
    simp [List.replicate_succ']
  · rw [if_neg hn]
theorem dig_at (m : Nat) (h : m < 10) : (⟨#[48, 49, 50, 51, 52, 53, 54, 55, 56, 57]⟩ : ByteArray).extract m (m + 1) = B [UInt8.ofNat (48 + m)] := by
  obtain rfl | rfl | rfl | rfl | rfl | rfl | rfl | rfl | rfl | rfl : m = 0 ∨ m = 1 ∨ m = 2 ∨ m = 3 ∨ m = 4 ∨ m = 5 ∨ m = 6 ∨ m = 7 ∨ m = 8 ∨ m = 9 := by omega
  all_goals decide
def lenOf : Value → Nat
  | .string s => s.size
  | _ => 0
theorem ref_Decimal (n least : Nat) (w : World) (hn : n < 100) (hl : least ≤ 8) (h1 : 1 ≤ least) :
    Calls Tryd.prog 59 #[.int .i64 n, .int .i64 least] w fun e w' => e = .returned (.string (B (padL n least))) ∧ New w w' := by
  go_enter Tryd.func59, Tryd.ntmps59
  go_wp2_with fail
  have hzl : (zp n least).length ≤ 10 := by rw [zp_pad h1]; exact pad_len hn hl
  go_loopw [0, 5] (fun x o wr => ∃ (k : Nat) (l : Bytes), k ≤ n ∧ x = .int .i64 k ∧ o = .string (B l) ∧ zp n least = zp k (least - l.length) ++ l ∧ New w wr) (fun x o _ => (intOf x).toNat + (8 - lenOf o))
  case atStart => exact ⟨n, [], Nat.le_refl _, rfl, rfl, by simp, New.refl _⟩
  case round =>
    obtain ⟨k, l, hk, rfl, rfl, hz, hnew⟩ := hrel
    have hl10 : l.length ≤ 10 := by rw [hz, List.length_append] at hzl; omega
    have hbl := B_size l
    by_cases hgo : 0 < k ∨ l.length < least
    · have hst := zp_step (n := k) (d := least - l.length) (by omega)
      have HZ := Lib.hid hz
      have HS := Lib.hid hst
      clear hz hst hzl
      have HD := Lib.hid (dig_at (k % 10) (Nat.mod_lt _ (by omega)))
      have HE : Hid (zp n least = zp (k / 10) (least - (UInt8.ofNat (48 + k % 10) :: l).length) ++ (UInt8.ofNat (48 + k % 10) :: l)) := by
        have h : zp n least = zp (k / 10) (least - (UInt8.ofNat (48 + k % 10) :: l).length) ++ (UInt8.ofNat (48 + k % 10) :: l) := by
          rw [HZ.out, HS.out, List.append_assoc, List.length_cons]
          congr 2
        exact Lib.hid h
      have HB : Hid (B [UInt8.ofNat (48 + k % 10)] ++ B l = B (UInt8.ofNat (48 + k % 10) :: l)) := by
        have h := B_append [UInt8.ofNat (48 + k % 10)] l
        exact Lib.hid h
      by_cases hk0 : 0 < k
      · clear hgo
        go_wp2_with fail
        refine ⟨⟨k / 10, _, by omega, by simp, by rw [HD.out, HB.out], HE.out, hnew⟩, ?_⟩
        rw [HD.out, HB.out]
        simp only [lenOf, intOf, B_size, List.length_cons]
        omega
      · have hll : l.length < least := hgo.resolve_left hk0
        obtain rfl : k = 0 := by omega
        clear hgo hk0
        go_wp2_with fail
        refine ⟨⟨0, _, by omega, rfl, by rw [show (⟨#[48, 49, 50, 51, 52, 53, 54, 55, 56, 57]⟩ : ByteArray).extract 0 1 = B [UInt8.ofNat (48 + 0 % 10)] from HD.out, HB.out], HE.out, hnew⟩, ?_⟩
        rw [show (⟨#[48, 49, 50, 51, 52, 53, 54, 55, 56, 57]⟩ : ByteArray).extract 0 1 = B [UInt8.ofNat (48 + 0 % 10)] from HD.out, HB.out]
        simp only [lenOf, intOf, B_size, List.length_cons]
        omega
    · have hz0 : zp n least = l := by
        have hk0 : k = 0 := by omega
        have hd0 : least - l.length = 0 := by omega
        rw [hz, hk0, hd0]; rfl
      have hk0 : k = 0 := by omega
      have hle : ¬ l.length < least := by omega
      have HZ := Lib.hid hz0
      clear hz hz0 hgo hzl
      subst hk0
      go_wp2_with fail
      go_ret
      exact ⟨by rw [← zp_pad h1, HZ.out]; rfl, hnew⟩

end Go.Proofs.YtcaljokcgfkppaaDoor
