/-
  Decimal of the specification for numbers up to 99999.
-/
import Derived.Test.YtcaljokcgfkppaaDoorNums
namespace Go.Proofs.YtcaljokcgfkppaaDoor
open Go.RowKit
theorem ref_Dec (n least : Nat) (w : World) (hn : n ≤ 99999) (hl : least ≤ 5) (h1 : 1 ≤ least) :
    Calls Tryd.prog 59 #[.int .i64 n, .int .i64 least] w fun e w' => e = .returned (.string (B (padL n least))) ∧ New w w' := by
  go_enter Tryd.func59, Tryd.ntmps59
  go_wp2_with fail
  have hzl : (zp n least).length ≤ 10 := by rw [zp_pad h1]; have := padL_len 5 n least h1 (by omega) hl; omega
  go_loopw [0, 5] (fun x o wr => ∃ (k : Nat) (l : Bytes), k ≤ n ∧ x = .int .i64 k ∧ o = .string (B l) ∧ zp n least = zp k (least - l.length) ++ l ∧ New w wr) (fun x o _ => (intOf x).toNat + (8 - lenOf o))
  case atStart => exact ⟨n, [], Nat.le_refl _, rfl, rfl, by simp, New.refl _⟩
  case round =>
    obtain ⟨k, l, hk, rfl, rfl, hz, hnew⟩ := hrel
    have hl10 : l.length ≤ 10 := by rw [hz, List.length_append] at hzl; omega
    have hbl := B_size l
    by_cases hgo : 0 < k ∨ l.length < least
    · have hst := zp_step (n := k) (d := least - l.length) (by omega)
      have HZ := Lib.hid hz
      have HS := Lib.hid hst
      clear hz hst hzl
      have HD := Lib.hid (dig_at (k % 10) (Nat.mod_lt _ (by omega)))
      have HE : Hid (zp n least = zp (k / 10) (least - (UInt8.ofNat (48 + k % 10) :: l).length) ++ (UInt8.ofNat (48 + k % 10) :: l)) := by
        have h : zp n least = zp (k / 10) (least - (UInt8.ofNat (48 + k % 10) :: l).length) ++ (UInt8.ofNat (48 + k % 10) :: l) := by
          rw [HZ.out, HS.out, List.append_assoc, List.length_cons]
          congr 2
        exact Lib.hid h
      have HB : Hid (B [UInt8.ofNat (48 + k % 10)] ++ B l = B (UInt8.ofNat (48 + k % 10) :: l)) := by
        have h := B_append [UInt8.ofNat (48 + k % 10)] l
        exact Lib.hid h
      by_cases hk0 : 0 < k
      · clear hgo
        go_wp2_with fail
        refine ⟨⟨k / 10, _, by omega, by simp, by rw [HD.out, HB.out], HE.out, hnew⟩, ?_⟩
        rw [HD.out, HB.out]
        simp only [lenOf, intOf, B_size, List.length_cons]
        omega
      · have hll : l.length < least := hgo.resolve_left hk0
        obtain rfl : k = 0 := by omega
        clear hgo hk0
        go_wp2_with fail
        refine ⟨⟨0, _, by omega, rfl, by rw [show (⟨#[48, 49, 50, 51, 52, 53, 54, 55, 56, 57]⟩ : ByteArray).extract 0 1 = B [UInt8.ofNat (48 + 0 % 10)] from HD.out, HB.out], HE.out, hnew⟩, ?_⟩
        rw [show (⟨#[48, 49, 50, 51, 52, 53, 54, 55, 56, 57]⟩ : ByteArray).extract 0 1 = B [UInt8.ofNat (48 + 0 % 10)] from HD.out, HB.out]
        simp only [lenOf, intOf, B_size, List.length_cons]
        omega
    · have hz0 : zp n least = l := by
        have hk0 : k = 0 := by omega
        have hd0 : least - l.length = 0 := by omega
        rw [hz, hk0, hd0]; rfl
      have hk0 : k = 0 := by omega
      have hle : ¬ l.length < least := by omega
      have HZ := Lib.hid hz0
      clear hz hz0 hgo hzl
      subst hk0
      go_wp2_with fail
      go_ret
      exact ⟨by rw [← zp_pad h1, HZ.out]; rfl, hnew⟩

end Go.Proofs.YtcaljokcgfkppaaDoor
