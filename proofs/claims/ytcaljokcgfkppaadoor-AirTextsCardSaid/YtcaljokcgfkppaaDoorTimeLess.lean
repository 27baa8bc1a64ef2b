/-
  Of two minutes of one day the later one has the greater text. No program, no condition but that both are minutes.
-/
import Derived.Test.YtcaljokcgfkppaaDoorTimeBack
namespace Go.Proofs.YtcaljokcgfkppaaDoor
open Go.RowKit
theorem less_prefix (x y : Bytes) : ∀ p : Bytes, Op.bytesLess (p ++ x) (p ++ y) = Op.bytesLess x y
  | [] => rfl
  | a :: p => by
    rw [List.cons_append, List.cons_append, Op.bytesLess, less_prefix x y p]
    simp
theorem less_digs : ∀ (x y : Bytes), Digs x → Digs y → x.length = y.length → Op.bytesLess x y = decide (valL 0 x < valL 0 y)
  | [], [], _, _, _ => by simp [Op.bytesLess, valL_nil]
  | [], _ :: _, _, _, h => by cases h
  | _ :: _, [], _, _, h => by cases h
  | a :: x, b :: y, hx, hy, h => by
    have hx' : Digs x := fun c hc => hx c (by simp [hc])
    have hy' : Digs y := fun c hc => hy c (by simp [hc])
    have hl : x.length = y.length := by simpa using h
    have ih := less_digs x y hx' hy' hl
    have ha := hx a (by simp)
    have hb := hy b (by simp)
    have vx := valL_lt x hx'
    have vy := valL_lt y hy'
    rw [Op.bytesLess, ih, valL_cons, valL_cons, valL_shift x (0 * 10 + (a.toNat - 48)), valL_shift y (0 * 10 + (b.toNat - 48)), hl]
    rw [hl] at vx
    generalize 10 ^ y.length = p at *
    generalize valL 0 x = u at *
    generalize valL 0 y = v at *
    rw [Bool.eq_iff_iff]
    simp only [Bool.or_eq_true, Bool.and_eq_true, decide_eq_true_eq, beq_iff_eq, UInt8.lt_iff_toNat_lt]
    rcases Nat.lt_trichotomy a.toNat b.toNat with hab | hab | hab
    · have h1 : (0 * 10 + (a.toNat - 48) + 1) * p ≤ (0 * 10 + (b.toNat - 48)) * p := Nat.mul_le_mul_right _ (by omega)
      rw [Nat.add_mul, Nat.one_mul] at h1
      exact ⟨fun _ => by omega, fun _ => Or.inl hab⟩
    · have e : a = b := UInt8.toNat_inj.1 hab
      subst e
      simp
    · have h1 : (0 * 10 + (b.toNat - 48) + 1) * p ≤ (0 * 10 + (a.toNat - 48)) * p := Nat.mul_le_mul_right _ (by omega)
      rw [Nat.add_mul, Nat.one_mul] at h1
      refine ⟨fun h => ?_, fun h => by omega⟩
      rcases h with h | ⟨h, _⟩
      · omega
      · subst h; omega
theorem time_less (a b : Nat) (h : a / 1440 = b / 1440) : Op.bytesLess (timeL a) (timeL b) = decide (a < b) := by
  unfold timeL
  rw [h]
  have e : ∀ x : Bytes, padL (b / 1440 + 1) 1 ++ 32 :: x = (padL (b / 1440 + 1) 1 ++ [32]) ++ x := fun x => by simp
  rw [e (padL (a % 1440 / 60) 2 ++ padL (a % 60) 2), e (padL (b % 1440 / 60) 2 ++ padL (b % 60) 2), less_prefix, less_digs _ _ (clock_digs _ _) (clock_digs _ _), clock_val _ _ (by omega), clock_val _ _ (by omega)]
  · rw [Bool.eq_iff_iff]
    simp only [decide_eq_true_eq]
    omega
  · simp only [List.length_append]
    rw [padL_len_eq 2 _ (by omega) (by omega), padL_len_eq 2 _ (by omega) (by omega), padL_len_eq 2 _ (by omega) (by omega), padL_len_eq 2 _ (by omega) (by omega)]

end Go.Proofs.YtcaljokcgfkppaaDoor
