/-
  Texts of times, and back: whatever PrintTime prints, ParseTime of the program and that of the specification read again, and nothing else. No program, no condition.
-/
import Derived.Test.YtkbdmdnahphkkaaGreatDoorNums
namespace Go.Proofs.YtkbdmdnahphkkaaGreatDoor
open Go.RowKit
theorem time_bounds {M : Int} {l : Bytes} (h : timeV M = some l) : ∃ n : Nat, M = n ∧ n ≤ 20000 ∧ l = timeL n := by
  unfold timeV at h
  split at h
  · rename_i hw
    rw [withinB_iff] at hw
    cases h
    exact ⟨M.toNat, by omega, by omega, rfl⟩
  · cases h
theorem clock_val (h m : Nat) (hm : m < 100) : valL 0 (padL h 2 ++ padL m 2) = h * 100 + m := by
  rw [valL_append, (pad_facts h 2 (by omega)).2.1, valL_shift, padL_len_eq 2 m (by omega) (by omega), (pad_facts m 2 (by omega)).2.1]
theorem minute_of (n : Nat) : minuteI (n / 1440 + 1 : Nat) ((n % 1440 / 60) * 100 + n % 60 : Nat) = n := by
  unfold minuteI; omega
theorem clock_digs (h m : Nat) : Digs (padL h 2 ++ padL m 2) := digs_append (pad_facts h 2 (by omega)).1 (pad_facts m 2 (by omega)).1
theorem parseV_iff (l : Bytes) (M : Int) : parseV l = some M ↔ timeV M = some l := by
  constructor
  · intro h
    unfold parseV at h
    split at h
    · split at h
      · cases h; assumption
      · cases h
    · cases h
  · intro h
    obtain ⟨n, rfl, hn, rfl⟩ := time_bounds h
    have hd := pad_facts (n / 1440 + 1) 1 (by omega)
    have hc : Lib.cut (timeL n) [32] = _ := cut_here (digs_no (by decide) hd.1)
    have h1 : numO 14 (padL (n / 1440 + 1) 1) = some (n / 1440 + 1) := by rw [numO_val hd.2.2.2 hd.1 (by rw [hd.2.1]; omega), hd.2.1]
    have h2 : numO 2359 (padL (n % 1440 / 60) 2 ++ padL (n % 60) 2) = some ((n % 1440 / 60) * 100 + n % 60) := by
      rw [numO_val (fun e => (pad_facts (n % 60) 2 (by omega)).2.2.2 (List.append_eq_nil_iff.1 e).2) (clock_digs _ _) (by rw [clock_val _ _ (by omega)]; omega), clock_val _ _ (by omega)]
    unfold parseV
    rw [hc]
    simp only [h1, h2]
    rw [minute_of, if_pos h]
/-- The specification's number of a text: digits, 1 to 9 of them. -/
def numR (l : Bytes) : Option Nat := if 1 ≤ l.length ∧ l.length ≤ 9 ∧ l.all isD = true then some (valL 0 l) else none
def numI : Option Nat → Int
  | some n => n
  | none => -1
theorem all_digs {l : Bytes} : l.all isD = true ↔ Digs l := by
  rw [List.all_eq_true]
  unfold Digs isD
  simp
theorem numR_pad (k n d : Nat) (h : 1 ≤ d) (hn : n < 10 ^ k) (hd : d ≤ k) (hk : k ≤ 9) : numR (padL n d) = some n := by
  have hf := pad_facts n d h
  have hl := padL_len k n d h hn hd
  unfold numR
  rw [if_pos ⟨by omega, by omega, all_digs.2 hf.1⟩, hf.2.1]
/-- ParseTime of the specification. -/
def parseR (l : Bytes) : Option Int :=
  if 20 < l.length then none else match piecesL 32 l with
  | [a, b] => match numR a, numR b with
    | some d, some c => if 1 ≤ d then (if timeV (minuteI d c) = some l then some (minuteI d c) else none) else none
    | _, _ => none
  | _ => none
theorem timeL_len (n : Nat) (h : n ≤ 20000) : (timeL n).length ≤ 7 := by
  have h1 := padL_len 2 (n / 1440 + 1) 1 (by omega) (by omega) (by omega)
  have h2 := padL_len 2 (n % 1440 / 60) 2 (by omega) (by omega) (by omega)
  have h3 := padL_len 2 (n % 60) 2 (by omega) (by omega) (by omega)
  unfold timeL
  simp only [List.length_append, List.length_cons]
  omega
theorem parseR_iff (l : Bytes) (M : Int) : parseR l = some M ↔ timeV M = some l := by
  constructor
  · intro h
    unfold parseR at h
    split at h
    · cases h
    · split at h
      · split at h
        · split at h
          · split at h
            · cases h; assumption
            · cases h
          · cases h
        · cases h
      · cases h
  · intro h
    obtain ⟨n, rfl, hn, rfl⟩ := time_bounds h
    have hd := pad_facts (n / 1440 + 1) 1 (by omega)
    have hp : piecesL 32 (timeL n) = [padL (n / 1440 + 1) 1, padL (n % 1440 / 60) 2 ++ padL (n % 60) 2] := by
      unfold timeL
      rw [pieces_cons (digs_no (by decide) hd.1), pieces_sole (digs_no (by decide) (clock_digs _ _))]
    have h1 : numR (padL (n / 1440 + 1) 1) = some (n / 1440 + 1) := numR_pad 2 _ 1 (by omega) (by omega) (by omega) (by omega)
    have h2 : numR (padL (n % 1440 / 60) 2 ++ padL (n % 60) 2) = some ((n % 1440 / 60) * 100 + n % 60) := by
      have hl4 : (padL (n % 1440 / 60) 2 ++ padL (n % 60) 2).length = 4 := by
        rw [List.length_append, padL_len_eq 2 _ (by omega) (by omega), padL_len_eq 2 _ (by omega) (by omega)]
      unfold numR
      rw [if_pos ⟨by omega, by omega, all_digs.2 (clock_digs _ _)⟩, clock_val _ _ (by omega)]
    have hl := timeL_len n hn
    unfold parseR
    rw [if_neg (by omega), hp]
    simp only [h1, h2]
    rw [if_pos (by omega), minute_of, if_pos h]
theorem parseR_eq (l : Bytes) : parseR l = parseV l := by
  cases h : parseR l with
  | some M => rw [((parseV_iff l M).2 ((parseR_iff l M).1 h))]
  | none =>
    cases h2 : parseV l with
    | some M => rw [(parseR_iff l M).2 ((parseV_iff l M).1 h2)] at h; cases h
    | none => rfl

end Go.Proofs.YtkbdmdnahphkkaaGreatDoor
