/-
  Plain facts: what the specification asks of a base, an area, a stroke and of the parts of a text is what the program's counts say. No program, no condition.
-/
import Derived.Test.YtkbdmdnahphkkaaGreatDoorSplit
namespace Go.Proofs.YtkbdmdnahphkkaaGreatDoor
open Go.RowKit
def isM (c : UInt8) : Bool := isL c || isD c
theorem cnt_all_L (l : Bytes) : cntB 65 90 l + cntB 48 57 l ≤ l.length ∧ (cntB 65 90 l + cntB 48 57 l = l.length ↔ l.all isM = true) ∧ (0 < cntB 65 90 l ↔ l.any isL = true) ∧ (cntB 65 90 l = l.length ↔ l.all isL = true) ∧ (cntB 48 57 l = 0 ↔ l.any isD = false) := by
  induction l with
  | nil => simp [cntB]
  | cons c l ih =>
    obtain ⟨h0, h1, h2, h3, h4⟩ := ih
    have e1 : cntB 65 90 (c :: l) = cntB 65 90 l + if isL c = true then 1 else 0 := by unfold cntB; rw [List.countP_cons]; rfl
    have e2 : cntB 48 57 (c :: l) = cntB 48 57 l + if isD c = true then 1 else 0 := by unfold cntB; rw [List.countP_cons]; rfl
    have hx : isL c = true → isD c = true → False := by
      unfold isL isD
      simp
      omega
    rw [e1, e2, List.length_cons, List.all_cons, List.any_cons, List.all_cons, List.any_cons, Bool.and_eq_true, Bool.or_eq_true, Bool.and_eq_true, Bool.or_eq_false_iff, ← h1, ← h2, ← h3, ← h4]
    unfold isM
    rw [Bool.or_eq_true]
    cases hL : isL c <;> cases hD : isD c
    · simp; omega
    · simp; omega
    · simp; omega
    · exact absurd hD (fun h => hx hL h)
theorem cutB_none : ∀ l : Bytes, cutB l = 0 ↔ l.any isD = false
  | [] => by simp [cutB]
  | c :: l => by
    have ih := cutB_none l
    rw [List.any_cons, Bool.or_eq_false_iff, ← ih, cutB]
    by_cases h : cutB l = 0
    · rw [if_pos h]
      cases hD : isD c <;> simp [h]
    · rw [if_neg h]
      simp [h]
theorem cutB_rest : ∀ l : Bytes, (l.drop (cutB l)).any isD = false
  | [] => rfl
  | c :: l => by
    rw [cutB]
    by_cases h : cutB l = 0
    · rw [if_pos h]
      have h2 := (cutB_none l).1 h
      cases hD : isD c
      · simp [hD, h2]
      · simpa using h2
    · rw [if_neg h]
      simpa using cutB_rest l
theorem mixed_letters {l : Bytes} (h : l.any isD = false) : l.all isM = l.all isL := by
  induction l with
  | nil => rfl
  | cons c l ih =>
    rw [List.any_cons, Bool.or_eq_false_iff] at h
    rw [List.all_cons, List.all_cons, ih h.2]
    unfold isM
    rw [h.1, Bool.or_false]
def areaR (l : Bytes) : Bool := l.all isM && (withinB l.length 1 4 && l.any isL)
theorem areaR_eq (l : Bytes) : areaR l = areaB l := by
  obtain ⟨h0, h1, h2, h3, h4⟩ := cnt_all_L l
  rw [Bool.eq_iff_iff]
  unfold areaR areaB
  simp only [Bool.and_eq_true, decide_eq_true_eq, withinB_iff, ← h1, ← h2]
  omega
def strokeR (l : Bytes) : Bool := (decide (l.length = 1) && l.any isD) || (l.all isM && (withinB l.length 1 4 && decide (cutB l = 0)))
theorem strokeR_eq (l : Bytes) : strokeR l = strokeB l := by
  obtain ⟨h0, h1, h2, h3, h4⟩ := cnt_all_L l
  have h5 := cutB_none l
  rw [Bool.eq_iff_iff]
  unfold strokeR strokeB wordB figB
  simp only [Bool.or_eq_true, Bool.and_eq_true, decide_eq_true_eq, withinB_iff, ← h1]
  have h6 : l.any isD = true ↔ 0 < cntB 48 57 l := by
    rw [← Bool.not_eq_false, ← h4]; omega
  rw [h6, h5, ← h4]
  omega
def baseR (l : Bytes) : Bool := l.all isM && (withinB (cutB l) 1 4 && ((l.take (cutB l)).any isL && withinB (l.length - cutB l : Nat) 1 4))
theorem baseR_eq (l : Bytes) : baseR l = baseB l := by
  have hle := cutB_le l
  obtain ⟨p0, p1, p2, p3, p4⟩ := cnt_all_L (l.take (cutB l))
  obtain ⟨s0, s1, s2, s3, s4⟩ := cnt_all_L (l.drop (cutB l))
  have hr := cutB_rest l
  have hm : l.all isM = ((l.take (cutB l)).all isM && (l.drop (cutB l)).all isM) := by
    rw [← List.all_append, List.take_append_drop]
  have hs := mixed_letters hr
  have lt : (l.take (cutB l)).length = cutB l := by rw [List.length_take]; omega
  have ld : (l.drop (cutB l)).length = l.length - cutB l := List.length_drop
  rw [Bool.eq_iff_iff]
  unfold baseR baseB areaB wordB
  simp only [Bool.and_eq_true, decide_eq_true_eq, withinB_iff]
  rw [hm, Bool.and_eq_true, hs, ← p1, ← p2, ← s3, lt, ld]
  rw [lt] at p0
  rw [ld] at s0
  omega
/-- The parts of a text, as the specification tries them. -/
def tryR : List Bytes → Option (Bytes × Bytes × Bytes)
  | [x] => if baseB x then some ([], x, []) else none
  | [x, y] => if areaB x && (baseB y && decide (x.length < y.length)) then some (x, y, []) else if baseB x && strokeB y then some ([], x, y) else none
  | [z, x, y] => if areaB z && (baseB x && strokeB y) then some (z, x, y) else none
  | _ => none
def partsR (l : Bytes) : Option (Bytes × Bytes × Bytes) := if 16 < l.length then none else tryR (piecesL 47 l)
/-- .. and as its Split tells them. -/
def toP4 (t : Bytes × Bytes × Bytes) : P4 := ⟨t.1, t.2.1.take (cutB t.2.1), t.2.1.drop (cutB t.2.1), t.2.2⟩
theorem tryR_eq (ws : List Bytes) : (tryR ws).map toP4 = tryV ws 4 0 := by
  match ws with
  | [] => rfl
  | [x] =>
    simp only [tryR, tryV, formV]
    cases hb : baseB x <;> simp [toP4]
  | [x, y] =>
    simp only [tryR, tryV, formV]
    cases hy : baseB y <;> cases hx : areaB x <;> cases hl : decide (x.length < y.length) <;> cases hb : baseB x <;> cases hs : strokeB y <;> simp [toP4]
  | [z, x, y] =>
    simp only [tryR, tryV, formV]
    cases hz : areaB z <;> cases hx : baseB x <;> cases hs : strokeB y <;> simp [toP4]
  | _ :: _ :: _ :: _ :: _ => rfl
theorem partsR_eq (l : Bytes) : (partsR l).map toP4 = splitV l := by
  unfold partsR splitV
  split
  · rfl
  · exact tryR_eq _

end Go.Proofs.YtkbdmdnahphkkaaGreatDoor
