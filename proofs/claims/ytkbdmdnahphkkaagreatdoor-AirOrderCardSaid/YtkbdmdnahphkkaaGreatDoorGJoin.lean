/-
  Same, Join. What is proved in each, and on what conditions, its own head says.
-/
import Derived.Test.YtkbdmdnahphkkaaGreatDoorPrints
/-
  Same of the program, for every two texts in a world that has the library's variable MaxLen.
-/
namespace Go.Proofs.YtkbdmdnahphkkaaGreatDoor
open Go.RowKit
theorem bytes_eq (a b : Bytes) : ((B a).toList == (B b).toList) = decide (a = b) := by
  rw [Lib.toList_data, Lib.toList_data]
  show (a == b) = _
  by_cases h : a = b
  · subst h; simp
  · rw [beq_eq_false_iff_ne.2 h]; simp [h]
/-- Whether two texts have the same base, and the error, in the program's words. -/
def sameV (a b : Option P4) : Bool × Int :=
  match a, b with
  | some p, some q => (decide (baseV (some p) = baseV (some q)), 0)
  | _, _ => (false, 10)
end Go.Proofs.YtkbdmdnahphkkaaGreatDoor

/-
  Join of the program, for all parts of at most 10000 bytes in a world that has the library's variable MaxLen; Split and Join undo each other, and a base is its own base.
-/
namespace Go.Proofs.YtkbdmdnahphkkaaGreatDoor
open Go.RowKit
instance : DecidableEq P4 := fun x y => decidable_of_iff (x.area = y.area ∧ x.pre = y.pre ∧ x.suf = y.suf ∧ x.stroke = y.stroke) (by cases x; cases y; simp)
/-- The text of parts, as it is put together. -/
def joinL (q : P4) : Bytes := (if q.area = [] then [] else q.area ++ [47]) ++ (q.pre ++ q.suf) ++ (if q.stroke = [] then [] else 47 :: q.stroke)
def joinV (q : P4) : Option Bytes := if splitV (joinL q) = some q then some (joinL q) else none
theorem bytes_ne {a b : Bytes} (h : ¬ a = b) : ¬ (B a).toList = (B b).toList := by
  rw [Lib.toList_data, Lib.toList_data]
  exact h
theorem cmp4 (x y : P4) : x = y ∨ (¬ x = y ∧ (¬ (B x.area).toList = (B y.area).toList ∨ ¬ (B x.pre).toList = (B y.pre).toList ∨ ¬ (B x.suf).toList = (B y.suf).toList ∨ ¬ (B x.stroke).toList = (B y.stroke).toList)) := by
  by_cases h : x = y
  · exact Or.inl h
  · refine Or.inr ⟨h, ?_⟩
    by_cases h1 : x.area = y.area
    · by_cases h2 : x.pre = y.pre
      · by_cases h3 : x.suf = y.suf
        · exact Or.inr (Or.inr (Or.inr (bytes_ne fun h4 => h (by cases x; cases y; simp_all))))
        · exact Or.inr (Or.inr (Or.inl (bytes_ne h3)))
      · exact Or.inr (Or.inl (bytes_ne h2))
    · exact Or.inl (bytes_ne h1)
/-- Pieces with c between them. -/
def joinP (c : UInt8) : List Bytes → Bytes
  | [] => []
  | [x] => x
  | x :: y :: t => x ++ c :: joinP c (y :: t)
theorem pieces_ne (c : UInt8) (l : Bytes) : piecesL c l ≠ [] := by
  cases l with
  | nil => simp [piecesL]
  | cons a l =>
    rw [piecesL]
    split
    · simp
    · split <;> simp
theorem join_pieces (c : UInt8) : ∀ l : Bytes, joinP c (piecesL c l) = l
  | [] => rfl
  | a :: l => by
    have ih := join_pieces c l
    have hne := pieces_ne c l
    rw [piecesL]
    by_cases h : a = c
    · rw [if_pos h]
      match hp : piecesL c l, hne with
      | y :: t, _ =>
        rw [hp] at ih
        rw [joinP, ih, h]; rfl
    · rw [if_neg h]
      match hp : piecesL c l, hne with
      | [y], _ =>
        rw [hp] at ih
        simp only [joinP] at ih ⊢
        rw [ih]
      | y :: z :: t, _ =>
        rw [hp] at ih
        simp only [joinP] at ih ⊢
        rw [← ih]; rfl
theorem pieces_free (c : UInt8) : ∀ l : Bytes, ∀ p ∈ piecesL c l, c ∉ p
  | [] => by intro p hp; simp [piecesL] at hp; subst hp; simp
  | a :: l => by
    have ih := pieces_free c l
    intro p hp
    rw [piecesL] at hp
    split at hp
    · rcases List.mem_cons.1 hp with rfl | hp
      · simp
      · exact ih p hp
    · rename_i hac
      split at hp
      · rename_i y t heq
        rcases List.mem_cons.1 hp with rfl | hp
        · intro hc
          rcases List.mem_cons.1 hc with rfl | hc
          · exact hac rfl
          · exact ih y (by rw [heq]; simp) hc
        · exact ih p (by rw [heq]; simp [hp])
      · rename_i heq
        exact absurd heq (pieces_ne c l)
theorem pieces_one (c : UInt8) : ∀ l : Bytes, c ∉ l → piecesL c l = [l]
  | [], _ => rfl
  | a :: l, h => by
    have ih := pieces_one c l (fun hc => h (by simp [hc]))
    rw [piecesL, if_neg (by rintro rfl; exact h (by simp)), ih]
theorem area_ne {l : Bytes} (h : areaB l = true) : l ≠ [] := by
  rintro rfl
  simp [areaB, cntB] at h
theorem stroke_ne {l : Bytes} (h : strokeB l = true) : l ≠ [] := by
  rintro rfl
  simp [strokeB, wordB, figB] at h
/-- What stands in each form: the text is what its parts make, and its base is among its pieces. -/
theorem form_whole {k : Nat} {ws : List Bytes} {q : P4} (h : formV k ws = some q) : joinL q = joinP 47 ws ∧ ∃ x ∈ ws, baseB x = true ∧ q.pre = x.take (cutB x) ∧ q.suf = x.drop (cutB x) := by
  unfold formV at h
  split at h
  all_goals first | (split at h; rotate_left; cases h) | cases h
  · rename_i x hb
    cases h
    exact ⟨by simp [joinL, joinP], x, by simp, hb, rfl, rfl⟩
  · rename_i x y hb
    cases h
    simp only [Bool.and_eq_true] at hb
    have := area_ne hb.1.2
    exact ⟨by simp [joinL, joinP, this], y, by simp, hb.1.1, rfl, rfl⟩
  · rename_i x y hb
    cases h
    simp only [Bool.and_eq_true] at hb
    have := stroke_ne hb.2
    exact ⟨by simp [joinL, joinP, this], x, by simp, hb.1, rfl, rfl⟩
  · rename_i z x y hb
    cases h
    simp only [Bool.and_eq_true] at hb
    have h1 := area_ne hb.1.2
    have h2 := stroke_ne hb.2
    refine ⟨?_, x, by simp, hb.1.1, rfl, rfl⟩
    simp only [joinL, joinP, h1, h2, if_false, List.take_append_drop]
    simp
/-- Split and Join undo each other. -/
theorem join_split {l : Bytes} {q : P4} (h : splitV l = some q) : joinL q = l := by
  obtain ⟨j, _, hj⟩ := splitV_form h
  rw [(form_whole hj).1, join_pieces]
/-- A base is its own base. -/
theorem base_again {l : Bytes} {q : P4} (h : splitV l = some q) : splitV (q.pre ++ q.suf) = some ⟨[], q.pre, q.suf, []⟩ := by
  have hl := splitV_len h
  obtain ⟨j, _, hj⟩ := splitV_form h
  obtain ⟨_, x, hx, hb, hp, hs⟩ := form_whole hj
  have hfree := pieces_free 47 l x hx
  have e : q.pre ++ q.suf = x := by rw [hp, hs, List.take_append_drop]
  have hlen : (q.pre ++ q.suf).length ≤ 8 := by rw [List.length_append]; omega
  rw [e] at hlen ⊢
  unfold splitV
  rw [if_neg (by omega), pieces_one 47 x hfree]
  rw [hp, hs]
  exact tryV_some (f := 3) (by rw [formV, if_pos hb])

end Go.Proofs.YtkbdmdnahphkkaaGreatDoor
