/-
  The turns of a table in order (sorted, each one once), and texts in order. Plain facts, no program.
-/
import Derived.Test.YtkbdmdnahphkkaaGreatDoorTabPlace
import Derived.Lib.SlicesCompact
namespace Go.Proofs.YtkbdmdnahphkkaaGreatDoor
open Go.RowKit
theorem get_bang {zs : List Int} {j : Nat} (h : j < zs.length) : zs.toArray[j]! = zs[j] := by
  rw [getElem!_pos _ j (by simpa using h)]
  simp
theorem sorted_get {zs : List Int} (hs : zs.Pairwise (· ≤ ·)) {i j : Nat} (hij : i ≤ j) (hj : j < zs.length) : zs[i] ≤ zs[j] := by
  by_cases h : i = j
  · subst h; omega
  · exact List.pairwise_iff_getElem.1 hs i j (by omega) hj (by omega)
theorem compact_rise {zs : List Int} (hs : zs.Pairwise (· ≤ ·)) : (Lib.compact zs).Pairwise (· < ·) := by
  unfold Lib.compact Lib.compactUpTo
  rw [List.pairwise_map]
  refine List.Pairwise.imp_of_mem ?_ (List.Pairwise.filter _ (List.pairwise_lt_range (n := zs.length)))
  intro a b ha hb hab
  obtain ⟨hb1, hb2⟩ := List.mem_filter.1 hb
  have hb3 := List.mem_range.1 hb1
  unfold Lib.keeps at hb2
  simp only [decide_eq_true_eq] at hb2
  have hne := hb2.resolve_left (by omega)
  rw [get_bang hb3, get_bang (by omega)] at hne
  rw [get_bang hb3, get_bang (by omega)]
  have h1 := sorted_get hs (i := a) (j := b - 1) (by omega) (by omega)
  have h2 := sorted_get hs (i := b - 1) (j := b) (by omega) hb3
  omega
theorem compact_mem {zs : List Int} {t : Int} : t ∈ Lib.compact zs ↔ t ∈ zs := by
  unfold Lib.compact Lib.compactUpTo
  rw [List.mem_map]
  constructor
  · rintro ⟨j, hj, rfl⟩
    have := List.mem_range.1 (List.mem_filter.1 hj).1
    rw [get_bang this]
    exact List.getElem_mem this
  · intro h
    have key : ∀ j, j < zs.length → zs[j]? = some t → ∃ i, i ∈ (List.range zs.length).filter (Lib.keeps zs.toArray) ∧ zs.toArray[i]! = t := by
      intro j
      induction j with
      | zero =>
        intro hj e
        refine ⟨0, List.mem_filter.2 ⟨List.mem_range.2 hj, by simp [Lib.keeps]⟩, ?_⟩
        rw [get_bang hj]
        rw [List.getElem?_eq_getElem hj] at e
        exact Option.some.inj e
      | succ j ih =>
        intro hj e
        rw [List.getElem?_eq_getElem hj] at e
        have e := Option.some.inj e
        by_cases hk : zs[j + 1] = zs[j]
        · exact ih (by omega) (by rw [List.getElem?_eq_getElem (by omega), ← hk, e])
        · refine ⟨j + 1, List.mem_filter.2 ⟨List.mem_range.2 hj, ?_⟩, by rw [get_bang hj, e]⟩
          unfold Lib.keeps
          rw [get_bang hj, Nat.add_sub_cancel, get_bang (by omega)]
          simp [hk]
    obtain ⟨j, hj, e⟩ := List.getElem_of_mem h
    exact key j hj (by rw [List.getElem?_eq_getElem hj, e])
/-- The days on which rows begin, or are no longer, in force, one row after the other. -/
def daysL (l : List Rw) : List Int := l.flatMap (fun r => [r.frm, r.til + 1])
theorem mem_days {l : List Rw} {t : Int} : t ∈ daysL l ↔ isTurn l t := by
  unfold daysL isTurn
  simp [List.mem_flatMap]
theorem days_len (l : List Rw) : (daysL l).length = 2 * l.length := by
  induction l with
  | nil => rfl
  | cons r l ih =>
    have : daysL (r :: l) = [r.frm, r.til + 1] ++ daysL l := rfl
    rw [this, List.length_append, ih]
    simp; omega
def sortI (zs : List Int) : List Int := zs.mergeSort fun x y => decide (x ≤ y)
theorem sortI_sorted (zs : List Int) : (sortI zs).Pairwise (· ≤ ·) := by
  have := List.pairwise_mergeSort (le := fun x y : Int => decide (x ≤ y)) (fun a b c h1 h2 => by simp at *; omega) (fun a b => by simp; omega) zs
  exact this.imp (fun h => by simpa using h)
theorem sortI_mem {zs : List Int} {t : Int} : t ∈ sortI zs ↔ t ∈ zs := List.mem_mergeSort
def turnsV (l : List Rw) : List Int := Lib.compact (sortI (daysL l))
theorem turns_turns (l : List Rw) : TurnsV l (turnsV l) := by
  have hr := compact_rise (sortI_sorted (daysL l))
  change TurnsV l (Lib.compact (sortI (daysL l)))
  refine ⟨fun i j hij hj => ?_, fun t => ?_⟩
  · rw [List.getD_eq_getElem?_getD, List.getD_eq_getElem?_getD, List.getElem?_eq_getElem hj, List.getElem?_eq_getElem (by omega)]
    exact List.pairwise_iff_getElem.1 hr i j (by omega) hj hij
  · rw [← mem_days, ← sortI_mem, ← compact_mem]
    constructor
    · intro h
      obtain ⟨i, hi, e⟩ := List.getElem_of_mem h
      exact ⟨i, hi, by rw [List.getD_eq_getElem?_getD, List.getElem?_eq_getElem hi]; exact e⟩
    · rintro ⟨i, hi, e⟩
      rw [← e, List.getD_eq_getElem?_getD, List.getElem?_eq_getElem hi]
      exact List.getElem_mem hi
/-- Texts in their order. -/
def sortT (l : List Bytes) : List Bytes := l.mergeSort fun x y => decide (x ≤ y)
theorem le_antisymm_b {a b : Bytes} (h1 : a ≤ b) (h2 : b ≤ a) : a = b := List.le_antisymm h1 h2
theorem sortT_sorted (l : List Bytes) : (sortT l).Pairwise (fun x y => decide (x ≤ y) = true) :=
  List.pairwise_mergeSort (le := fun x y : Bytes => decide (x ≤ y)) (fun a b c h1 h2 => by
    simp only [decide_eq_true_eq] at *; exact List.le_trans h1 h2) (fun a b => by
    rcases List.le_total a b with h | h
    · simp [h]
    · simp [h]) l
/-- Whatever holds the texts of a list, in order, is the sorted list. -/
theorem sortT_eq {a l : List Bytes} (hp : a.Perm l) (hs : a.Pairwise (fun x y => decide (x ≤ y) = true)) : a = sortT l := by
  refine List.Perm.eq_of_pairwise (le := fun x y => decide (x ≤ y) = true) (fun x y _ _ h1 h2 => ?_) hs (sortT_sorted l) (hp.trans (List.mergeSort_perm l _).symm)
  simp only [decide_eq_true_eq] at h1 h2
  exact List.le_antisymm h1 h2
/-- A text put in behind all that are not greater. -/
theorem put_sorted {a b : List Bytes} {x : Bytes} (hs : (a ++ b).Pairwise (fun x y => decide (x ≤ y) = true)) (ha : a = [] ∨ ∃ y, a.getLast? = some y ∧ decide (x < y) = false) (hb : ∀ y ∈ b, decide (x < y) = true) :
    (a ++ x :: b).Pairwise (fun x y => decide (x ≤ y) = true) := by
  rw [List.pairwise_append] at hs ⊢
  obtain ⟨h1, h2, h3⟩ := hs
  refine ⟨h1, List.pairwise_cons.2 ⟨fun y hy => ?_, h2⟩, fun z hz y hy => ?_⟩
  · have := hb y hy
    simp only [decide_eq_true_eq] at *
    exact List.le_of_lt this
  · rcases List.mem_cons.1 hy with rfl | hy
    · rcases ha with rfl | ⟨v, hv, hx⟩
      · cases hz
      · have hvx : v ≤ y := by
          simp only [decide_eq_false_iff_not] at hx
          exact List.not_lt.1 hx
        obtain ⟨pre, rfl⟩ := List.getLast?_eq_some_iff.1 hv
        rw [List.mem_append] at hz
        rcases hz with hz | hz
        · have := (List.pairwise_append.1 h1).2.2 z hz v (by simp)
          simp only [decide_eq_true_eq] at *
          exact List.le_trans this hvx
        · simp at hz
          subst hz
          simpa using hvx
    · exact h3 z hz y hy
theorem put_perm {a b l : List Bytes} {x : Bytes} (h : (a ++ b).Perm l) : (a ++ x :: b).Perm (l ++ [x]) := by
  refine (List.perm_middle).trans ?_
  refine (h.cons x).trans ?_
  exact (List.perm_append_singleton x l).symm

end Go.Proofs.YtkbdmdnahphkkaaGreatDoor
