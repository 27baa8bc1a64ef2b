/-
  Plain words and facts on lists of rows: the first number that a test takes, the rows of a key, the first two rows that contradict each other, the row of a call sign. No program.
-/
import Derived.Test.YtkbdmdnahphkkaaGreatDoorTabRows
namespace Go.Proofs.YtkbdmdnahphkkaaGreatDoor
open Go.RowKit
def rw0 : Rw := ⟨[], 0, 0, 0, 0, 0, false⟩
/-- Row number i. -/
def rowN (l : List Rw) (i : Nat) : Rw := l.getD i rw0
def keyB (t : Bytes) (wh : Bool) (r : Rw) : Bool := decide (r.text = t) && (r.whole == wh)
def forceB (d : Int) (r : Rw) : Bool := withinB d r.frm r.til
/-- The first number below n that p takes. -/
def fstN (n : Nat) (p : Nat → Bool) : Option Nat := (List.range n).find? p
theorem fst_some_iff {n k : Nat} {p : Nat → Bool} : fstN n p = some k ↔ k < n ∧ p k = true ∧ ∀ j, j < k → p j = false := by
  unfold fstN
  rw [List.find?_range_eq_some]
  simp only [List.mem_range, Bool.not_eq_true']
  constructor
  · rintro ⟨a, b, c⟩; exact ⟨b, a, c⟩
  · rintro ⟨a, b, c⟩; exact ⟨b, a, c⟩
theorem fst_none_iff {n : Nat} {p : Nat → Bool} : fstN n p = none ↔ ∀ j, j < n → p j = false := by
  unfold fstN
  rw [List.find?_range_eq_none]
  simp only [Bool.not_eq_true']
theorem fst_some {n k : Nat} {p : Nat → Bool} (hk : k < n) (hp : p k = true) (h : ∀ j, j < k → p j = false) : fstN n p = some k := fst_some_iff.2 ⟨hk, hp, h⟩
theorem fst_none {n : Nat} {p : Nat → Bool} (h : ∀ j, j < n → p j = false) : fstN n p = none := fst_none_iff.2 h
theorem fst_succ (n : Nat) (p : Nat → Bool) : fstN (n + 1) p = match fstN n p with | some k => some k | none => if p n then some n else none := by
  unfold fstN
  rw [List.range_succ, List.find?_append]
  cases h : (List.range n).find? p with
  | some k => rfl
  | none => simp
theorem fst_congr {n : Nat} {p q : Nat → Bool} (h : ∀ j, j < n → p j = q j) : fstN n p = fstN n q := by
  cases hq : fstN n q with
  | none => exact fst_none (fun j hj => by rw [h j hj]; exact fst_none_iff.1 hq j hj)
  | some k =>
    obtain ⟨h1, h2, h3⟩ := fst_some_iff.1 hq
    exact fst_some h1 (by rw [h k h1]; exact h2) (fun j hj => by rw [h j (by omega)]; exact h3 j hj)
/-- The numbers of the rows of a key, of the first n rows. -/
def idxN (l : List Rw) (t : Bytes) (wh : Bool) (n : Nat) : List Nat := (List.range n).filter (fun i => keyB t wh (rowN l i))
theorem idx_find (l : List Rw) (t : Bytes) (wh : Bool) (n : Nat) (p : Nat → Bool) : (idxN l t wh n).find? p = fstN n (fun i => keyB t wh (rowN l i) && p i) := by
  unfold idxN fstN
  rw [List.find?_filter]
  congr 1
  funext i
  simp
theorem idx_succ (l : List Rw) (t : Bytes) (wh : Bool) (n : Nat) : idxN l t wh (n + 1) = idxN l t wh n ++ if keyB t wh (rowN l n) = true then [n] else [] := by
  unfold idxN
  rw [List.range_succ, List.filter_append]
  by_cases h : keyB t wh (rowN l n) = true <;> simp [h]
theorem idx_lt {l : List Rw} {t : Bytes} {wh : Bool} {n i : Nat} (h : i ∈ idxN l t wh n) : i < n := by
  unfold idxN at h
  simpa using (List.mem_filter.1 h).1
theorem idx_len (l : List Rw) (t : Bytes) (wh : Bool) (n : Nat) : (idxN l t wh n).length ≤ n := by
  have := List.length_filter_le (fun i => keyB t wh (rowN l i)) (List.range n)
  simpa [idxN] using this
/-- Two rows of one key with a common day. -/
def clashB (x y : Rw) : Bool := keyB x.text x.whole y && (decide (y.frm ≤ x.til) && decide (x.frm ≤ y.til))
def clash1 (l : List Rw) (i : Nat) : Option Nat := fstN l.length (fun k => decide (i < k) && clashB (rowN l i) (rowN l k))
/-- The first two rows that contradict each other. -/
def clashV (l : List Rw) : Option (Nat × Nat) :=
  match fstN l.length (fun i => (clash1 l i).isSome) with
  | some i => (clash1 l i).map (fun k => (i, k))
  | none => none
theorem clashV_some {l : List Rw} {i k : Nat} (hi : i < l.length) (h1 : clash1 l i = some k) (h : ∀ j, j < i → clash1 l j = none) : clashV l = some (i, k) := by
  unfold clashV
  rw [fst_some (p := fun i => (clash1 l i).isSome) hi (by simp [h1]) (fun j hj => by simp [h j hj])]
  simp [h1]
theorem clashV_none {l : List Rw} (h : ∀ j, j < l.length → clash1 l j = none) : clashV l = none := by
  unfold clashV
  rw [fst_none (p := fun i => (clash1 l i).isSome) (fun j hj => by simp [h j hj])]
theorem clashV_none_iff {l : List Rw} : clashV l = none ↔ ∀ i k, i < k → k < l.length → clashB (rowN l i) (rowN l k) = false := by
  constructor
  · intro h i k hik hk
    unfold clashV at h
    cases h2 : fstN l.length (fun i => (clash1 l i).isSome) with
    | some j =>
      rw [h2] at h
      dsimp only at h
      have h3 := (fst_some_iff.1 h2).2.1
      cases h4 : clash1 l j with
      | none => rw [h4] at h3; cases h3
      | some q => rw [h4] at h; cases h
    | none =>
      have h3 := fst_none_iff.1 h2 i (by omega)
      have h4 : clash1 l i = none := by simpa using h3
      have h5 := fst_none_iff.1 h4 k hk
      simpa [hik] using h5
  · intro h
    exact clashV_none (fun j _ => fst_none (fun k hk => by
      by_cases hjk : j < k
      · simp [h j k hjk hk]
      · simp [hjk]))
theorem clashV_in {l : List Rw} {i k : Nat} (h : clashV l = some (i, k)) : i < k ∧ k < l.length := by
  unfold clashV at h
  cases h2 : fstN l.length (fun i => (clash1 l i).isSome) with
  | none => rw [h2] at h; cases h
  | some j =>
    rw [h2] at h
    dsimp only at h
    cases h4 : clash1 l j with
    | none => rw [h4] at h; cases h
    | some q =>
      rw [h4] at h
      simp only [Option.map_some, Option.some.injEq, Prod.mk.injEq] at h
      obtain ⟨rfl, rfl⟩ := h
      obtain ⟨a, b, _⟩ := fst_some_iff.1 h4
      simp at b
      exact ⟨b.1, a⟩
/-- The first row of a key that is in force on a day, of the first n rows. -/
def hitN (l : List Rw) (t : Bytes) (wh : Bool) (d : Int) (n : Nat) : Option Nat := fstN n (fun i => keyB t wh (rowN l i) && forceB d (rowN l i))
/-- The row without Whole with the longest text, of at most n bytes, with which a text begins. -/
def sgN (l : List Rw) (s : Bytes) (d : Int) (k : Nat) : Nat → Option Nat
  | 0 => none
  | n + 1 => match hitN l (s.take (n + 1)) false d k with
    | some i => some i
    | none => sgN l s d k n
/-- The row of a call sign. -/
def rowOfV (l : List Rw) (call stem : Bytes) (d : Int) : Option Nat :=
  match hitN l call true d l.length with
  | some i => some i
  | none => sgN l stem d l.length stem.length
theorem hit_in {l : List Rw} {t : Bytes} {wh : Bool} {d : Int} {n i : Nat} (h : hitN l t wh d n = some i) : i < n ∧ (rowN l i).text = t ∧ (rowN l i).whole = wh ∧ forceB d (rowN l i) = true := by
  obtain ⟨a, b, _⟩ := fst_some_iff.1 h
  simp [keyB] at b
  exact ⟨a, b.1.1, b.1.2, b.2⟩
theorem sg_in {l : List Rw} {s : Bytes} {d : Int} {k : Nat} : ∀ {n i : Nat}, sgN l s d k n = some i → i < k ∧ (rowN l i).text.length ≤ n ∧ (rowN l i).whole = false ∧ forceB d (rowN l i) = true ∧ s.take (rowN l i).text.length = (rowN l i).text
  | 0, i, h => by cases h
  | n + 1, i, h => by
    unfold sgN at h
    cases h2 : hitN l (s.take (n + 1)) false d k with
    | some j =>
      rw [h2] at h
      cases h
      obtain ⟨a, b, c, e⟩ := hit_in h2
      refine ⟨a, ?_, c, e, ?_⟩
      · rw [b]; exact List.length_take_le _ _
      · rw [b, List.length_take]
        by_cases hq : n + 1 ≤ s.length
        · rw [Nat.min_eq_left hq]
        · rw [Nat.min_eq_right (by omega), List.take_length, List.take_of_length_le (by omega)]
    | none =>
      rw [h2] at h
      obtain ⟨a, b, c⟩ := sg_in h
      exact ⟨a, by omega, c⟩
theorem rowOfV_in {l : List Rw} {call s : Bytes} {d : Int} {i : Nat} (h : rowOfV l call s d = some i) : i < l.length := by
  unfold rowOfV at h
  cases h2 : hitN l call true d l.length with
  | some j => rw [h2] at h; cases h; exact (hit_in h2).1
  | none => rw [h2] at h; exact (sg_in h).1
def begB (s t : Bytes) : Bool := decide (t.length ≤ s.length) && decide (s.take t.length = t)
/-- Row k is better than the best one so far. -/
def moreB (l : List Rw) (o : Option Nat) (k : Nat) : Bool :=
  match o with
  | none => true
  | some b => decide ((rowN l b).text.length < (rowN l k).text.length)
def betterB (l : List Rw) (s : Bytes) (d : Int) (k n : Nat) : Bool :=
  forceB d (rowN l k) && (!(rowN l k).whole && (decide ((rowN l k).text.length ≤ n) && (begB s (rowN l k).text && moreB l (sgN l s d k n) k)))
theorem hit_succ (l : List Rw) (t : Bytes) (wh : Bool) (d : Int) (n : Nat) : hitN l t wh d (n + 1) = match hitN l t wh d n with | some k => some k | none => if keyB t wh (rowN l n) && forceB d (rowN l n) then some n else none := fst_succ _ _
theorem sg_step (l : List Rw) (s : Bytes) (d : Int) (k : Nat) (h1 : 1 ≤ (rowN l k).text.length) : ∀ n, n ≤ s.length → sgN l s d (k + 1) n = if betterB l s d k n = true then some k else sgN l s d k n
  | 0, _ => by
    have : betterB l s d k 0 = false := by
      unfold betterB
      rw [decide_eq_false (by omega)]
      simp
    rw [this]; rfl
  | n + 1, hn => by
    have ih := sg_step l s d k h1 n (by omega)
    rw [sgN, hit_succ]
    cases h2 : hitN l (s.take (n + 1)) false d k with
    | some b =>
      have hb : sgN l s d k (n + 1) = some b := by rw [sgN, h2]
      obtain ⟨_, ht, _, _⟩ := hit_in h2
      have hl : (rowN l b).text.length = n + 1 := by rw [ht, List.length_take]; omega
      have : betterB l s d k (n + 1) = false := by
        unfold betterB
        rw [hb]
        simp only [moreB, hl]
        by_cases hq : (rowN l k).text.length ≤ n + 1
        · rw [decide_eq_false (p := n + 1 < (rowN l k).text.length) (by omega)]; simp
        · rw [decide_eq_false hq]; simp
      rw [this, hb]
      simp
    | none =>
      have hb : sgN l s d k (n + 1) = sgN l s d k n := by rw [sgN, h2]
      by_cases h3 : (keyB (s.take (n + 1)) false (rowN l k) && forceB d (rowN l k)) = true
      · simp only [h3, if_true]
        simp [keyB] at h3
        obtain ⟨⟨ht, hw⟩, hf⟩ := h3
        have hl : (rowN l k).text.length = n + 1 := by rw [ht, List.length_take]; omega
        have : betterB l s d k (n + 1) = true := by
          unfold betterB begB
          rw [hb, hf, hw, hl, ht]
          have hm : moreB l (sgN l s d k n) k = true := by
            unfold moreB
            cases h5 : sgN l s d k n with
            | none => rfl
            | some b =>
              have := (sg_in h5).2.1
              simp [hl]; omega
          simp [hm]; omega
        rw [this]; simp
      · have h3' : (keyB (s.take (n + 1)) false (rowN l k) && forceB d (rowN l k)) = false := by simpa using h3
        simp only [h3', Bool.false_eq_true, if_false]
        rw [ih, hb]
        have : betterB l s d k (n + 1) = betterB l s d k n := by
          unfold betterB
          rw [hb]
          by_cases hq : (rowN l k).text.length = n + 1
          · have hx : (forceB d (rowN l k) && (!(rowN l k).whole && begB s (rowN l k).text)) = false := by
              cases hf : forceB d (rowN l k)
              · simp
              · cases hw : (rowN l k).whole
                · simp [begB]
                  intro hle ht
                  rw [hq] at ht
                  simp [keyB, hf, hw] at h3'
                  exact h3' ht.symm
                · simp
            cases hf : forceB d (rowN l k)
            · simp
            · cases hw : (rowN l k).whole
              · rw [hf, hw] at hx
                simp at hx
                simp [hx]
              · simp
          · rw [show decide ((rowN l k).text.length ≤ n + 1) = decide ((rowN l k).text.length ≤ n) from decide_eq_decide.2 (by omega)]
        rw [this]

end Go.Proofs.YtkbdmdnahphkkaaGreatDoor
