/-
  The specification's Chain, plain: its table of sizes and its greedy walk give the kept places. No condition but those that each theorem names.
-/
import Derived.Test.YthodoabppkeidaaDoorCpRises
namespace Go.Proofs.YthodoabppkeidaaDoor
open Go Go.RowKit
/-- The length of the longest kept set that begins with an index (counted from 0). -/
def bst (l : List Int) (i : Nat) : Nat := if okS (mkA l) 0 (i + 1) && okS (mkA l) (i + 1) (l.length + 1) then (szL (mkA l) (l.length + 1) (i + 1)).1 else 0
theorem szL_pos {a : Nat → Int} {last i : Nat} (hi : i < last) (ho : okS a i last = true) : 0 < (szL a last i).1 := by
  have := (nx_at hi ho).size
  omega
theorem bst_pos {l : List Int} {i : Nat} (hi : i < l.length) : 0 < bst l i ↔ okS (mkA l) 0 (i + 1) = true ∧ okS (mkA l) (i + 1) (l.length + 1) = true := by
  unfold bst
  by_cases h : (okS (mkA l) 0 (i + 1) && okS (mkA l) (i + 1) (l.length + 1)) = true
  · rw [if_pos h]
    rw [Bool.and_eq_true] at h
    exact ⟨fun _ => h, fun _ => szL_pos (by omega) h.2⟩
  · rw [if_neg h]
    rw [Bool.and_eq_true] at h
    exact ⟨fun h2 => absurd h2 (Nat.lt_irrefl 0), fun h2 => absurd h2 h⟩
theorem bst_of {l : List Int} {i : Nat} (h1 : okS (mkA l) 0 (i + 1) = true) (h2 : okS (mkA l) (i + 1) (l.length + 1) = true) : bst l i = (szL (mkA l) (l.length + 1) (i + 1)).1 := if_pos (by rw [h1, h2]; rfl)
theorem bst_end {l : List Int} (hl : l.length ≤ 1000) : bst l l.length = 0 := by
  rw [bst_of (ok_ends l hl) (okS_self _ _), szL_last]
theorem bst_le {l : List Int} {i : Nat} : bst l i ≤ l.length := by
  unfold bst
  split
  · have := szL_le (a := mkA l) (last := l.length + 1) _ (i + 1) (Nat.le_refl _)
    omega
  · omega
theorem ok0 {l : List Int} {i : Nat} (hi : i < l.length) : okS (mkA l) 0 (i + 1) = true ↔ (i : Int) + 1 ≤ l[i] := by
  rw [okS_iff, mkA_zero, mkA_succ l hi]; push_cast; omega
theorem ok9 {l : List Int} {i : Nat} (hi : i < l.length) : okS (mkA l) (i + 1) (l.length + 1) = true ↔ l[i] ≤ 99999 - ((l.length : Int) - 1 - i) := by
  rw [okS_iff, mkA_last, mkA_succ l hi]; push_cast; omega
theorem ok1 {l : List Int} {i k : Nat} (hi : i < l.length) (hk : k < l.length) : okS (mkA l) (i + 1) (k + 1) = true ↔ (k : Int) - i ≤ l[k] - l[i] := by
  rw [okS_iff, mkA_succ l hi, mkA_succ l hk]; push_cast; omega
theorem bst_no {l : List Int} {i : Nat} (hi : i < l.length) (h : l[i] < (i : Int) + 1 ∨ 99999 - ((l.length : Int) - 1 - i) < l[i]) : bst l i = 0 := by
  rcases Nat.eq_zero_or_pos (bst l i) with h0 | h0
  · exact h0
  · obtain ⟨h1, h2⟩ := (bst_pos hi).1 h0
    rw [ok0 hi] at h1
    rw [ok9 hi] at h2
    omega
/-- The size of a place while its candidates are looked at, up to one. -/
def refM (l : List Int) (i j : Nat) : Nat := max 1 (bGo (mkA l) (l.length + 1) (fun k => (szL (mkA l) (l.length + 1) k).1) (i + 1) (j - (i + 1))).1
theorem refM_start (l : List Int) (i : Nat) : refM l i (i + 1) = 1 := by
  rw [refM, Nat.sub_self, bGo]; rfl
theorem refM_next {l : List Int} {i j : Nat} (hij : i < j) : refM l i (j + 1) = max 1 (bStep (mkA l) (l.length + 1) (fun k => (szL (mkA l) (l.length + 1) k).1) (i + 1) (bGo (mkA l) (l.length + 1) (fun k => (szL (mkA l) (l.length + 1) k).1) (i + 1) (j - (i + 1))) (j + 1)).1 := by
  rw [refM, show j + 1 - (i + 1) = (j - (i + 1)) + 1 by omega, bGo, show i + 1 + 1 + (j - (i + 1)) = j + 1 by omega]
theorem refM_yes {l : List Int} {i j : Nat} (hij : i < j) (hj : j < l.length) (hb : 0 < bst l j) (hc : (j : Int) - i ≤ l[j] - l[i]) : refM l i (j + 1) = max (refM l i j) (bst l j + 1) := by
  obtain ⟨b1, b2⟩ := (bst_pos hj).1 hb
  have h1 := (ok1 (l := l) (i := i) (k := j) (by omega) hj).2 hc
  rw [refM_next hij, bStep, if_pos (by rw [h1, b2]; rfl), refM, bst_of b1 b2]
  try dsimp only
  split <;> (try dsimp only) <;> omega
theorem refM_no {l : List Int} {i j : Nat} (hij : i < j) (hj : j < l.length) (h0 : okS (mkA l) 0 (i + 1) = true) (h : ¬ (0 < bst l j ∧ (j : Int) - i ≤ l[j] - l[i])) : refM l i (j + 1) = refM l i j := by
  have hn : (okS (mkA l) (i + 1) (j + 1) && okS (mkA l) (j + 1) (l.length + 1)) = false := by
    rw [Bool.and_eq_false_iff]
    by_cases h1 : okS (mkA l) (i + 1) (j + 1) = true
    · right
      by_cases h2 : okS (mkA l) (j + 1) (l.length + 1) = true
      · exact absurd ⟨(bst_pos hj).2 ⟨okS_trans h0 h1, h2⟩, (ok1 (by omega) hj).1 h1⟩ h
      · simpa using h2
    · left; simpa using h1
  rw [refM_next hij, bStep, if_neg (by rw [hn]; simp), refM]
theorem refM_end {l : List Int} {i : Nat} (hi : i < l.length) (h0 : okS (mkA l) 0 (i + 1) = true) (h9 : okS (mkA l) (i + 1) (l.length + 1) = true) : refM l i l.length = bst l i := by
  rw [bst_of h0 h9, szL_eq, show l.length + 1 - (i + 1) = (l.length - (i + 1)) + 1 by omega, bGo, show i + 1 + 1 + (l.length - (i + 1)) = l.length + 1 by omega, bStep, if_pos (by rw [h9, okS_self]; rfl), szL_last, refM]
  try dsimp only
  split <;> (try dsimp only) <;> omega
theorem refM_le {l : List Int} {i j : Nat} : refM l i j ≤ l.length + 1 := by
  have h := bGo_spec (a := mkA l) (last := l.length + 1) (i := i + 1) (sz := fun k => (szL (mkA l) (l.length + 1) k).1) (j := j - (i + 1))
  rw [refM]
  rcases h with ⟨h1, _⟩ | ⟨h1, h2, h3, h4, _, _⟩
  · rw [h1]; dsimp only; omega
  · have := szL_le (a := mkA l) (last := l.length + 1) _ (bGo (mkA l) (l.length + 1) (fun k => (szL (mkA l) (l.length + 1) k).1) (i + 1) (j - (i + 1))).2 (Nat.le_refl _)
    rw [h4]; omega
/-- The greatest of the first sizes. -/
def mostN (l : List Int) : Nat → Nat
  | 0 => 0
  | i + 1 => max (mostN l i) (bst l i)
theorem mostN_ge {l : List Int} : ∀ {n i : Nat}, i < n → bst l i ≤ mostN l n
  | n + 1, i, h => by
    rw [mostN]
    by_cases e : i = n
    · subst e; omega
    · have := mostN_ge (l := l) (n := n) (i := i) (by omega)
      omega
theorem mostN_le {l : List Int} {m : Nat} : ∀ {n : Nat}, (∀ i, i < n → bst l i ≤ m) → mostN l n ≤ m
  | 0, _ => Nat.zero_le _
  | n + 1, h => by
    rw [mostN]
    have := mostN_le (n := n) fun i hi => h i (by omega)
    have := h n (by omega)
    omega
theorem most_is {l : List Int} (hl : l.length ≤ 1000) : mostN l l.length + 1 = (szL (mkA l) (l.length + 1) 0).1 := by
  have hx := nx_at (a := mkA l) (last := l.length + 1) (i := 0) (by omega) (ok_ends l hl)
  have h1 : mostN l l.length ≤ (szL (mkA l) (l.length + 1) 0).1 - 1 := mostN_le fun i hi => by
    rcases Nat.eq_zero_or_pos (bst l i) with h0 | h0
    · omega
    · obtain ⟨b1, b2⟩ := (bst_pos hi).1 h0
      have := hx.most (i + 1) (by omega) (by omega) b1 b2
      rw [bst_of b1 b2]
      omega
  have h2 := hx.size
  by_cases he : (szL (mkA l) (l.length + 1) 0).2 = l.length + 1
  · rw [he, szL_last] at h2
    omega
  · have h3 := hx.lt
    have h4 := hx.le
    obtain ⟨x, hxx⟩ : ∃ x, (szL (mkA l) (l.length + 1) 0).2 = x + 1 := ⟨_, (Nat.sub_add_cancel h3).symm⟩
    have h5 := hx.ok
    have h6 := hx.on
    rw [hxx] at h5 h6 h2 h4 he
    have h7 := mostN_ge (l := l) (n := l.length) (i := x) (by omega)
    rw [bst_of h5 h6] at h7
    omega
/-- The greedy walk at an index: the last place that was kept (0: none), and the kept ones so far. -/
structure Grd (l : List Int) (i p : Nat) (out : List Nat) : Prop where
  lt : p ≤ i
  o0 : okS (mkA l) 0 p = true
  o9 : okS (mkA l) p (l.length + 1) = true
  nx : i + 1 ≤ (szL (mkA l) (l.length + 1) p).2
  all : out ++ (kpF (mkA l) (l.length + 1) (l.length + 1) (szL (mkA l) (l.length + 1) p).2).map (· - 1) = keptI l
  size : (szL (mkA l) (l.length + 1) p).1 + out.length = mostN l l.length + 1
  last : (out = [] ∧ p = 0) ∨ ∃ o, out = o ++ [p - 1] ∧ 0 < p
theorem Grd.start {l : List Int} (hl : l.length ≤ 1000) : Grd l 0 0 [] := by
  have hx := nx_at (a := mkA l) (last := l.length + 1) (i := 0) (by omega) (ok_ends l hl)
  refine ⟨Nat.le_refl _, okS_self _ _, ok_ends l hl, hx.lt, ?_, by rw [most_is hl]; rfl, .inl ⟨rfl, rfl⟩⟩
  rw [List.nil_append, keptI, kept, keptL]
theorem Grd.take {l : List Int} {i p : Nat} {out : List Nat} (h : Grd l i p out) (hi : i < l.length) (he : i + 1 = (szL (mkA l) (l.length + 1) p).2) :
    Grd l (i + 1) (i + 1) (out ++ [i]) ∧ 0 < bst l i ∧ bst l i + out.length = mostN l l.length := by
  have hp := h.lt
  have hx := nx_at (a := mkA l) (last := l.length + 1) (i := p) (by omega) h.o9
  have h1 := hx.ok
  have h2 := hx.on
  have h3 := hx.size
  rw [← he] at h1 h2 h3
  have h4 := okS_trans h.o0 h1
  have hy := nx_at (a := mkA l) (last := l.length + 1) (i := i + 1) (by omega) h2
  have hb := bst_of h4 h2
  have hs := h.size
  have hz := hy.size
  refine ⟨⟨Nat.le_refl _, h4, h2, hy.lt, ?_, ?_, .inr ⟨out, rfl, by omega⟩⟩, by omega, by omega⟩
  · have ha := h.all
    rw [← he, kpF, if_neg (by omega), List.map_cons, Nat.add_sub_cancel] at ha
    have hlt := hy.lt
    rw [List.append_assoc, List.singleton_append, ← ha, kpF_eq (n := l.length + 1) (m := l.length) hy.le hy.on (by omega) (by omega)]
  · rw [List.length_append, List.length_singleton]
    omega
theorem Grd.skip {l : List Int} {i p : Nat} {out : List Nat} (h : Grd l i p out) (hi : i < l.length) (he : i + 1 ≠ (szL (mkA l) (l.length + 1) p).2) :
    Grd l (i + 1) p out ∧ ¬ (0 < bst l i ∧ bst l i + out.length = mostN l l.length ∧ okS (mkA l) p (i + 1) = true) := by
  have hp := h.lt
  have hx := nx_at (a := mkA l) (last := l.length + 1) (i := p) (by omega) h.o9
  have hn := h.nx
  refine ⟨⟨by omega, h.o0, h.o9, by omega, h.all, h.size, h.last⟩, ?_⟩
  rintro ⟨h1, h2, h3⟩
  obtain ⟨b1, b2⟩ := (bst_pos hi).1 h1
  have h4 := hx.first (i + 1) (by omega) (by omega) h3 b2
  rw [bst_of b1 b2] at h2
  have := h.size
  omega
theorem Grd.done {l : List Int} {p : Nat} {out : List Nat} (h : Grd l l.length p out) : out = keptI l := by
  have hp := h.lt
  have hx := nx_at (a := mkA l) (last := l.length + 1) (i := p) (by omega) h.o9
  have h1 := hx.le
  have h2 := h.nx
  have h3 : (szL (mkA l) (l.length + 1) p).2 = l.length + 1 := by omega
  have h4 := h.all
  rwa [h3, kpF_stop, List.map_nil, List.append_nil] at h4
theorem Grd.len {l : List Int} {i p : Nat} {out : List Nat} (h : Grd l i p out) : out.length ≤ mostN l l.length + 1 := by
  have := h.size
  omega
theorem mostN_lt {l : List Int} {n : Nat} : mostN l n ≤ l.length := mostN_le fun _ _ => bst_le
end Go.Proofs.YthodoabppkeidaaDoor
