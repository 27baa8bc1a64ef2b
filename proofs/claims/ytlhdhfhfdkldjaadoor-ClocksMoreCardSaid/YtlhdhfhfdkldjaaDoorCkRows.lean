/-
  Lists of lists of spans, as they grow. No condition.
-/
import Derived.Test.YtlhdhfhfdkldjaaDoorCkInterval
namespace Go.Proofs.YtlhdhfhfdkldjaaDoor
open Go Go.RowKit Go.Shelf
abbrev Spn := Int × Int
def spC (x : Spn) : List Value := [.int .i64 x.1, .int .i64 x.2]
theorem info_span : (Tryd.prog.info? 55).map (fun i => (i.zero, i.size, i.bytes)) = some (some (.agg #[.int .i64 0, .int .i64 0]), 2, 16) := by kernel_rfl
theorem info_spans : (Tryd.prog.info? 73).map (fun i => (i.zero, i.size, i.bytes)) = some (some (.slice none 0 0), 1, 24) := by kernel_rfl
theorem under_spans : Tryd.prog.underlying 73 = some (.slice 55) := by kernel_rfl
theorem under_spanss : Tryd.prog.underlying 44 = some (.slice 73) := by kernel_rfl
/-- Lists of spans in memory, one behind the other. -/
def AllIn (W : World) (base : Nat) (V : Value) (rows : List (List Spn)) : Prop :=
  ∃ outs : List Value, W.ownsRow base 73 1 V rows.length outs ∧ ∀ i, i < rows.length → ∃ v, outs[i]? = some v ∧ W.ownsRow base 55 2 v (rows[i]?.getD []).length ((rows[i]?.getD []).flatMap spC)
theorem AllIn.nil (W : World) (base : Nat) : AllIn W base (.slice none 0 0) [] := ⟨[], World.ownsRow_nil _ _ _ _, fun i h => absurd h (Nat.not_lt_zero i)⟩
theorem AllIn.keep {W W' : World} {base : Nat} {V : Value} {rows : List (List Spn)} (h : AllIn W base V rows) (k : New W W') : AllIn W' base V rows := by
  obtain ⟨outs, h1, h2⟩ := h
  exact ⟨outs, owns_keep h1 k, fun i hi => by
    obtain ⟨v, a, b⟩ := h2 i hi
    exact ⟨v, a, owns_keep b k⟩⟩
theorem owns_other {w w' : World} {b b' : Nat} {e e' : TypeId} {size size' : Nat} {v v' : Value} {n n' : Nat} {xs xs' : List Value} (h : w.ownsRow b e size v n xs) (h' : w.ownsRow b' e' size' v' n' xs') (hg : w.grownBy w' v'.ownBlock) (hne : e ≠ e') : w'.ownsRow b e size v n xs :=
  h.kept hg (by
    rcases h.2 with ⟨rfl, _⟩ | ⟨g, cap, cur, rfl, _, hgb, _⟩
    · exact .inl rfl
    · rcases h'.2 with ⟨rfl, _⟩ | ⟨g', cap', cur', rfl, _, hgb', _⟩
      · exact .inr fun e2 => by simp [Value.ownBlock] at e2
      · refine .inr fun e2 => ?_
        have e3 : g = g' := by simpa [Value.ownBlock] using e2
        subst e3
        rw [hgb] at hgb'
        cases hgb'
        exact hne rfl)
/-- One list more. -/
theorem AllIn.push {W W' : World} {base : Nat} {V V' v : Value} {rows : List (List Spn)} {outs : List Value} (h1 : W.ownsRow base 73 1 V rows.length outs) (h2 : ∀ i, i < rows.length → ∃ v, outs[i]? = some v ∧ W.ownsRow base 55 2 v (rows[i]?.getD []).length ((rows[i]?.getD []).flatMap spC))
    (hg : W.grownBy W' V.ownBlock) (ho : W'.ownsRow base 73 1 V' (rows.length + 1) (outs ++ [v])) {row : List Spn} (hv : W.ownsRow base 55 2 v row.length (row.flatMap spC)) : AllIn W' base V' (rows ++ [row]) := by
  have hlen : outs.length = rows.length := by have := h1.1; omega
  refine ⟨outs ++ [v], by rw [List.length_append, List.length_singleton]; exact ho, fun i hi => ?_⟩
  rw [List.length_append, List.length_singleton] at hi
  by_cases e : i < rows.length
  · obtain ⟨u, a, b⟩ := h2 i e
    refine ⟨u, by rw [List.getElem?_append_left (by omega)]; exact a, ?_⟩
    rw [List.getElem?_append_left e]
    exact owns_other b h1 hg (by decide)
  · obtain rfl : i = rows.length := by omega
    refine ⟨v, by rw [List.getElem?_append_right (by omega), hlen]; simp, ?_⟩
    rw [List.getElem?_append_right (Nat.le_refl _)]
    simp only [Nat.sub_self, List.getElem?_cons_zero, Option.getD_some]
    exact owns_other hv h1 hg (by decide)
/-- The spans of the first lines of a track, and of the first tracks. -/
def rowK (s : Sy) (dd db : Nat → Int) (i k : Nat) : List Spn := (List.range k).map fun (j : Nat) => (-db (plc s ⟨i, j⟩), dd (plc s ⟨i, j⟩))
theorem rowK_len (s : Sy) (dd db : Nat → Int) (i k : Nat) : (rowK s dd db i k).length = k := by simp [rowK]
theorem rowK_succ (s : Sy) (dd db : Nat → Int) (i k : Nat) : rowK s dd db i (k + 1) = rowK s dd db i k ++ [(-db (plc s ⟨i, k⟩), dd (plc s ⟨i, k⟩))] := by simp [rowK, List.range_succ]
def rowsK (s : Sy) (dd db : Nat → Int) (k : Nat) : List (List Spn) := (List.range k).map fun i => rowK s dd db i (tkAt s i).times.length
theorem rowsK_len (s : Sy) (dd db : Nat → Int) (k : Nat) : (rowsK s dd db k).length = k := by simp [rowsK]
theorem rowsK_succ (s : Sy) (dd db : Nat → Int) (k : Nat) : rowsK s dd db (k + 1) = rowsK s dd db k ++ [rowK s dd db k (tkAt s k).times.length] := by simp [rowsK, List.range_succ]
end Go.Proofs.YtlhdhfhfdkldjaaDoor
