/-
  A slice of rows that the call itself builds by append; parts of tables: a table turned round, a table without its first row, the rows that a test takes. No condition.
-/
import Derived.Test.YtkbdmdnahphkkaaGreatDoorTabPlace
import Derived.Test.YtkbdmdnahphkkaaGreatDoorTabAsk
import Derived.Test.YtkbdmdnahphkkaaGreatDoorRefSplit
namespace Go.Proofs.YtkbdmdnahphkkaaGreatDoor
open Go.RowKit
def rowL (r : Rw) : List Value := [.string (B r.text), .int .i64 r.country, .int .i64 r.zone, .int .i64 r.cont, .int .i64 r.frm, .int .i64 r.til, .bool r.whole]
theorem flat_get : ∀ (l : List Rw) (i k : Nat) (h : i < l.length), k < 7 → (l.flatMap rowL)[i * 7 + k]? = (rowL l[i])[k]?
  | r :: l, 0, k, _, hk => by
    rw [List.flatMap_cons, List.getElem?_append_left (by show 0 * 7 + k < 7; omega), Nat.zero_mul, Nat.zero_add]
    rfl
  | r :: l, i + 1, k, h, hk => by
    rw [List.flatMap_cons, List.getElem?_append_right (by show 7 ≤ (i + 1) * 7 + k; omega)]
    have e : (i + 1) * 7 + k - (rowL r).length = i * 7 + k := by show (i + 1) * 7 + k - 7 = _; omega
    rw [e, flat_get l i k (by simpa using h) hk]
    rfl
theorem flat_len : ∀ l : List Rw, (l.flatMap rowL).length = l.length * 7
  | [] => rfl
  | r :: l => by
    rw [List.flatMap_cons, List.length_append, flat_len l]
    show 7 + _ = _
    rw [List.length_cons]; omega
/-- A list of rows as a slice of the call's own. -/
def RowsOwn (base : Nat) (l : List Rw) (v : Value) (w : World) : Prop := w.ownsRow base 49 7 v l.length (l.flatMap rowL)
theorem RowsOwn.start (base : Nat) (w : World) : RowsOwn base [] (.slice none 0 0) w := World.ownsRow_nil _ _ _ _
theorem RowsOwn.keep {base : Nat} {l : List Rw} {v : Value} {w w' : World} (h : RowsOwn base l v w) (k : New w w') : RowsOwn base l v w' := owns_keep h k
theorem RowsOwn.at {base : Nat} {l : List Rw} {v : Value} {w : World} (h : RowsOwn base l v w) (hne : 0 < l.length) :
    ∃ g cap, v = .slice (some ⟨g, 0, none⟩) l.length cap ∧ l.length ≤ cap ∧ cap ≤ maxLen ∧ RowsAt w (some ⟨g, 0, none⟩) l.length l ∧ RowsAt w (some ⟨g, 7, none⟩) (l.length - 1) (l.drop 1) := by
  have h0 : w.ownsRow base 49 7 v l.length (l.flatMap rowL) := h
  rcases h0.2 with ⟨_, hz⟩ | ⟨g, cap, cur, rfl, hb, hh, h1, h2, h3, h4⟩
  · omega
  have hlt : g < w.heap.size := (Array.getElem?_eq_some_iff.1 hh).1
  have cell : ∀ i (hi : i < l.length) k, k < 7 → w.cell? ⟨g, i * 7 + k, none⟩ = (rowL l[i])[k]? := by
    intro i hi k hk
    rw [h0.cellAt (i * 7 + k) (by have : i * 7 + k < l.length * 7 := by omega
                                  exact this), flat_get l i k hi hk]
  have row : ∀ i (hi : i < l.length), RowAt w g (i * 7) l[i] := by
    intro i hi
    refine ⟨?_, ?_, ?_, ?_, ?_, ?_, ?_⟩
    · have := cell i hi 0 (by omega); simpa [rowL] using this
    · have := cell i hi 1 (by omega); simpa [rowL] using this
    · have := cell i hi 2 (by omega); simpa [rowL] using this
    · have := cell i hi 3 (by omega); simpa [rowL] using this
    · have := cell i hi 4 (by omega); simpa [rowL] using this
    · have := cell i hi 5 (by omega); simpa [rowL] using this
    · have := cell i hi 6 (by omega); simpa [rowL] using this
  refine ⟨g, cap, rfl, h1, h2, ⟨rfl, fun _ => ⟨g, 0, rfl, hlt, fun i hi => ?_⟩⟩, ⟨by simp, fun _ => ⟨g, 7, rfl, hlt, fun i hi => ?_⟩⟩⟩
  · rw [Nat.zero_add]; exact row i hi
  · have hi' : i + 1 < l.length := by simp at hi; omega
    have := row (i + 1) hi'
    rw [List.getElem_drop]
    have e : 7 + i * 7 = (i + 1) * 7 := by omega
    rw [e]
    simpa [Nat.add_comm] using this
theorem seven_new (w : World) (r : Rw) : ∀ (j : Nat) u, (rowL r)[j]? = some u → (w.alloc (.cells #[.string (B r.text), .int .i64 r.country, .int .i64 r.zone, .int .i64 r.cont, .int .i64 r.frm, .int .i64 r.til, .bool r.whole] 49)).cell? ((⟨w.heap.size, 0, none⟩ : Addr).add j) = some u := by
  intro j u hj
  match j, hj with
  | 0, hj => simp [rowL] at hj; subst hj; simp [Addr.add]
  | 1, hj => simp [rowL] at hj; subst hj; simp [Addr.add]
  | 2, hj => simp [rowL] at hj; subst hj; simp [Addr.add]
  | 3, hj => simp [rowL] at hj; subst hj; simp [Addr.add]
  | 4, hj => simp [rowL] at hj; subst hj; simp [Addr.add]
  | 5, hj => simp [rowL] at hj; subst hj; simp [Addr.add]
  | 6, hj => simp [rowL] at hj; subst hj; simp [Addr.add]
theorem seven_one (r : Rw) : ∀ u ∈ rowL r, u.oneCell' = true := by
  intro u hu
  simp [rowL] at hu
  rcases hu with rfl | rfl | rfl | rfl | rfl | rfl | rfl <;> rfl
theorem info_p : (Tryz.prog.info? 49).map (fun i => (i.zero, i.size)) = some (some (.agg #[.string ⟨#[]⟩, .int .i64 0, .int .i64 0, .int .i64 0, .int .i64 0, .int .i64 0, .bool false]), 7) := by kernel_rfl
theorem bytes_p : ∃ i : TypeInfo, Tryz.prog.info? 49 = some i ∧ i.zero = some (.agg #[.string ⟨#[]⟩, .int .i64 0, .int .i64 0, .int .i64 0, .int .i64 0, .int .i64 0, .bool false]) ∧ i.size = 7 ∧ i.bytes ≤ 100 := by
  have h := info_p
  cases hi : Tryz.prog.info? 49 with
  | none => rw [hi] at h; cases h
  | some i =>
    rw [hi] at h
    simp only [Option.map_some, Option.some.injEq, Prod.mk.injEq] at h
    refine ⟨i, rfl, h.1, h.2, ?_⟩
    have h2 : (Tryz.prog.info? 49).map (fun i => decide (i.bytes ≤ 100)) = some true := by kernel_rfl
    rw [hi] at h2
    simpa using h2
theorem rowsB_part {l m : List Rw} (h : rowsB l = true) (hl : m.length ≤ l.length) (hm : ∀ r ∈ m, r ∈ l) : rowsB m = true := by
  have h1 := rowsB_len h
  unfold rowsB at h ⊢
  rw [decide_eq_true (by omega), Bool.true_and, List.all_eq_true]
  exact fun r hr => List.all_eq_true.1 (Bool.and_eq_true_iff.1 h).2 r (hm r hr)
theorem tabB_mk {l : List Rw} (h1 : rowsB l = true) (h2 : clashV l = none) : tabB l = true := by unfold tabB; rw [h1, h2]; rfl
theorem tabB_out {l : List Rw} (h : tabB l = true) : rowsB l = true ∧ clashV l = none := by
  unfold tabB at h
  obtain ⟨a, b⟩ := Bool.and_eq_true_iff.1 h
  exact ⟨a, by cases hc : clashV l with | none => rfl | some p => rw [hc] at b; cases b⟩
/-- The table turned round by s. -/
def rotV (l : List Rw) (s : Nat) : List Rw := (List.range l.length).map (fun i => rowN l ((i + s) % l.length))
theorem rot_len (l : List Rw) (s : Nat) : (rotV l s).length = l.length := by simp [rotV]
theorem rot_at {l : List Rw} {s i : Nat} (h : i < l.length) : rowN (rotV l s) i = rowN l ((i + s) % l.length) := by
  unfold rowN rotV
  rw [List.getD_eq_getElem?_getD, List.getElem?_map, List.getElem?_range h]
  rfl
theorem rot_mem {l : List Rw} {s : Nat} (hs : s < l.length) (r : Rw) : r ∈ rotV l s ↔ r ∈ l := by
  constructor
  · intro h
    obtain ⟨i, _, rfl⟩ := List.mem_map.1 h
    exact rowN_mem (Nat.mod_lt _ (by omega))
  · intro h
    obtain ⟨i, hi, rfl⟩ := mem_rowN h
    refine List.mem_map.2 ⟨(i + (l.length - s)) % l.length, List.mem_range.2 (Nat.mod_lt _ (by omega)), ?_⟩
    congr 1
    rw [Nat.mod_add_mod, show i + (l.length - s) + s = i + l.length by omega, Nat.add_mod_right, Nat.mod_eq_of_lt hi]
theorem rot_tab {l : List Rw} {s : Nat} (hs : s < l.length) (h : tabB l = true) : tabB (rotV l s) = true := by
  obtain ⟨h1, h2⟩ := tabB_out h
  refine tabB_mk (rowsB_part h1 (by rw [rot_len]; exact Nat.le_refl _) (fun r hr => (rot_mem hs r).1 hr)) (clash_part (fun i => (i + s) % l.length) (fun i hi => ?_) (fun i k hik hk he => ?_) h2)
  · rw [rot_len] at hi
    exact ⟨Nat.mod_lt _ (by omega), rot_at hi⟩
  · rw [rot_len] at hk
    have e1 : (i + s) % l.length = if i + s < l.length then i + s else i + s - l.length := by
      split
      · rw [Nat.mod_eq_of_lt (by omega)]
      · rw [Nat.mod_eq_sub_mod (by omega), Nat.mod_eq_of_lt (by omega)]
    have e2 : (k + s) % l.length = if k + s < l.length then k + s else k + s - l.length := by
      split
      · rw [Nat.mod_eq_of_lt (by omega)]
      · rw [Nat.mod_eq_sub_mod (by omega), Nat.mod_eq_of_lt (by omega)]
    rw [e1, e2] at he
    split at he <;> split at he <;> omega
theorem drop_tab {l : List Rw} (h : tabB l = true) : tabB (l.drop 1) = true := by
  obtain ⟨h1, h2⟩ := tabB_out h
  refine tabB_mk (rowsB_part h1 (by simp) (fun r hr => List.mem_of_mem_drop hr)) (clash_part (fun i => i + 1) (fun i hi => ?_) (fun i k hik hk he => by omega) h2)
  have hi' : i + 1 < l.length := by simp at hi; omega
  refine ⟨hi', ?_⟩
  unfold rowN
  rw [List.getD_eq_getElem?_getD, List.getD_eq_getElem?_getD, List.getElem?_drop, Nat.add_comm]
theorem rot_place {l : List Rw} {s : Nat} (hs : s < l.length) (h : tabB l = true) (call stem : Bytes) (d : Int) : atV (rotV l s) call stem d = atV l call stem d := by
  rw [at_row, at_row, at_same (tabB_out (rot_tab hs h)).2 (tabB_out h).2 (fun r _ _ => rot_mem hs r)]

end Go.Proofs.YtkbdmdnahphkkaaGreatDoor
