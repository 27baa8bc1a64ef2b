/-
  Times, Earliest, Latest at systems that close, as rows in memory; which times keep all bounds. Condition: the system lies in memory, is valid and closes.
-/
import Derived.Test.YtodmbcoobjcooaaDoorCkThrough
import Derived.Test.YtodmbcoobjcooaaDoorCkQry
import Derived.Test.YtodmbcoobjcooaaDoorCkAwake
import Derived.Test.YtodmbcoobjcooaaDoorCkOpen
namespace Go.Proofs.YtodmbcoobjcooaaDoor
open Go Go.RowKit Go.Shelf
open Go.ChangeShapes Go.WideShapes Go.ChangeAt Go.Deep
attribute [local go_sem] Oper.semAt_some
/-- Spans in memory, and lists of these. -/
def SpsA (w : World) (A : Option Addr) (l : List Spn) : Prop :=
  l.length ≤ 9223372036854775807 ∧ (0 < l.length → ∃ b off, A = some ⟨b, off, none⟩ ∧ b < w.heap.size ∧ ∀ j, j < l.length → w.cell? ⟨b, off + j * 2, none⟩ = some (.int .i64 (l[j]?.getD (0, 0)).1) ∧ w.cell? ⟨b, off + j * 2 + 1, none⟩ = some (.int .i64 (l[j]?.getD (0, 0)).2))
theorem SpsA.keep {w w' : World} {A : Option Addr} {l : List Spn} (h : SpsA w A l) (k : New w w') : SpsA w' A l :=
  ⟨h.1, fun h0 => by
    obtain ⟨b, off, e, hb, hc⟩ := h.2 h0
    exact ⟨b, off, e, Nat.lt_of_lt_of_le hb k.size, fun j hj => ⟨k.cellOf (hc j hj).1, k.cellOf (hc j hj).2⟩⟩⟩
def SssA (w : World) (A : Option Addr) (l : List (List Spn)) : Prop :=
  l.length ≤ 9223372036854775807 ∧ (0 < l.length → ∃ b off, A = some ⟨b, off, none⟩ ∧ b < w.heap.size ∧ ∀ i, i < l.length → ∃ B c, w.cell? ⟨b, off + i, none⟩ = some (.slice B (l[i]?.getD []).length c) ∧ SpsA w B (l[i]?.getD []))
theorem SssA.keep {w w' : World} {A : Option Addr} {l : List (List Spn)} (h : SssA w A l) (k : New w w') : SssA w' A l :=
  ⟨h.1, fun h0 => by
    obtain ⟨b, off, e, hb, hc⟩ := h.2 h0
    exact ⟨b, off, e, Nat.lt_of_lt_of_le hb k.size, fun i hi => by
      obtain ⟨B, c, h1, h2⟩ := hc i hi
      exact ⟨B, c, k.cellOf h1, h2.keep k⟩⟩⟩
theorem owns_sps {w : World} {b : Nat} {e : TypeId} {A : Option Addr} {n c : Nat} {l : List Spn} (h : w.ownsRow b e 2 (.slice A n c) n (l.flatMap spC)) : n = l.length ∧ SpsA w A l := by
  have hl := h.1
  rw [fm_len spC 2 (fun _ => rfl)] at hl
  have hn : n = l.length := by omega
  subst hn
  refine ⟨rfl, ?_⟩
  rcases h.2 with ⟨h1, h2⟩ | ⟨g, cap, cur, hv, hb, hh, h1, h2, h3, h4⟩
  · exact ⟨by omega, fun h0 => absurd h2 (by omega)⟩
  · simp only [Value.slice.injEq] at hv
    obtain ⟨rfl, -, rfl⟩ := hv
    unfold maxLen at h2
    refine ⟨by omega, fun _ => ⟨g, 0, rfl, (Array.getElem?_eq_some_iff.1 hh).1, fun i hi => ?_⟩⟩
    rw [List.getElem?_eq_getElem hi]
    refine ⟨?_, ?_⟩
    · rw [Nat.zero_add, h.cellAt _ (by omega)]
      exact fm_get spC 2 (fun _ => rfl) l i 0 hi (by decide)
    · rw [Nat.zero_add, h.cellAt _ (by omega)]
      exact fm_get spC 2 (fun _ => rfl) l i 1 hi (by decide)
theorem AllIn.sss {W : World} {base : Nat} {V : Value} {rows : List (List Spn)} (h : AllIn W base V rows) : ∃ A c, V = .slice A rows.length c ∧ SssA W A rows := by
  obtain ⟨outs, h1, h2⟩ := h
  obtain ⟨A, c, rfl⟩ := owns_form h1
  refine ⟨A, c, rfl, ?_⟩
  have hlen : outs.length = rows.length := by have := h1.1; omega
  rcases h1.2 with ⟨h3, h4⟩ | ⟨g, cap, cur, hv, hb, hh, k1, k2, k3, k4⟩
  · exact ⟨by rw [h4]; omega, fun h0 => absurd h4 (by omega)⟩
  · simp only [Value.slice.injEq] at hv
    obtain ⟨rfl, -, rfl⟩ := hv
    unfold maxLen at k2
    refine ⟨by omega, fun h0 => ⟨g, 0, rfl, (Array.getElem?_eq_some_iff.1 hh).1, fun i hi => ?_⟩⟩
    obtain ⟨v, a, b⟩ := h2 i hi
    obtain ⟨B, bc, rfl⟩ := owns_form b
    refine ⟨B, bc, ?_, (owns_sps b).2⟩
    rw [Nat.zero_add, h1.cellAt i (by omega)]
    exact a
set_option maxHeartbeats 1000000 in
theorem ck_TimesC (s : Sy) (hs : Ok s) (hc : Closes (egs s)) (A D : Option Addr) (c d : Nat) (w : World) (hM : SysM w A D s) (hbeg : BegA w) :
    Calls Tryd.prog 28 #[.agg #[.slice A s.tracks.length c, .slice D s.ties.length d, .int .i64 s.window]] w fun e w' => ∃ B bc, e = .returned (.tuple #[.slice B s.tracks.length bc, .int .i64 0]) ∧ New w w' ∧ SssA w' B (rowsK s (hiF s) (loF s) s.tracks.length) := by
  refine (ck_Times s hs A D c d w hM hbeg hc).mono ?_
  rintro e w' ⟨V, base, dd, db, rfl, h1, h2, h3, h4⟩
  rw [rowsK_congr (fun v hv => (dist_lohi hs h3 h4 hv).1) (fun v hv => (dist_lohi hs h3 h4 hv).2)] at h2
  obtain ⟨B, bc, rfl, h5⟩ := h2.sss
  rw [rowsK_len]
  exact ⟨B, bc, rfl, h1, h5⟩
set_option maxHeartbeats 1000000 in
theorem ck_EarliestC (s : Sy) (hs : Ok s) (hc : Closes (egs s)) (A D : Option Addr) (c d : Nat) (w : World) (hM : SysM w A D s) (hbeg : BegA w) :
    Calls Tryd.prog 30 #[.agg #[.slice A s.tracks.length c, .slice D s.ties.length d, .int .i64 s.window]] w fun e w' => ∃ B bc, e = .returned (.tuple #[.slice B s.tracks.length bc, .int .i64 0]) ∧ New w w' ∧ IssA w' B (rowsI s (fun v => -loF s v) s.tracks.length) := by
  refine (ck_Earliest s hs A D c d w hM hbeg hc).mono ?_
  rintro e w' ⟨V, base, dd, db, rfl, h1, h2, h3, h4⟩
  rw [rowsI_congr (g := fun v => -loF s v) (fun v hv => by rw [(dist_lohi hs h3 h4 hv).2])] at h2
  obtain ⟨B, bc, rfl, h5⟩ := h2.iss
  rw [rowsI_len]
  exact ⟨B, bc, rfl, h1, h5⟩
set_option maxHeartbeats 1000000 in
theorem ck_LatestC (s : Sy) (hs : Ok s) (hc : Closes (egs s)) (A D : Option Addr) (c d : Nat) (w : World) (hM : SysM w A D s) (hbeg : BegA w) :
    Calls Tryd.prog 32 #[.agg #[.slice A s.tracks.length c, .slice D s.ties.length d, .int .i64 s.window]] w fun e w' => ∃ B bc, e = .returned (.tuple #[.slice B s.tracks.length bc, .int .i64 0]) ∧ New w w' ∧ IssA w' B (rowsI s (hiF s) s.tracks.length) := by
  refine (ck_Latest s hs A D c d w hM hbeg hc).mono ?_
  rintro e w' ⟨V, base, dd, db, rfl, h1, h2, h3, h4⟩
  rw [rowsI_congr (g := hiF s) (fun v hv => by rw [(dist_lohi hs h3 h4 hv).1])] at h2
  obtain ⟨B, bc, rfl, h5⟩ := h2.iss
  rw [rowsI_len]
  exact ⟨B, bc, rfl, h1, h5⟩
theorem keeps_lo {s : Sy} (hs : Ok s) (hc : Closes (egs s)) : keepsB s (rowsI s (fun v => -loF s v) s.tracks.length) = true := by
  unfold keepsB
  rw [rows_fit _ (fun v hv => (lohi_in hs hc hv).1), earliest_keeps hs hc (f := loF s) (fun v hv => mnW_is hc hv (nPl_pos s))]
  simp
  exact hs
theorem keeps_hi {s : Sy} (hs : Ok s) (hc : Closes (egs s)) : keepsB s (rowsI s (hiF s) s.tracks.length) = true := by
  unfold keepsB
  rw [rows_fit _ (fun v hv => (lohi_in hs hc hv).2), latest_keeps hs hc (f := hiF s) (fun v hv => mnW_is hc (nPl_pos s) hv)]
  simp
  exact hs
theorem keeps_th {s : Sy} (hs : Ok s) (hc : Closes (egs s)) {r : Rf} (hr : lineB s r = true) {n : Int} (h1 : -loF s (plc s r) ≤ n) (h2 : n ≤ hiF s (plc s r)) : keepsB s (rowsI s (thF s r n) s.tracks.length) = true := by
  have hv := plc_lt (.inr hr : RefOk s r)
  have e : thF s r n = fun v => max (-loF s v) (n - mnW (egs s) v (plc s r)) := by
    funext v
    unfold thF
    rw [Int.sub_eq_add_neg]
  obtain ⟨k1, -⟩ := through_keeps hs hc (.inr hr) (b := loF s) (c := fun v => mnW (egs s) v (plc s r)) (fun v hv => mnW_is hc hv (nPl_pos s)) (fun v hv2 => mnW_is hc hv2 hv) h1 h2
  rw [← e] at k1
  have hf : ∀ v, v < nPl s → -1000000 ≤ thF s r n v ∧ thF s r n v ≤ 1000000 := fun v hv2 => by
    obtain ⟨q, hq, rfl⟩ := ref_at hv2
    have hmin := mnW_is hc (nPl_pos s) hv2
    have hmin2 := mnW_is hc hv2 (nPl_pos s)
    have h3 := keeps_in hs k1 hq (hi := hiF s (plc s q)) (lo := -loF s (plc s q)) hmin (by rw [Int.neg_neg]; exact hmin2)
    have f0 : thF s r n 0 = 0 := by
      unfold thF
      have z := (zero_lohi hc).2
      rw [z]
      have : mnW (egs s) 0 (plc s r) = hiF s (plc s r) := rfl
      rw [this]
      omega
    rw [momAt_rows _ f0 hq] at h3
    have := lohi_in hs hc hv2
    omega
  unfold keepsB
  rw [rows_fit _ hf, k1]
  simp
  exact hs
theorem keeps_not {s : Sy} {l : List (List Int)} (h : ¬(checkE s = 0 ∧ Closes (egs s))) : keepsB s l = false := by
  cases hk : keepsB s l with
  | false => rfl
  | true =>
    unfold keepsB at hk
    simp only [Bool.and_eq_true, decide_eq_true_eq] at hk
    exact absurd ⟨hk.1, keeps_closes hk.1 hk.2.2⟩ h
theorem keeps_yes {s : Sy} {l : List (List Int)} (h : keepsB s l = true) : Ok s ∧ fitB s l = true ∧ allK s l = true := by
  unfold keepsB at h
  simp only [Bool.and_eq_true, decide_eq_true_eq] at h
  exact h
theorem keeps_len {s : Sy} {l : List (List Int)} (h : keepsB s l = true) : l.length = s.tracks.length ∧ ∀ i, i < s.tracks.length → (l[i]?.getD []).length = (tkAt s i).times.length := by
  obtain ⟨-, hf, -⟩ := keeps_yes h
  unfold fitB at hf
  simp only [Bool.and_eq_true, List.all_eq_true, decide_eq_true_eq] at hf
  refine ⟨hf.1, fun i hi => ?_⟩
  have := hf.2 _ (List.mem_range.2 hi)
  unfold fitR at this
  simp only [Bool.and_eq_true, decide_eq_true_eq] at this
  exact this.1
/-- A minute of times that keep all bounds lies in its span. -/
theorem keeps_inside {s : Sy} (hc : Closes (egs s)) {l : List (List Int)} (h : keepsB s l = true) {i j : Nat} (hi : i < s.tracks.length) (hj : j < (tkAt s i).times.length) : -loF s (plc s ⟨i, j⟩) ≤ (l[i]?.getD [])[j]?.getD 0 ∧ (l[i]?.getD [])[j]?.getD 0 ≤ hiF s (plc s ⟨i, j⟩) := by
  obtain ⟨hs, -, hk⟩ := keeps_yes h
  have hr : RefOk s ⟨i, j⟩ := .inr (line_mk hi hj)
  have hv := plc_lt hr
  have h3 := keeps_in hs hk hr (hi := hiF s (plc s ⟨i, j⟩)) (lo := -loF s (plc s ⟨i, j⟩)) (mnW_is hc (nPl_pos s) hv) (by rw [Int.neg_neg]; exact mnW_is hc hv (nPl_pos s))
  have e : momAt l ⟨i, j⟩ = (l[i]?.getD [])[j]?.getD 0 := by
    unfold momAt
    rw [if_neg (by simp)]
    simp
  rw [e] at h3
  exact h3
theorem rowsK_get {s : Sy} (f g : Nat → Int) {i : Nat} (hi : i < s.tracks.length) : (rowsK s f g s.tracks.length)[i]?.getD [] = rowK s f g i (tkAt s i).times.length := by
  unfold rowsK
  rw [List.getElem?_map, List.getElem?_range hi]
  rfl
theorem rowK_get {s : Sy} (f g : Nat → Int) {i j k : Nat} (hj : j < k) : (rowK s f g i k)[j]?.getD (0, 0) = (-g (plc s ⟨i, j⟩), f (plc s ⟨i, j⟩)) := by
  unfold rowK
  rw [List.getElem?_map, List.getElem?_range hj]
  rfl
/-- A row of the spans, and of the times. -/
theorem SssA.row {w : World} {A : Option Addr} {s : Sy} {f g : Nat → Int} (h : SssA w A (rowsK s f g s.tracks.length)) {i : Nat} (hi : i < s.tracks.length) : ∃ b off B c, A = some ⟨b, off, none⟩ ∧ b < w.heap.size ∧ w.cell? ⟨b, off + i, none⟩ = some (.slice B (tkAt s i).times.length c) ∧ SpsA w B (rowK s f g i (tkAt s i).times.length) := by
  obtain ⟨b, off, h1, h2, h3⟩ := h.2 (by rw [rowsK_len]; omega)
  obtain ⟨B, c, h4, h5⟩ := h3 i (by rw [rowsK_len]; exact hi)
  rw [rowsK_get f g hi] at h4 h5
  rw [rowK_len] at h4
  exact ⟨b, off, B, c, h1, h2, h4, h5⟩
theorem SpsA.at {w : World} {A : Option Addr} {s : Sy} {f g : Nat → Int} {i k : Nat} (h : SpsA w A (rowK s f g i k)) {j : Nat} (hj : j < k) : ∃ b off, A = some ⟨b, off, none⟩ ∧ b < w.heap.size ∧ w.cell? ⟨b, off + j * 2, none⟩ = some (.int .i64 (-g (plc s ⟨i, j⟩))) ∧ w.cell? ⟨b, off + j * 2 + 1, none⟩ = some (.int .i64 (f (plc s ⟨i, j⟩))) := by
  obtain ⟨b, off, h1, h2, h3⟩ := h.2 (by rw [rowK_len]; omega)
  have h4 := h3 j (by rw [rowK_len]; exact hj)
  rw [rowK_get f g hj] at h4
  exact ⟨b, off, h1, h2, h4.1, h4.2⟩
theorem IssA.row {w : World} {A : Option Addr} {l : List (List Int)} (h : IssA w A l) {i : Nat} (hi : i < l.length) : ∃ b off B c, A = some ⟨b, off, none⟩ ∧ b < w.heap.size ∧ w.cell? ⟨b, off + i, none⟩ = some (.slice B (l[i]?.getD []).length c) ∧ IntsA w B (l[i]?.getD []) := by
  obtain ⟨b, off, h1, h2, h3⟩ := h.2 (by omega)
  obtain ⟨B, c, h4, h5⟩ := h3 i hi
  exact ⟨b, off, B, c, h1, h2, h4, h5⟩
theorem IssA.rowI {w : World} {A : Option Addr} {s : Sy} {f : Nat → Int} (h : IssA w A (rowsI s f s.tracks.length)) {i : Nat} (hi : i < s.tracks.length) : ∃ b off B c, A = some ⟨b, off, none⟩ ∧ b < w.heap.size ∧ w.cell? ⟨b, off + i, none⟩ = some (.slice B (tkAt s i).times.length c) ∧ IntsA w B (rowI s f i (tkAt s i).times.length) := by
  obtain ⟨b, off, B, c, h1, h2, h3, h4⟩ := h.row (i := i) (by rw [rowsI_len]; exact hi)
  rw [rowsI_get f hi] at h3 h4
  rw [rowI_len] at h3
  exact ⟨b, off, B, c, h1, h2, h3, h4⟩
theorem ints_at {w : World} {A : Option Addr} {l : List Int} (h : IntsA w A l) {j : Nat} (hj : j < l.length) : ∃ b off, A = some ⟨b, off, none⟩ ∧ b < w.heap.size ∧ w.cell? ⟨b, off + j, none⟩ = some (.int .i64 (l[j]?.getD 0)) := by
  obtain ⟨b, off, h1, h2, h3⟩ := h.2 (by omega)
  exact ⟨b, off, h1, h2, h3 j hj⟩
theorem ints_row {w : World} {A : Option Addr} {s : Sy} {f : Nat → Int} {i k : Nat} (h : IntsA w A (rowI s f i k)) {j : Nat} (hj : j < k) : ∃ b off, A = some ⟨b, off, none⟩ ∧ b < w.heap.size ∧ w.cell? ⟨b, off + j, none⟩ = some (.int .i64 (f (plc s ⟨i, j⟩))) := by
  obtain ⟨b, off, h1, h2, h3⟩ := ints_at h (j := j) (by rw [rowI_len]; exact hj)
  rw [rowI_get f hj] at h3
  exact ⟨b, off, h1, h2, h3⟩
end Go.Proofs.YtodmbcoobjcooaaDoor
