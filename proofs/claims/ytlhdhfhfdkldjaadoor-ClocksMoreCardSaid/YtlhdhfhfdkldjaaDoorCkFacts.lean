/-
  What is true of valid tracks and systems: bounds of their numbers, and of the edges of their nets. No program, no condition.
-/
import Derived.Test.YtlhdhfhfdkldjaaDoorCkSys
namespace Go.Proofs.YtlhdhfhfdkldjaaDoor
theorem timesB_all : ∀ (l : List Int) (p : Int), timesB p l = true → ∀ j, j < l.length → p ≤ l[j]?.getD 0 ∧ l[j]?.getD 0 ≤ 20000 ∧ (j + 1 < l.length → l[j]?.getD 0 ≤ l[j + 1]?.getD 0)
  | [], _, _, j, hj => by simp at hj
  | x :: l, p, h, j, hj => by
    rw [timesB, Bool.and_eq_true] at h
    have h1 := wiB_iff.1 h.1
    cases j with
    | zero =>
      refine ⟨by simpa using h1.1, by simpa using h1.2, fun h2 => ?_⟩
      have := timesB_all l x h.2 0 (by simpa using h2)
      simpa using this.1
    | succ j =>
      have := timesB_all l x h.2 j (by simpa using hj)
      simp only [List.getElem?_cons_succ, List.length_cons]
      exact ⟨by omega, this.2.1, fun h2 => this.2.2 (by omega)⟩
theorem trackB_facts {t : Tk} (h : trackB t = true) : (∀ j, j < t.times.length → 0 ≤ tmAt t j ∧ tmAt t j ≤ 20000 ∧ (j + 1 < t.times.length → tmAt t j ≤ tmAt t (j + 1))) ∧ 0 ≤ t.slip ∧ t.slip ≤ 1440 ∧ 0 ≤ t.drift ∧ t.drift ≤ 100 ∧ t.times.length ≤ 400 ∧ t.jumps.length ≤ 16 := by
  unfold trackB clockB at h
  simp only [Bool.and_eq_true, decide_eq_true_eq] at h
  obtain ⟨h1, ⟨h2, h3, h4, h5⟩, h6⟩ := h
  have a := wiB_iff.1 h3
  have b := wiB_iff.1 h4
  exact ⟨fun j hj => timesB_all _ 0 h1 j hj, a.1, a.2, b.1, b.2, h6, h5⟩
/-- A valid system. -/
def Ok (s : Sy) : Prop := checkE s = 0
theorem Ok.track {s : Sy} (h : Ok s) {i : Nat} (hi : i < s.tracks.length) : trackB (tkAt s i) = true := by
  have := (checkE_ok h).2.2.1
  unfold tkAt
  rw [List.getElem?_eq_getElem hi]
  exact this _ (List.getElem_mem hi)
theorem Ok.tie {s : Sy} (h : Ok s) {i : Nat} (hi : i < s.ties.length) : lineB s (tiAt s i).a = true ∧ lineB s (tiAt s i).b = true ∧ (tiAt s i).a.log ≠ (tiAt s i).b.log := by
  have h1 := (checkE_ok h).2.2.2.1
  unfold tiesE at h1
  have e : tiAt s i = s.ties[i] := by unfold tiAt; rw [List.getElem?_eq_getElem hi]; rfl
  by_cases h2 : s.ties.any (tieNone s) = true
  · rw [if_pos h2] at h1; cases h1
  rw [if_neg h2] at h1
  by_cases h3 : s.ties.any tieArg = true
  · rw [if_pos h3] at h1; cases h1
  rw [Bool.not_eq_true, List.any_eq_false] at h2 h3
  have a := h2 _ (List.getElem_mem hi)
  have b := h3 _ (List.getElem_mem hi)
  rw [← e] at a b
  unfold tieNone at a
  unfold tieArg at b
  simp at a b
  exact ⟨a.1, a.2, b⟩
/-- A ref of a bound: the beginning, or a line. -/
def RefOk (s : Sy) (r : Rf) : Prop := r = beg ∨ lineB s r = true
theorem bnds_mem {s : Sy} {b : Bd} (h : b ∈ bnds s) :
    (∃ i j, i < s.tracks.length ∧ j < (tkAt s i).times.length ∧ (b = upB i (tkAt s i) j ∨ b = downB i (tkAt s i) j)) ∨
    (∃ i j, i < s.tracks.length ∧ j + 1 < (tkAt s i).times.length ∧ (b = orderB i j ∨ b = driftUp i (tkAt s i) j ∨ b = driftDown i (tkAt s i) j)) ∨
    (∃ i, i < s.ties.length ∧ (b = thereB s i ∨ b = backB s i)) := by
  unfold bnds at h
  rcases List.mem_append.1 h with h | h
  · rcases List.mem_append.1 h with h | h
    · obtain ⟨i, hi, h⟩ := List.mem_flatMap.1 h
      obtain ⟨j, hj, h⟩ := List.mem_flatMap.1 h
      exact .inl ⟨i, j, List.mem_range.1 hi, List.mem_range.1 hj, by simpa using h⟩
    · obtain ⟨i, hi, h⟩ := List.mem_flatMap.1 h
      obtain ⟨j, hj, h⟩ := List.mem_flatMap.1 h
      refine .inr (.inl ⟨i, j, List.mem_range.1 hi, by have := List.mem_range.1 hj; omega, ?_⟩)
      unfold stepL at h
      rcases List.mem_cons.1 h with h | h
      · exact .inl h
      · split at h
        · right; simpa using h
        · cases h
  · obtain ⟨i, hi, h⟩ := List.mem_flatMap.1 h
    exact .inr (.inr ⟨i, List.mem_range.1 hi, by simpa using h⟩)
theorem line_succ {s : Sy} {i j : Nat} (hi : i < s.tracks.length) (hj : j + 1 < (tkAt s i).times.length) : lineB s ⟨i, (j : Int) + 1⟩ = true := by
  have := line_mk hi hj
  rwa [show ((j + 1 : Nat) : Int) = (j : Int) + 1 by omega] at this
theorem drift_bd {t : Tk} (h : trackB t = true) {j : Nat} (hj : j + 1 < t.times.length) : 0 ≤ shown t j ∧ shown t j ≤ 20000 ∧ 1 ≤ wrong t j ∧ wrong t j ≤ 2001 := by
  obtain ⟨h1, _, _, h4, h5, _⟩ := trackB_facts h
  have a := h1 j (by omega)
  have b := h1 (j + 1) hj
  have c := a.2.2 hj
  have d : 0 ≤ shown t j ∧ shown t j ≤ 20000 := by unfold shown; omega
  have e : 0 ≤ t.drift * shown t j := Int.mul_nonneg h4 d.1
  have f : t.drift * shown t j ≤ 100 * 20000 := Int.mul_le_mul h5 d.2 d.1 (by omega)
  refine ⟨d.1, d.2, ?_, ?_⟩ <;> unfold wrong <;> omega
/-- The refs of a bound are the beginning or lines, different ones; and what it says is no great number. -/
theorem bnds_ok {s : Sy} (hs : Ok s) {b : Bd} (h : b ∈ bnds s) : RefOk s b.frm ∧ RefOk s b.to ∧ b.frm ≠ b.to ∧ -22001 ≤ b.most ∧ b.most ≤ 22001 := by
  rcases bnds_mem h with ⟨i, j, hi, hj, rfl | rfl⟩ | ⟨i, j, hi, hj, rfl | rfl | rfl⟩ | ⟨i, hi, rfl | rfl⟩
  · obtain ⟨h1, h2, h3, _⟩ := trackB_facts (hs.track hi)
    have := h1 j hj
    refine ⟨.inl rfl, .inr (line_mk hi hj), fun e => ?_, ?_, ?_⟩
    · have := congrArg Rf.log e; simp [upB, beg] at this
    · show -22001 ≤ tmAt _ j + Tk.slip _; omega
    · show tmAt _ j + Tk.slip _ ≤ 22001; omega
  · obtain ⟨h1, h2, h3, _⟩ := trackB_facts (hs.track hi)
    have := h1 j hj
    refine ⟨.inr (line_mk hi hj), .inl rfl, fun e => ?_, ?_, ?_⟩
    · have := congrArg Rf.log e; simp [downB, beg] at this
    · show -22001 ≤ Tk.slip _ - tmAt _ j; omega
    · show Tk.slip _ - tmAt _ j ≤ 22001; omega
  · refine ⟨.inr (line_succ hi hj), .inr (line_mk hi (by omega)), fun e => ?_, by simp [orderB], by simp [orderB]⟩
    have := congrArg Rf.line e; simp [orderB] at this; omega
  · have := drift_bd (hs.track hi) hj
    refine ⟨.inr (line_mk hi (by omega)), .inr (line_succ hi hj), fun e => ?_, ?_, ?_⟩
    · have := congrArg Rf.line e; simp [driftUp] at this; omega
    · show -22001 ≤ shown _ j + wrong _ j; omega
    · show shown _ j + wrong _ j ≤ 22001; omega
  · have := drift_bd (hs.track hi) hj
    refine ⟨.inr (line_succ hi hj), .inr (line_mk hi (by omega)), fun e => ?_, ?_, ?_⟩
    · have := congrArg Rf.line e; simp [driftDown] at this; omega
    · show -22001 ≤ wrong _ j - shown _ j; omega
    · show wrong _ j - shown _ j ≤ 22001; omega
  · have h1 := hs.tie hi
    have h2 := checkE_ok hs
    exact ⟨.inr h1.1, .inr h1.2.1, fun e => h1.2.2 (congrArg Rf.log e), by show -22001 ≤ s.window; omega, by show s.window ≤ 22001; omega⟩
  · have h1 := hs.tie hi
    have h2 := checkE_ok hs
    exact ⟨.inr h1.2.1, .inr h1.1, fun e => h1.2.2 (congrArg Rf.log e).symm, by show -22001 ≤ s.window; omega, by show s.window ≤ 22001; omega⟩
theorem fstP_le {s : Sy} (hs : Ok s) : ∀ k, k ≤ s.tracks.length → fstP s k ≤ 1 + k * 400
  | 0, _ => by rw [fstP_zero]; omega
  | k + 1, h => by
    have h1 := fstP_le hs k (by omega)
    have h2 := (trackB_facts (hs.track (i := k) (by omega))).2.2.2.2.2.1
    rw [fstP_succ]
    omega
theorem nPl_le {s : Sy} (hs : Ok s) : nPl s ≤ 25601 := by
  have h1 := fstP_le hs _ (Nat.le_refl _)
  have h2 := (checkE_ok hs).1
  unfold nPl
  omega
theorem nPl_pos (s : Sy) : 1 ≤ nPl s := by unfold nPl fstP; omega
theorem plc_lt {s : Sy} {r : Rf} (h : RefOk s r) : plc s r < nPl s := by
  rcases h with rfl | h
  · rw [plc_beg]; exact nPl_pos s
  · exact (plc_line h).2.1
theorem plc_eq {s : Sy} {r q : Rf} (h : RefOk s r) (k : RefOk s q) (e : plc s r = plc s q) : r = q := by
  rcases h with rfl | h <;> rcases k with rfl | k
  · rfl
  · have := plc_line k; rw [plc_beg] at e; omega
  · have := plc_line h; rw [plc_beg] at e; omega
  · exact plc_inj h k e
theorem egs_ok {s : Sy} (hs : Ok s) : EOk (egs s) (nPl s) 22001 := by
  have key : ∀ e, e ∈ egs s → ∃ b, b ∈ bnds s ∧ e = egOf s b := fun e he => by
    obtain ⟨b, hb, rfl⟩ := List.mem_map.1 he
    exact ⟨b, hb, rfl⟩
  refine ⟨fun e he => ?_, fun e he => ?_, fun e he => ?_, fun e he => ?_, fun e he => ?_⟩ <;> obtain ⟨b, hb, rfl⟩ := key e he <;> obtain ⟨h1, h2, h3, h4, h5⟩ := bnds_ok hs hb
  · exact plc_lt h1
  · exact plc_lt h2
  · exact fun e => h3 (plc_eq h1 h2 e)
  · exact h4
  · exact h5
theorem nPl_NB {s : Sy} (hs : Ok s) : (nPl s : Int) * 22001 + 22001 < NB := by
  have := nPl_le hs
  have h1 : ((nPl s : Nat) : Int) ≤ 25601 := by omega
  unfold NB
  omega
theorem fm_len_bd {α : Type} (f : Nat → List α) (M : Nat) : ∀ k, (∀ i, i < k → (f i).length ≤ M) → ((List.range k).flatMap f).length ≤ k * M
  | 0, _ => by simp
  | k + 1, h => by
    have h1 := fm_len_bd f M k (fun i hi => h i (by omega))
    have h2 := h k (by omega)
    rw [fm_snoc, List.length_append, Nat.add_mul, Nat.one_mul]
    omega
theorem bnds_len {s : Sy} (hs : Ok s) : (bnds s).length ≤ 200000 := by
  have h0 := checkE_ok hs
  have ht : ∀ i, i < s.tracks.length → (tkAt s i).times.length ≤ 400 := fun i hi => (trackB_facts (hs.track hi)).2.2.2.2.2.1
  have h1 : (slipsL s s.tracks.length).length ≤ s.tracks.length * 800 := fm_len_bd _ 800 _ (fun i hi => by
    have := fm_len_bd (fun j => [upB i (tkAt s i) j, downB i (tkAt s i) j]) 2 (tkAt s i).times.length (fun j _ => by simp)
    have h3 := ht i hi
    show (slipsT _ _ _).length ≤ 800
    unfold slipsT
    omega)
  have h2 : (stepsL s s.tracks.length).length ≤ s.tracks.length * 1200 := fm_len_bd _ 1200 _ (fun i hi => by
    have := fm_len_bd (stepL i (tkAt s i)) 3 ((tkAt s i).times.length - 1) (fun j _ => by unfold stepL; split <;> simp)
    have h3 := ht i hi
    show (stepsT _ _ _).length ≤ 1200
    unfold stepsT
    omega)
  have h3 : (tiesL s s.ties.length).length ≤ s.ties.length * 2 := fm_len_bd _ 2 _ (fun i _ => by simp)
  have h4 : (bnds s).length = (slipsL s s.tracks.length).length + (stepsL s s.tracks.length).length + (tiesL s s.ties.length).length := by unfold bnds; simp; omega
  omega
end Go.Proofs.YtlhdhfhfdkldjaaDoor
