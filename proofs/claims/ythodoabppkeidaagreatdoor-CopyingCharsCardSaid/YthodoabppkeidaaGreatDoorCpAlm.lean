/-
  The first alignment of least cost, plain: its steps one by one, what they cost, and that no path of steps costs less. No condition but those that each theorem names.
-/
import Derived.Test.YthodoabppkeidaaGreatDoorCpAl
namespace Go.Proofs.YthodoabppkeidaaGreatDoor
/-- A step: the place in the text sent, or -1; the place in the text heard, or -1; what it costs. -/
abbrev Stp := Int × Int × Nat
variable {c : Cs Nat} {s h : List Nat}
/-- The steps that an alignment may have at a place, in order. -/
def stpsL (c : Cs Nat) (s h : List Nat) (p : Nat × Nat) : List Stp :=
  (if p.1 < s.length ∧ p.2 < h.length then [((p.1 : Int), (p.2 : Int), c.sw (s.getD p.1 0) (h.getD p.2 0))] else []) ++
    ((if p.1 < s.length then [((p.1 : Int), -1, c.ms)] else []) ++ (if p.2 < h.length then [(-1, (p.2 : Int), c.ex)] else []))
/-- The place behind a step. -/
def aftL (p : Nat × Nat) (t : Stp) : Nat × Nat := (if t.1 = -1 then p.1 else p.1 + 1, if t.2.1 = -1 then p.2 else p.2 + 1)
/-- What the rest costs behind a place. -/
def rstL (c : Cs Nat) (s h : List Nat) (p : Nat × Nat) : Nat := lc c (s.drop p.1) (h.drop p.2)
/-- Whether a step loses nothing. -/
def fitL (c : Cs Nat) (s h : List Nat) (p : Nat × Nat) (t : Stp) : Bool := t.2.2 + rstL c s h (aftL p t) == rstL c s h p
/-- The first alignment of least cost from a place on, at most n steps of it. -/
def alG (c : Cs Nat) (s h : List Nat) : Nat → Nat × Nat → List Stp
  | 0, _ => []
  | n + 1, p => match (stpsL c s h p).find? (fitL c s h p) with
    | none => []
    | some t => t :: alG c s h n (aftL p t)
theorem alG_len : ∀ (n : Nat) (p : Nat × Nat), (alG c s h n p).length ≤ n
  | 0, _ => by simp [alG]
  | n + 1, p => by
    rw [alG]
    split
    · simp
    · simp only [List.length_cons]
      have := alG_len n (aftL p ‹_›)
      omega
theorem stpsL_len (p : Nat × Nat) : (stpsL c s h p).length ≤ 3 := by
  unfold stpsL
  repeat' split
  all_goals simp
def sumL (l : List Stp) : Nat := (l.map (·.2.2)).sum
theorem sumL_nil : sumL [] = 0 := rfl
theorem sumL_cons (t : Stp) (l : List Stp) : sumL (t :: l) = t.2.2 + sumL l := by simp [sumL]
theorem sumL_append (a b : List Stp) : sumL (a ++ b) = sumL a + sumL b := by simp [sumL]
/-- What is left of both texts behind a place. -/
def leftL (s h : List Nat) (p : Nat × Nat) : Nat := (s.length - p.1) + (h.length - p.2)
/-- A place of the two texts. -/
def InL (s h : List Nat) (p : Nat × Nat) : Prop := p.1 ≤ s.length ∧ p.2 ≤ h.length
theorem stps_cases {p : Nat × Nat} {t : Stp} (ht : t ∈ stpsL c s h p) : (p.1 < s.length ∧ p.2 < h.length ∧ t = ((p.1 : Int), (p.2 : Int), c.sw (s.getD p.1 0) (h.getD p.2 0)) ∧ aftL p t = (p.1 + 1, p.2 + 1)) ∨
    (p.1 < s.length ∧ t = ((p.1 : Int), -1, c.ms) ∧ aftL p t = (p.1 + 1, p.2)) ∨ (p.2 < h.length ∧ t = (-1, (p.2 : Int), c.ex) ∧ aftL p t = (p.1, p.2 + 1)) := by
  have a1 : ((p.1 : Int) = -1) = False := by simp
  have a2 : ((p.2 : Int) = -1) = False := by simp
  unfold stpsL at ht
  rcases List.mem_append.1 ht with h1 | h1
  · split at h1
    · next hc => rw [List.mem_singleton] at h1; subst h1; exact .inl ⟨hc.1, hc.2, rfl, by simp [aftL, a1, a2]⟩
    · cases h1
  rcases List.mem_append.1 h1 with h1 | h1
  · split at h1
    · next hc => rw [List.mem_singleton] at h1; subst h1; exact .inr (.inl ⟨hc, rfl, by simp [aftL, a1]⟩)
    · cases h1
  · split at h1
    · next hc => rw [List.mem_singleton] at h1; subst h1; exact .inr (.inr ⟨hc, rfl, by simp [aftL, a2]⟩)
    · cases h1
theorem stps_in {p : Nat × Nat} {t : Stp} (ht : t ∈ stpsL c s h p) (hp : InL s h p) : InL s h (aftL p t) ∧ leftL s h (aftL p t) < leftL s h p := by
  obtain ⟨h1, h2⟩ := hp
  rcases stps_cases ht with ⟨a, b, _, e⟩ | ⟨a, _, e⟩ | ⟨a, _, e⟩ <;> rw [e] <;> exact ⟨⟨by simp; omega, by simp; omega⟩, by simp [leftL]; omega⟩
theorem getD_at (l : List Nat) {i : Nat} (hi : i < l.length) : l.getD i 0 = l[i] := by rw [List.getD_eq_getElem?_getD, List.getElem?_eq_getElem hi]; rfl
/-- A step costs at least what it brings. -/
theorem stps_ge {p : Nat × Nat} {t : Stp} (ht : t ∈ stpsL c s h p) : rstL c s h p ≤ t.2.2 + rstL c s h (aftL p t) := by
  rcases stps_cases ht with ⟨a, b, e1, e⟩ | ⟨a, e1, e⟩ | ⟨a, e1, e⟩
  · rw [e, e1, rstL, rstL, getD_at s a, getD_at h b, List.drop_eq_getElem_cons a, List.drop_eq_getElem_cons b]
    exact lc_le_sw _ _ _ _
  · rw [e, e1, rstL, rstL, List.drop_eq_getElem_cons a]
    exact lc_le_ms _ _ _
  · rw [e, e1, rstL, rstL, List.drop_eq_getElem_cons a]
    exact lc_le_ex _ _ _
/-- A step that loses nothing is there, wherever the texts do not end. -/
theorem fit_some {p : Nat × Nat} (hp : InL s h p) (he : p ≠ (s.length, h.length)) : ∃ t, (stpsL c s h p).find? (fitL c s h p) = some t := by
  have key : ∃ t ∈ stpsL c s h p, fitL c s h p t = true := by
    obtain ⟨i, k⟩ := p
    obtain ⟨h1, h2⟩ := hp
    simp only at h1 h2
    have a1 : ((i : Int) = -1) = False := by simp
    have a2 : ((k : Int) = -1) = False := by simp
    by_cases hi : i < s.length
    · by_cases hk : k < h.length
      · have e := lc_drop (c := c) s h i k hi hk
        have m1 : ((i : Int), (k : Int), c.sw s[i] h[k]) ∈ stpsL c s h (i, k) := by simp [stpsL, hi, hk]
        have m2 : ((i : Int), (-1 : Int), c.ms) ∈ stpsL c s h (i, k) := by simp [stpsL, hi, hk]
        have m3 : ((-1 : Int), (k : Int), c.ex) ∈ stpsL c s h (i, k) := by simp [stpsL, hi, hk]
        by_cases q1 : c.sw s[i] h[k] + lc c (s.drop (i + 1)) (h.drop (k + 1)) = lc c (s.drop i) (h.drop k)
        · exact ⟨_, m1, by simp [fitL, rstL, aftL, a1, a2, q1]⟩
        · by_cases q2 : c.ms + lc c (s.drop (i + 1)) (h.drop k) = lc c (s.drop i) (h.drop k)
          · exact ⟨_, m2, by simp [fitL, rstL, aftL, a1, q2]⟩
          · refine ⟨_, m3, ?_⟩
            have q3 : c.ex + lc c (s.drop i) (h.drop (k + 1)) = lc c (s.drop i) (h.drop k) := by omega
            simp [fitL, rstL, aftL, a2, q3]
      · have e := lc_drop_s (c := c) s h i hi k (by omega)
        exact ⟨((i : Int), (-1 : Int), c.ms), by simp [stpsL, hi, hk], by simp [fitL, rstL, aftL, a1]; omega⟩
    · have hk : k < h.length := by
        rcases Nat.lt_or_ge k h.length with h3 | h3
        · exact h3
        · exact absurd (by rw [show i = s.length by omega, show k = h.length by omega]) he
      have e := lc_drop_h (c := c) s h i k (by omega) hk
      exact ⟨((-1 : Int), (k : Int), c.ex), by simp [stpsL, hi, hk], by simp [fitL, rstL, aftL, a2]; omega⟩
  obtain ⟨t, h1, h2⟩ := key
  cases hf : (stpsL c s h p).find? (fitL c s h p) with
  | some t => exact ⟨t, rfl⟩
  | none => exact absurd h2 (by simpa using List.find?_eq_none.1 hf t h1)
theorem stps_end : stpsL c s h (s.length, h.length) = [] := by simp [stpsL]
theorem alG_end (n : Nat) : alG c s h n (s.length, h.length) = [] := by cases n <;> simp [alG, stps_end]
/-- The first step that loses nothing, by its index. -/
theorem find_at {l : List Stp} {f : Stp → Bool} {j : Nat} (hj : j < l.length) (h1 : ∀ i x, i < j → l[i]? = some x → f x = false) (h2 : f l[j] = true) : l.find? f = some l[j] := by
  induction l generalizing j with
  | nil => simp at hj
  | cons x l ih =>
    cases j with
    | zero => simp only [List.getElem_cons_zero] at h2 ⊢; rw [List.find?_cons, h2]
    | succ j =>
      have h3 := h1 0 x (by omega) rfl
      rw [List.find?_cons, h3]
      simp only [List.getElem_cons_succ] at h2 ⊢
      exact ih (by simpa using hj) (fun i y hi hy => h1 (i + 1) y (by omega) (by simpa using hy)) h2
/-- A path of steps from a place to another one. -/
inductive Pth (c : Cs Nat) (s h : List Nat) : Nat × Nat → List Stp → Nat × Nat → Prop
  | nil (p : Nat × Nat) : Pth c s h p [] p
  | cons {p q : Nat × Nat} {t : Stp} {l : List Stp} : t ∈ stpsL c s h p → Pth c s h (aftL p t) l q → Pth c s h p (t :: l) q
theorem Pth.snoc {p q : Nat × Nat} {l : List Stp} {t : Stp} (a : Pth c s h p l q) (ht : t ∈ stpsL c s h q) : Pth c s h p (l ++ [t]) (aftL q t) := by
  induction a with
  | nil p => exact Pth.cons ht (Pth.nil _)
  | cons h1 _ ih => exact Pth.cons h1 (ih ht)
theorem Pth.trans {p q r : Nat × Nat} {a b : List Stp} (x : Pth c s h p a q) (y : Pth c s h q b r) : Pth c s h p (a ++ b) r := by
  induction x with
  | nil p => exact y
  | cons h1 _ ih => exact Pth.cons h1 (ih y)
theorem Pth.grow {p q : Nat × Nat} {l : List Stp} (a : Pth c s h p l q) (hp : InL s h p) : InL s h q ∧ p.1 ≤ q.1 ∧ p.2 ≤ q.2 := by
  induction a with
  | nil p => exact ⟨hp, Nat.le_refl _, Nat.le_refl _⟩
  | @cons p q t l h1 _ ih =>
    have h2 := stps_in h1 hp
    have h3 := ih h2.1
    refine ⟨h3.1, ?_, ?_⟩
    · have := h3.2.1; have e : p.1 ≤ (aftL p t).1 := by unfold aftL; split <;> simp
      omega
    · have := h3.2.2; have e : p.2 ≤ (aftL p t).2 := by unfold aftL; simp only; split <;> simp
      omega
/-- A path is an alignment of what lies between. -/
theorem Pth.al {p q : Nat × Nat} {l : List Stp} (a : Pth c s h p l q) (hp : InL s h p) : Al c ((s.take q.1).drop p.1) ((h.take q.2).drop p.2) (sumL l) := by
  induction a with
  | nil p =>
    rw [List.drop_eq_nil_of_le (by simp; omega), List.drop_eq_nil_of_le (by simp; omega)]
    exact Al.nil
  | @cons p q t l h1 a2 ih =>
    have hi := stps_in h1 hp
    have h2 := ih hi.1
    obtain ⟨h3, h4, h5⟩ := a2.grow hi.1
    have hs1 := h3.1
    have hs2 := h3.2
    rw [sumL_cons]
    rcases stps_cases h1 with ⟨a, b, e1, e⟩ | ⟨a, e1, e⟩ | ⟨a, e1, e⟩
    · rw [e] at h2 h4 h5
      simp only at h2 h4 h5
      have l1 : p.1 < (s.take q.1).length := by simp; omega
      have l2 : p.2 < (h.take q.2).length := by simp; omega
      rw [List.drop_eq_getElem_cons l1, List.drop_eq_getElem_cons l2, e1]
      have h6 := Al.swap (c := c) ((s.take q.1)[p.1]) ((h.take q.2)[p.2]) h2
      refine h6.cast ?_
      simp only [List.getElem_take, getD_at s a, getD_at h b]
    · rw [e] at h2 h4 h5
      simp only at h2 h4 h5
      have l1 : p.1 < (s.take q.1).length := by simp; omega
      rw [List.drop_eq_getElem_cons l1, e1]
      exact Al.miss _ h2
    · rw [e] at h2 h4 h5
      simp only at h2 h4 h5
      have l2 : p.2 < (h.take q.2).length := by simp; omega
      rw [List.drop_eq_getElem_cons l2, e1]
      exact Al.extra _ h2
/-- What is accepted costs no less than the least cost. -/
theorem Pth.le {l : List Stp} (a : Pth c s h (0, 0) l (s.length, h.length)) : lc c s h ≤ sumL l := by
  have h1 := a.al ⟨Nat.zero_le _, Nat.zero_le _⟩
  simp only [List.take_length, List.drop_zero] at h1
  exact lc_min h1
/-- The alignment is a path to the end that loses nothing. -/
theorem alG_path : ∀ (n : Nat) (p : Nat × Nat), InL s h p → leftL s h p ≤ n → Pth c s h p (alG c s h n p) (s.length, h.length) ∧ sumL (alG c s h n p) = rstL c s h p
  | n, p, hp, hl => by
    by_cases he : p = (s.length, h.length)
    · have e0 : alG c s h n p = [] := by cases n <;> simp [alG, he, stps_end]
      rw [e0, he]
      exact ⟨Pth.nil _, by simp [sumL, rstL, lc_nil_nil]⟩
    · obtain ⟨t, ht⟩ := fit_some (c := c) hp he
      have hm := List.mem_of_find?_eq_some ht
      have hf := List.find?_some ht
      obtain ⟨h1, h2⟩ := stps_in hm hp
      match n, hl with
      | 0, hl => omega
      | n + 1, hl =>
        obtain ⟨h3, h4⟩ := alG_path n (aftL p t) h1 (by omega)
        have e0 : alG c s h (n + 1) p = t :: alG c s h n (aftL p t) := by simp [alG, ht]
        rw [e0, sumL_cons, h4]
        refine ⟨Pth.cons hm h3, ?_⟩
        simpa [fitL] using hf
/-- The first alignment of least cost. -/
def alL (c : Cs Nat) (s h : List Nat) : List Stp := alG c s h (s.length + h.length) (0, 0)
theorem alL_len : (alL c s h).length ≤ s.length + h.length := alG_len _ _
theorem alL_path : Pth c s h (0, 0) (alL c s h) (s.length, h.length) ∧ sumL (alL c s h) = lc c s h := by
  have h1 := alG_path (c := c) (s := s) (h := h) (s.length + h.length) (0, 0) ⟨Nat.zero_le _, Nat.zero_le _⟩ (by simp [leftL])
  exact ⟨h1.1, h1.2.trans (by simp [rstL])⟩
/-- Where a path is cut. -/
theorem Pth.cut : ∀ {a b : List Stp} {p r : Nat × Nat}, Pth c s h p (a ++ b) r → ∃ q, Pth c s h p a q ∧ Pth c s h q b r
  | [], b, p, r, x => ⟨p, Pth.nil _, x⟩
  | t :: a, b, p, r, x => by
    cases x with
    | cons h1 x =>
      obtain ⟨q, h2, h3⟩ := Pth.cut x
      exact ⟨q, Pth.cons h1 h2, h3⟩
/-- Where an alignment of least cost is cut in two, both parts cost least. -/
theorem cut_least {a b : List Stp} {q : Nat × Nat} (x : Pth c s h (0, 0) a q) (y : Pth c s h q b (s.length, h.length)) (hm : sumL (a ++ b) = lc c s h) : InL s h q ∧ lc c (s.take q.1) (h.take q.2) = sumL a ∧ lc c (s.drop q.1) (h.drop q.2) = sumL b := by
  have hq := (x.grow ⟨Nat.zero_le _, Nat.zero_le _⟩).1
  have h1 := lc_min (x.al ⟨Nat.zero_le _, Nat.zero_le _⟩)
  have h2 := lc_min (y.al hq)
  simp only [List.take_length, List.drop_zero] at h1 h2
  have h3 := lc_append (c := c) (s.take q.1) (h.take q.2) (s.drop q.1) (h.drop q.2)
  rw [List.take_append_drop, List.take_append_drop] at h3
  rw [sumL_append] at hm
  exact ⟨hq, by omega, by omega⟩
/-- The place behind a path, counted from its steps. -/
theorem Pth.count {p q : Nat × Nat} {l : List Stp} (a : Pth c s h p l q) : q.1 = p.1 + l.countP (fun t => decide (0 ≤ t.1)) ∧ q.2 = p.2 + l.countP (fun t => decide (0 ≤ t.2.1)) := by
  induction a with
  | nil p => simp
  | @cons p q t l h1 _ ih =>
    rcases stps_cases h1 with ⟨a, b, e1, e⟩ | ⟨a, e1, e⟩ | ⟨a, e1, e⟩ <;> rw [e] at ih <;> simp only at ih <;> rw [e1] <;> simp <;> omega
end Go.Proofs.YthodoabppkeidaaGreatDoor
