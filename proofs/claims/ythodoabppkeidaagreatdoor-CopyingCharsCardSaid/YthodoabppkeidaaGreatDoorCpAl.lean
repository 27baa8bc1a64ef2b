/-
  Alignments of two lists and their least cost, plain: what the least cost is at lists that are put together, turned around, cut, or heard by way of a third one. No condition but those that each theorem names.
-/
import Derived.WalkKit
namespace Go.Proofs.YthodoabppkeidaaGreatDoor

/-- What it costs that an item is heard for another one, is missed, or is heard though it was not sent. -/
structure Cs (α : Type) where
  sw : α → α → Nat
  ms : Nat
  ex : Nat

variable {α : Type} {c : Cs α}

/-- An alignment of two lists that costs so much. -/
inductive Al (c : Cs α) : List α → List α → Nat → Prop
  | nil : Al c [] [] 0
  | swap (x y : α) {s h : List α} {n : Nat} : Al c s h n → Al c (x :: s) (y :: h) (c.sw x y + n)
  | miss (x : α) {s h : List α} {n : Nat} : Al c s h n → Al c (x :: s) h (c.ms + n)
  | extra (y : α) {s h : List α} {n : Nat} : Al c s h n → Al c s (y :: h) (c.ex + n)

theorem Al.cast {s h : List α} {n m : Nat} (a : Al c s h n) (e : n = m) : Al c s h m := e ▸ a
theorem Al.append {s h s' h' : List α} {n m : Nat} (a : Al c s h n) (b : Al c s' h' m) : Al c (s ++ s') (h ++ h') (n + m) := by
  induction a with
  | nil => simpa using b
  | swap x y _ ih => exact (Al.swap x y ih).cast (by omega)
  | miss x _ ih => exact (Al.miss x ih).cast (by omega)
  | extra y _ ih => exact (Al.extra y ih).cast (by omega)
theorem Al.rev {s h : List α} {n : Nat} (a : Al c s h n) : Al c s.reverse h.reverse n := by
  induction a with
  | nil => exact Al.nil
  | swap x y _ ih => simpa using (ih.append (Al.swap x y Al.nil)).cast (by omega)
  | miss x _ ih => simpa using (ih.append (Al.miss x Al.nil)).cast (by omega)
  | extra y _ ih => simpa using (ih.append (Al.extra y Al.nil)).cast (by omega)
/-- The last step of an alignment. -/
theorem Al.last {s h : List α} {n : Nat} (a : Al c s h n) : (s = [] ∧ h = [] ∧ n = 0) ∨ (∃ s' h' x y m, s = s' ++ [x] ∧ h = h' ++ [y] ∧ Al c s' h' m ∧ n = m + c.sw x y) ∨
    (∃ s' x m, s = s' ++ [x] ∧ Al c s' h m ∧ n = m + c.ms) ∨ (∃ h' y m, h = h' ++ [y] ∧ Al c s h' m ∧ n = m + c.ex) := by
  have r := a.rev
  generalize hs : s.reverse = rs at r
  generalize hh : h.reverse = rh at r
  have es : s = rs.reverse := by rw [← hs, List.reverse_reverse]
  have eh : h = rh.reverse := by rw [← hh, List.reverse_reverse]
  subst es eh
  clear hs hh a
  cases r with
  | nil => exact .inl ⟨rfl, rfl, rfl⟩
  | swap x y b => exact .inr (.inl ⟨_, _, x, y, _, by simp, by simp, b.rev, by omega⟩)
  | miss x b => exact .inr (.inr (.inl ⟨_, x, _, by simp, b.rev, by omega⟩))
  | extra y b => exact .inr (.inr (.inr ⟨_, y, _, by simp, b.rev, by omega⟩))

/-- The least cost: of a first item x ahead of a list for which f knows it, and a list. -/
def lcRow (c : Cs α) (x : α) (f : List α → Nat) : List α → Nat
  | [] => c.ms + f []
  | y :: h => min (c.sw x y + f h) (min (c.ms + f (y :: h)) (c.ex + lcRow c x f h))
/-- The least cost of an alignment of two lists. -/
def lc (c : Cs α) : List α → List α → Nat
  | [], h => h.length * c.ex
  | x :: s, h => lcRow c x (lc c s) h

theorem lc_nil (h : List α) : lc c [] h = h.length * c.ex := rfl
theorem lc_nil_r : ∀ s : List α, lc c s [] = s.length * c.ms
  | [] => by simp [lc]
  | x :: s => by rw [lc, lcRow, lc_nil_r s, List.length_cons, Nat.add_mul]; omega
theorem lc_cons (x y : α) (s h : List α) : lc c (x :: s) (y :: h) = min (c.sw x y + lc c s h) (min (c.ms + lc c s (y :: h)) (c.ex + lc c (x :: s) h)) := rfl
theorem lc_cons_nil (x : α) (s : List α) : lc c (x :: s) [] = c.ms + lc c s [] := rfl
theorem lc_nil_cons (y : α) (h : List α) : lc c [] (y :: h) = c.ex + lc c [] h := by rw [lc, lc, List.length_cons, Nat.add_mul]; omega
theorem lc_nil_nil : lc c ([] : List α) [] = 0 := by simp [lc]

theorem lc_al_nil : ∀ h : List α, Al c [] h (lc c [] h)
  | [] => by rw [lc_nil_nil]; exact Al.nil
  | y :: h => by rw [lc_nil_cons]; exact Al.extra y (lc_al_nil h)
theorem lc_al : ∀ s h : List α, Al c s h (lc c s h)
  | [], h => lc_al_nil h
  | x :: s, [] => by rw [lc_cons_nil]; exact Al.miss x (lc_al s [])
  | x :: s, y :: h => by
    rw [lc_cons]
    have h1 := Al.swap x y (lc_al s h)
    have h2 := Al.miss x (lc_al s (y :: h))
    have h3 := Al.extra y (lc_al (x :: s) h)
    rcases Nat.le_total (c.sw x y + lc c s h) (min (c.ms + lc c s (y :: h)) (c.ex + lc c (x :: s) h)) with g | g
    · rw [Nat.min_eq_left g]; exact h1
    · rw [Nat.min_eq_right g]
      rcases Nat.le_total (c.ms + lc c s (y :: h)) (c.ex + lc c (x :: s) h) with g | g
      · rw [Nat.min_eq_left g]; exact h2
      · rw [Nat.min_eq_right g]; exact h3
theorem lc_le_sw (x y : α) (s h : List α) : lc c (x :: s) (y :: h) ≤ c.sw x y + lc c s h := by rw [lc_cons]; omega
theorem lc_le_ms (x : α) (s : List α) : ∀ h : List α, lc c (x :: s) h ≤ c.ms + lc c s h
  | [] => by rw [lc_cons_nil]; omega
  | y :: h => by rw [lc_cons]; omega
theorem lc_le_ex (y : α) (h : List α) : ∀ s : List α, lc c s (y :: h) ≤ c.ex + lc c s h
  | [] => by rw [lc_nil_cons]; omega
  | x :: s => by rw [lc_cons]; omega
theorem lc_min {s h : List α} {n : Nat} (a : Al c s h n) : lc c s h ≤ n := by
  induction a with
  | nil => rw [lc_nil_nil]; omega
  | @swap x y s h _ _ ih => have := lc_le_sw (c := c) x y s h; omega
  | @miss x s h _ _ ih => have := lc_le_ms (c := c) x s h; omega
  | @extra y s h _ _ ih => have := lc_le_ex (c := c) y h s; omega
theorem lc_rev (s h : List α) : lc c s.reverse h.reverse = lc c s h := by
  have h1 := lc_min (lc_al (c := c) s h).rev
  have h2 := lc_min (lc_al (c := c) s.reverse h.reverse).rev
  simp only [List.reverse_reverse] at h2
  omega
theorem lc_append (s h s' h' : List α) : lc c (s ++ s') (h ++ h') ≤ lc c s h + lc c s' h' := lc_min ((lc_al s h).append (lc_al s' h'))
/-- The least cost at lists that both have a last item: the recurrence by which the table is filled. -/
theorem lc_snoc (s h : List α) (x y : α) :
    lc c (s ++ [x]) (h ++ [y]) = min (lc c s h + c.sw x y) (min (lc c s (h ++ [y]) + c.ms) (lc c (s ++ [x]) h + c.ex)) := by
  have e := lc_rev (c := c) (s ++ [x]) (h ++ [y])
  have e1 := lc_rev (c := c) s h
  have e2 := lc_rev (c := c) s (h ++ [y])
  have e3 := lc_rev (c := c) (s ++ [x]) h
  simp only [List.reverse_append, List.reverse_cons, List.reverse_nil, List.nil_append, List.singleton_append] at e e2 e3
  rw [lc_cons] at e
  rw [← e, e1, e2, e3]
  omega
theorem lc_take (s h : List α) (i k : Nat) (hi : i < s.length) (hk : k < h.length) :
    lc c (s.take (i + 1)) (h.take (k + 1)) = min (lc c (s.take i) (h.take k) + c.sw s[i] h[k]) (min (lc c (s.take i) (h.take (k + 1)) + c.ms) (lc c (s.take (i + 1)) (h.take k) + c.ex)) := by
  rw [List.take_succ_eq_append_getElem hi, List.take_succ_eq_append_getElem hk, lc_snoc]
theorem lc_drop (s h : List α) (i k : Nat) (hi : i < s.length) (hk : k < h.length) :
    lc c (s.drop i) (h.drop k) = min (c.sw s[i] h[k] + lc c (s.drop (i + 1)) (h.drop (k + 1))) (min (c.ms + lc c (s.drop (i + 1)) (h.drop k)) (c.ex + lc c (s.drop i) (h.drop (k + 1)))) := by
  rw [List.drop_eq_getElem_cons hi, List.drop_eq_getElem_cons hk, lc_cons]
theorem lc_drop_s (s h : List α) (i : Nat) (hi : i < s.length) (k : Nat) (hk : h.length ≤ k) : lc c (s.drop i) (h.drop k) = c.ms + lc c (s.drop (i + 1)) (h.drop k) := by
  rw [List.drop_eq_getElem_cons hi, List.drop_eq_nil_of_le hk, lc_cons_nil]
theorem lc_drop_h (s h : List α) (i k : Nat) (hi : s.length ≤ i) (hk : k < h.length) : lc c (s.drop i) (h.drop k) = c.ex + lc c (s.drop i) (h.drop (k + 1)) := by
  rw [List.drop_eq_getElem_cons hk, List.drop_eq_nil_of_le hi, lc_nil_cons]
theorem lc_le (s h : List α) (K : Nat) (hm : c.ms ≤ K) (he : c.ex ≤ K) : lc c s h ≤ (s.length + h.length) * K := by
  induction s with
  | nil => rw [lc_nil, List.length_nil, Nat.zero_add]; exact Nat.mul_le_mul_left _ he
  | cons x s ih =>
    have := lc_le_ms (c := c) x s h
    rw [List.length_cons, Nat.add_right_comm, Nat.add_mul]
    omega

/-- Heard by way of a third list. -/
theorem Al.trans (ht : ∀ x y z, c.sw x z ≤ c.sw x y + c.sw y z) {s t : List α} {n : Nat} (a : Al c s t n) : ∀ {u : List α} {m : Nat}, Al c t u m → ∃ k, k ≤ n + m ∧ Al c s u k := by
  have key : ∀ (s t : List α) (n : Nat), Al c s t n → ∀ (u : List α) (m : Nat), Al c t u m → ∃ k, k ≤ n + m ∧ Al c s u k := by
    intro s t n a
    induction a with
    | nil => intro u m b; exact ⟨m, by omega, b⟩
    | @miss x s h n _ ih => intro u m b; obtain ⟨k, hk, d⟩ := ih u m b; exact ⟨c.ms + k, by omega, Al.miss x d⟩
    | @swap x y s h n _ ih =>
      intro u m b
      generalize hq : y :: h = q at b
      induction b with
      | nil => cases hq
      | @swap y' z h' u m b _ =>
        obtain ⟨rfl, rfl⟩ := List.cons.inj hq
        obtain ⟨k, hk, d⟩ := ih u m b
        have := ht x y z
        exact ⟨c.sw x z + k, by omega, Al.swap x z d⟩
      | @miss y' h' u m b _ =>
        obtain ⟨rfl, rfl⟩ := List.cons.inj hq
        obtain ⟨k, hk, d⟩ := ih u m b
        exact ⟨c.ms + k, by omega, Al.miss x d⟩
      | @extra z t u m b ihb =>
        obtain ⟨k, hk, d⟩ := ihb hq
        exact ⟨c.ex + k, by omega, Al.extra z d⟩
    | @extra y s h n _ ih =>
      intro u m b
      generalize hq : y :: h = q at b
      induction b with
      | nil => cases hq
      | @swap y' z h' u m b _ =>
        obtain ⟨rfl, rfl⟩ := List.cons.inj hq
        obtain ⟨k, hk, d⟩ := ih u m b
        exact ⟨c.ex + k, by omega, Al.extra z d⟩
      | @miss y' h' u m b _ =>
        obtain ⟨rfl, rfl⟩ := List.cons.inj hq
        obtain ⟨k, hk, d⟩ := ih u m b
        exact ⟨k, by omega, d⟩
      | @extra z t u m b ihb =>
        obtain ⟨k, hk, d⟩ := ihb hq
        exact ⟨c.ex + k, by omega, Al.extra z d⟩
  exact fun {u m} b => key s t n a u m b
theorem lc_tri (ht : ∀ x y z, c.sw x z ≤ c.sw x y + c.sw y z) (s t u : List α) : lc c s u ≤ lc c s t + lc c t u := by
  obtain ⟨k, hk, d⟩ := (lc_al s t).trans ht (lc_al t u)
  have := lc_min d
  omega
theorem Al.symm (hs : ∀ x y, c.sw x y = c.sw y x) (he : c.ms = c.ex) {s h : List α} {n : Nat} (a : Al c s h n) : Al c h s n := by
  induction a with
  | nil => exact Al.nil
  | swap x y _ ih => rw [hs]; exact Al.swap y x ih
  | miss x _ ih => rw [he]; exact Al.extra x ih
  | extra y _ ih => rw [← he]; exact Al.miss y ih
theorem lc_symm (hs : ∀ x y, c.sw x y = c.sw y x) (he : c.ms = c.ex) (s h : List α) : lc c s h = lc c h s := by
  have h1 := lc_min (lc_al (c := c) s h |>.symm hs he)
  have h2 := lc_min (lc_al (c := c) h s |>.symm hs he)
  omega
theorem Al.zero (hp : ∀ x y, c.sw x y = 0 → x = y) (hm : 0 < c.ms) (he : 0 < c.ex) {s h : List α} {n : Nat} (a : Al c s h n) : n = 0 → s = h := by
  induction a with
  | nil => intro _; rfl
  | swap x y _ ih => intro h0; rw [hp x y (by omega), ih (by omega)]
  | miss x _ ih => intro h0; omega
  | extra y _ ih => intro h0; omega
theorem lc_self (h0 : ∀ x, c.sw x x = 0) : ∀ s : List α, lc c s s = 0
  | [] => lc_nil_nil
  | x :: s => by have := lc_le_sw (c := c) x x s s; rw [h0, lc_self h0 s] at this; omega
theorem lc_zero (h0 : ∀ x, c.sw x x = 0) (hp : ∀ x y, c.sw x y = 0 → x = y) (hm : 0 < c.ms) (he : 0 < c.ex) (s h : List α) : lc c s h = 0 ↔ s = h :=
  ⟨fun e => (lc_al s h).zero hp hm he e, fun e => e ▸ lc_self h0 s⟩

end Go.Proofs.YthodoabppkeidaaGreatDoor
