/-
  Alignments and tables of anyone, plain: what an alignment that is accepted costs, and what a table that is accepted proves. No condition but those that each theorem names.
-/
import Derived.Test.YthodoabppkeidaaDoorCpAlm
namespace Go.Proofs.YthodoabppkeidaaDoor
section
variable {c : Cs Nat} {s h : List Nat}
/-- A step of anyone: its cost is whatever number. -/
abbrev StI := Int × Int × Int
def stI (t : Stp) : StI := (t.1, t.2.1, (t.2.2 : Int))
def aftI (p : Nat × Nat) (t : StI) : Nat × Nat := (if t.1 = -1 then p.1 else p.1 + 1, if t.2.1 = -1 then p.2 else p.2 + 1)
theorem aftI_stI (p : Nat × Nat) (t : Stp) : aftI p (stI t) = aftL p t := rfl
def eqSt (x y : StI) : Bool := x.1 == y.1 && (x.2.1 == y.2.1 && x.2.2 == y.2.2)
theorem eqSt_iff {x y : StI} : eqSt x y = true ↔ x = y := by
  obtain ⟨a, b, d⟩ := x
  obtain ⟨a', b', d'⟩ := y
  simp [eqSt]
/-- Whether a step may come at a place. -/
def hasI (c : Cs Nat) (s h : List Nat) (p : Nat × Nat) (t : StI) : Bool := ((stpsL c s h p).map stI).any fun y => eqSt t y
theorem hasI_iff {p : Nat × Nat} {t : StI} : hasI c s h p t = true ↔ ∃ u, u ∈ stpsL c s h p ∧ t = stI u := by
  rw [hasI, List.any_eq_true]
  constructor
  · rintro ⟨y, hy, he⟩
    obtain ⟨u, hu, rfl⟩ := List.mem_map.1 hy
    exact ⟨u, hu, eqSt_iff.1 he⟩
  · rintro ⟨u, hu, rfl⟩
    exact ⟨_, List.mem_map.2 ⟨u, hu, rfl⟩, eqSt_iff.2 rfl⟩
/-- What the rest of an alignment leads to: the cost at the end of both texts, or nothing. -/
def ckG (c : Cs Nat) (s h : List Nat) : Nat × Nat → Nat → List StI → Option Nat
  | p, n, [] => if p = (s.length, h.length) then some n else none
  | p, n, t :: l => if hasI c s h p t = true then ckG c s h (aftI p t) (n + t.2.2.toNat) l else none
theorem ckG_some : ∀ {l : List StI} {p : Nat × Nat} {n k : Nat}, ckG c s h p n l = some k → ∃ l', Pth c s h p l' (s.length, h.length) ∧ k = n + sumL l'
  | [], p, n, k, e => by
    rw [ckG] at e
    split at e
    · next hp =>
      obtain rfl := Option.some.inj e
      subst hp
      exact ⟨[], .nil _, rfl⟩
    · cases e
  | t :: l, p, n, k, e => by
    rw [ckG] at e
    split at e
    · next hp =>
      obtain ⟨u, hu, rfl⟩ := hasI_iff.1 hp
      obtain ⟨l', h1, h2⟩ := ckG_some e
      refine ⟨u :: l', .cons hu h1, ?_⟩
      rw [sumL_cons, h2]
      show n + (Int.toNat (u.2.2 : Int)) + _ = _
      rw [Int.toNat_natCast]
      omega
    · cases e
theorem ckG_path {p q : Nat × Nat} {l : List Stp} (a : Pth c s h p l q) : q = (s.length, h.length) → ∀ n, ckG c s h p n (l.map stI) = some (n + sumL l) := by
  induction a with
  | nil p =>
    intro e n
    subst e
    rw [List.map_nil, ckG, if_pos rfl]
    rfl
  | @cons p q t l ht _ ih =>
    intro e n
    rw [List.map_cons, ckG, if_pos (hasI_iff.2 ⟨t, ht, rfl⟩), aftI_stI, ih e]
    show some (n + (Int.toNat (t.2.2 : Int)) + _) = _
    rw [Int.toNat_natCast, sumL_cons]
    congr 1
    omega
/-- An alignment that is accepted costs no less than the least cost. -/
theorem ckG_least {l : List StI} {k : Nat} (e : ckG c s h (0, 0) 0 l = some k) : lc c s h ≤ k := by
  obtain ⟨l', h1, h2⟩ := ckG_some e
  have := h1.le
  omega
theorem ckG_own : ckG c s h (0, 0) 0 ((alL c s h).map stI) = some (lc c s h) := by
  obtain ⟨h1, h2⟩ := alL_path (c := c) (s := s) (h := h)
  rw [ckG_path h1 rfl, h2, Nat.zero_add]
/-- Every element is of a table that anyone made. -/
def tAt (rs : List (List Int)) (p : Nat × Nat) : Int := (rs.getD p.1 []).getD p.2 0
/-- A table has an element for each place, none of which is too great or too small. -/
def Fits (s h : List Nat) (rs : List (List Int)) : Prop := rs.length = s.length + 1 ∧ ∀ r ∈ rs, r.length = h.length + 1 ∧ ∀ n ∈ r, -1000000 ≤ n ∧ n ≤ 1000000
/-- No step at a place leads to a greater element. -/
def PrvAt (c : Cs Nat) (s h : List Nat) (rs : List (List Int)) (p : Nat × Nat) : Prop := ∀ t ∈ stpsL c s h p, tAt rs (aftL p t) ≤ tAt rs p + (t.2.2 : Int)
def Prv (c : Cs Nat) (s h : List Nat) (rs : List (List Int)) : Prop := ∀ i k, i ≤ s.length → k ≤ h.length → PrvAt c s h rs (i, k)
theorem prv_path {rs : List (List Int)} (hp : Prv c s h rs) {p q : Nat × Nat} {l : List Stp} (a : Pth c s h p l q) : InL s h p → tAt rs q ≤ tAt rs p + (sumL l : Int) := by
  induction a with
  | nil p => intro _; rw [sumL_nil]; omega
  | @cons p q t l ht _ ih =>
    intro hin
    have h1 := hp p.1 p.2 hin.1 hin.2 t ht
    have h2 := ih (stps_in ht hin).1
    rw [sumL_cons]
    have e : ((p.1, p.2) : Nat × Nat) = p := rfl
    rw [e] at h1
    omega
/-- A table that is accepted proves no more than the least cost. -/
theorem prv_least {rs : List (List Int)} (hp : Prv c s h rs) (h0 : tAt rs (0, 0) = 0) : tAt rs (s.length, h.length) ≤ (lc c s h : Int) := by
  obtain ⟨h1, h2⟩ := alL_path (c := c) (s := s) (h := h)
  have h3 := prv_path hp h1 ⟨Nat.zero_le _, Nat.zero_le _⟩
  rw [h0, h2] at h3
  omega
/-- The rows of the table of least costs. -/
def tabI (c : Cs Nat) (s h : List Nat) : List (List Int) := (List.range (s.length + 1)).map fun i => (List.range (h.length + 1)).map fun k => ((lc c (s.take i) (h.take k) : Nat) : Int)
theorem tabI_at {i k : Nat} (hi : i ≤ s.length) (hk : k ≤ h.length) : tAt (tabI c s h) (i, k) = (lc c (s.take i) (h.take k) : Nat) := by
  unfold tAt tabI
  simp only [List.getD_eq_getElem?_getD, List.getElem?_map, List.getElem?_range (show i < s.length + 1 by omega), Option.map_some, Option.getD_some, List.getElem?_range (show k < h.length + 1 by omega)]
theorem lc_one_ms (x : Nat) : lc c [x] [] = c.ms := by rw [lc_cons_nil, lc_nil_nil]; omega
theorem lc_one_ex (y : Nat) : lc c [] [y] = c.ex := by rw [lc_nil_cons, lc_nil_nil]; omega
theorem tabI_prv : Prv c s h (tabI c s h) := by
  intro i k hi hk t ht
  rw [tabI_at hi hk]
  have e1 : ∀ (l : List Nat) {j : Nat} (hj : j < l.length), l.take (j + 1) = l.take j ++ [l[j]] := fun l j hj => (List.take_append_getElem hj).symm
  rcases stps_cases ht with ⟨a, b, e, e2⟩ | ⟨a, e, e2⟩ | ⟨b, e, e2⟩
  · simp only at a b
    rw [e2, tabI_at (by omega) (by omega), e1 s a, e1 h b, e]
    have := lc_append (c := c) (s.take i) (h.take k) [s[i]] [h[k]]
    have h2 := lc_le_sw (c := c) s[i] h[k] [] []
    rw [lc_nil_nil] at h2
    have h3 : c.sw (s.getD i 0) (h.getD k 0) = c.sw s[i] h[k] := by rw [getD_at s a, getD_at h b]
    simp only [h3]
    omega
  · simp only at a
    rw [e2, tabI_at (by omega) hk, e1 s a, e]
    have := lc_append (c := c) (s.take i) (h.take k) [s[i]] []
    rw [List.append_nil, lc_one_ms] at this
    simp only
    omega
  · simp only at b
    rw [e2, tabI_at hi (by omega), e1 h b, e]
    have := lc_append (c := c) (s.take i) (h.take k) [] [h[k]]
    rw [List.append_nil, lc_one_ex] at this
    simp only
    omega
theorem tabI_fits (hb : ∀ i k, lc c (s.take i) (h.take k) ≤ 1000000) : Fits s h (tabI c s h) := by
  refine ⟨by simp [tabI], fun r hr => ?_⟩
  obtain ⟨i, hi, rfl⟩ := List.mem_map.1 hr
  refine ⟨by simp, fun n hn => ?_⟩
  obtain ⟨k, hk, rfl⟩ := List.mem_map.1 hn
  have := hb i k
  omega
theorem tabI_end : tAt (tabI c s h) (s.length, h.length) = (lc c s h : Nat) := by
  rw [tabI_at (Nat.le_refl _) (Nat.le_refl _), List.take_length, List.take_length]
theorem tabI_zero : tAt (tabI c s h) (0, 0) = 0 := by
  rw [tabI_at (Nat.zero_le _) (Nat.zero_le _), List.take_zero, List.take_zero, lc_nil_nil]
  rfl
end
end Go.Proofs.YthodoabppkeidaaDoor
