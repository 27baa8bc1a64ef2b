/-
  Numbers that can stay, plain: the longest chain behind a place, the first of the longest ones, the rising list, and that no rising list keeps more. No condition but those that each theorem names.
-/
import Derived.Test.YthodoabppkeidaaGreatDoorCpAl
namespace Go.Proofs.YthodoabppkeidaaGreatDoor
/-- Whether both numbers can stay: between them there is room. -/
def okS (a : Nat → Int) (i k : Nat) : Bool := decide ((k : Int) - i ≤ a k - a i)
theorem okS_iff {a : Nat → Int} {i k : Nat} : okS a i k = true ↔ (k : Int) - i ≤ a k - a i := by simp [okS]
theorem okS_trans {a : Nat → Int} {i j k : Nat} (h1 : okS a i j = true) (h2 : okS a j k = true) : okS a i k = true := by
  rw [okS_iff] at *; omega
/-- One candidate more. -/
def bStep (a : Nat → Int) (last : Nat) (sz : Nat → Nat) (i : Nat) (b : Nat × Nat) (k : Nat) : Nat × Nat :=
  if okS a i k && okS a k last then (if b.1 < sz k + 1 then (sz k + 1, k) else b) else b
/-- The best of the candidates i + 1 to i + j. -/
def bGo (a : Nat → Int) (last : Nat) (sz : Nat → Nat) (i : Nat) : Nat → Nat × Nat
  | 0 => (0, 0)
  | j + 1 => bStep a last sz i (bGo a last sz i j) (i + 1 + j)
def szF (a : Nat → Int) (last : Nat) : Nat → Nat → Nat × Nat
  | 0, _ => (0, 0)
  | n + 1, i => bGo a last (fun k => (szF a last n k).1) i (last - i)
/-- How many can stay behind a place, the end among them, and the first of them. -/
def szL (a : Nat → Int) (last i : Nat) : Nat × Nat := szF a last (last - i) i
theorem bGo_congr {a : Nat → Int} {last i : Nat} {f g : Nat → Nat} : ∀ {j : Nat}, (∀ k, i < k → k ≤ i + j → f k = g k) → bGo a last f i j = bGo a last g i j
  | 0, _ => rfl
  | j + 1, h => by rw [bGo, bGo, bGo_congr (fun k h1 h2 => h k h1 (by omega)), bStep, bStep, h (i + 1 + j) (by omega) (by omega)]
theorem szF_eq {a : Nat → Int} {last : Nat} : ∀ {n i : Nat}, last - i ≤ n → szF a last n i = szL a last i
  | 0, i, h => by rw [szL, show last - i = 0 by omega]
  | n + 1, i, h => by
    cases hd : last - i with
    | zero => rw [szL, hd, szF, szF, hd, bGo]
    | succ d =>
      rw [szL, hd, szF, szF, hd]
      exact bGo_congr fun k h1 h2 => by rw [szF_eq (n := n) (by omega), szF_eq (n := d) (by omega)]
termination_by n => n
/-- The size as a recurrence. -/
theorem szL_eq {a : Nat → Int} {last i : Nat} : szL a last i = bGo a last (fun k => (szL a last k).1) i (last - i) := by
  rw [← szF_eq (n := last - i + 1) (by omega), szF]
  exact bGo_congr fun k h1 h2 => by rw [szF_eq (by omega)]
theorem szL_last {a : Nat → Int} {last : Nat} : szL a last last = (0, 0) := by rw [szL, Nat.sub_self, szF]
theorem bGo_spec {a : Nat → Int} {last i : Nat} {sz : Nat → Nat} : ∀ {j : Nat}, (bGo a last sz i j = (0, 0) ∧ ∀ k, i < k → k ≤ i + j → (okS a i k && okS a k last) = false) ∨
    (i < (bGo a last sz i j).2 ∧ (bGo a last sz i j).2 ≤ i + j ∧ (okS a i (bGo a last sz i j).2 && okS a (bGo a last sz i j).2 last) = true ∧ (bGo a last sz i j).1 = sz (bGo a last sz i j).2 + 1 ∧
      (∀ k, i < k → k ≤ i + j → (okS a i k && okS a k last) = true → sz k + 1 ≤ (bGo a last sz i j).1) ∧ ∀ k, i < k → k < (bGo a last sz i j).2 → (okS a i k && okS a k last) = true → sz k + 1 < (bGo a last sz i j).1)
  | 0 => .inl ⟨rfl, fun k h1 h2 => by omega⟩
  | j + 1 => by
    rw [bGo, bStep]
    by_cases ho : (okS a i (i + 1 + j) && okS a (i + 1 + j) last) = true
    · rw [if_pos ho]
      rcases bGo_spec (a := a) (last := last) (i := i) (sz := sz) (j := j) with ⟨h1, h2⟩ | ⟨h1, h2, h3, h4, h5, h6⟩
      · rw [h1, if_pos (by simp)]
        refine .inr ⟨by show i < i + 1 + j; omega, by show i + 1 + j ≤ _; omega, ho, rfl, fun k a1 a2 a3 => ?_, fun k a1 a2 a3 => ?_⟩
        · by_cases e : k = i + 1 + j
          · rw [e]; exact Nat.le_refl _
          · rw [h2 k a1 (by omega)] at a3; cases a3
        · have a2' : k < i + 1 + j := a2
          rw [h2 k a1 (by omega)] at a3; cases a3
      · by_cases hb : (bGo a last sz i j).1 < sz (i + 1 + j) + 1
        · rw [if_pos hb]
          refine .inr ⟨by show i < i + 1 + j; omega, by show i + 1 + j ≤ _; omega, ho, rfl, fun k a1 a2 a3 => ?_, fun k a1 a2 a3 => ?_⟩
          · by_cases e : k = i + 1 + j
            · rw [e]; exact Nat.le_refl _
            · have := h5 k a1 (by omega) a3
              show _ ≤ sz (i + 1 + j) + 1
              omega
          · have a2' : k < i + 1 + j := a2
            have := h5 k a1 (by omega) a3
            show _ < sz (i + 1 + j) + 1
            omega
        · rw [if_neg hb]
          refine .inr ⟨h1, by omega, h3, h4, fun k a1 a2 a3 => ?_, h6⟩
          by_cases e : k = i + 1 + j
          · rw [e]; omega
          · exact h5 k a1 (by omega) a3
    · rw [if_neg ho]
      rcases bGo_spec (a := a) (last := last) (i := i) (sz := sz) (j := j) with ⟨h1, h2⟩ | ⟨h1, h2, h3, h4, h5, h6⟩
      · refine .inl ⟨h1, fun k a1 a2 => ?_⟩
        by_cases e : k = i + 1 + j
        · rw [e]; simpa using ho
        · exact h2 k a1 (by omega)
      · refine .inr ⟨h1, by omega, h3, h4, fun k a1 a2 a3 => ?_, h6⟩
        by_cases e : k = i + 1 + j
        · exact absurd (e ▸ a3) ho
        · exact h5 k a1 (by omega) a3
/-- Where the end can be reached, the best candidate is there. -/
structure NxAt (a : Nat → Int) (last i : Nat) : Prop where
  lt : i < (szL a last i).2
  le : (szL a last i).2 ≤ last
  ok : okS a i (szL a last i).2 = true
  on : okS a (szL a last i).2 last = true
  size : (szL a last i).1 = (szL a last (szL a last i).2).1 + 1
  most : ∀ k, i < k → k ≤ last → okS a i k = true → okS a k last = true → (szL a last k).1 + 1 ≤ (szL a last i).1
  first : ∀ k, i < k → k < (szL a last i).2 → okS a i k = true → okS a k last = true → (szL a last k).1 + 1 < (szL a last i).1
theorem okS_self (a : Nat → Int) (i : Nat) : okS a i i = true := by rw [okS_iff]; omega
theorem nx_at {a : Nat → Int} {last i : Nat} (hi : i < last) (ho : okS a i last = true) : NxAt a last i := by
  have h := bGo_spec (a := a) (last := last) (i := i) (sz := fun k => (szL a last k).1) (j := last - i)
  rw [← szL_eq] at h
  rcases h with ⟨h1, h2⟩ | ⟨h1, h2, h3, h4, h5, h6⟩
  · have := h2 last hi (by omega)
    rw [ho, okS_self] at this
    cases this
  · rw [Bool.and_eq_true] at h3
    exact ⟨h1, by omega, h3.1, h3.2, h4, fun k a1 a2 a3 a4 => h5 k a1 (by omega) (by rw [a3, a4]; rfl), fun k a1 a2 a3 a4 => h6 k a1 a2 (by rw [a3, a4]; rfl)⟩
/-- A chain behind a place. -/
inductive Chn (a : Nat → Int) (last : Nat) : Nat → List Nat → Prop
  | nil {i : Nat} : i < last → okS a i last = true → Chn a last i []
  | cons {i k : Nat} {l : List Nat} : i < k → okS a i k = true → Chn a last k l → Chn a last i (k :: l)
theorem Chn.end' {a : Nat → Int} {last i : Nat} {l : List Nat} (h : Chn a last i l) : i < last ∧ okS a i last = true := by
  induction h with
  | nil h1 h2 => exact ⟨h1, h2⟩
  | cons h1 h2 _ ih => exact ⟨by omega, okS_trans h2 ih.2⟩
/-- No chain is longer than the size. -/
theorem Chn.le {a : Nat → Int} {last i : Nat} {l : List Nat} (h : Chn a last i l) : l.length + 1 ≤ (szL a last i).1 := by
  induction h with
  | nil h1 h2 =>
    have := (nx_at h1 h2).most last h1 (Nat.le_refl _) h2 (okS_self _ _)
    simp only [List.length_nil]
    omega
  | @cons i k l h1 h2 h3 ih =>
    have h4 := h3.end'
    have := (nx_at (show i < last by omega) (okS_trans h2 h4.2)).most k h1 (by omega) h2 h4.2
    simp only [List.length_cons]
    omega
theorem Chn.mem {a : Nat → Int} {last i : Nat} {l : List Nat} (h : Chn a last i l) : ∀ x ∈ l, i < x ∧ x < last ∧ okS a i x = true ∧ okS a x last = true := by
  induction h with
  | nil => intro x hx; cases hx
  | cons h1 h2 h3 ih =>
    intro x hx
    rcases List.mem_cons.1 hx with rfl | hx
    · exact ⟨h1, h3.end'.1, h2, h3.end'.2⟩
    · obtain ⟨a1, a2, a3, a4⟩ := ih x hx
      exact ⟨by omega, a2, okS_trans h2 a3, a4⟩
theorem Chn.pair {a : Nat → Int} {last i : Nat} {l : List Nat} (h : Chn a last i l) : l.Pairwise fun x y => x < y ∧ okS a x y = true := by
  induction h with
  | nil => exact List.Pairwise.nil
  | cons h1 h2 h3 ih => exact List.Pairwise.cons (fun y hy => ⟨(h3.mem y hy).1, (h3.mem y hy).2.2.1⟩) ih
theorem Chn.of {a : Nat → Int} {last : Nat} : ∀ {l : List Nat} {i : Nat}, i < last → okS a i last = true → (∀ x ∈ l, i < x ∧ x < last ∧ okS a i x = true ∧ okS a x last = true) → (l.Pairwise fun x y => x < y ∧ okS a x y = true) → Chn a last i l
  | [], i, h1, h2, _, _ => Chn.nil h1 h2
  | k :: l, i, h1, h2, h3, h4 => by
    cases h4 with
    | cons h5 h6 =>
      obtain ⟨b1, b2, b3, b4⟩ := h3 k (List.mem_cons_self ..)
      exact Chn.cons b1 b3 (Chn.of b2 b4 (fun x hx => ⟨(h5 x hx).1, (h3 x (List.mem_cons_of_mem _ hx)).2.1, (h5 x hx).2, (h3 x (List.mem_cons_of_mem _ hx)).2.2.2⟩) h6)
/-- The places that stay from a place on. -/
def kpF (a : Nat → Int) (last : Nat) : Nat → Nat → List Nat
  | 0, _ => []
  | n + 1, i => if i = last then [] else i :: kpF a last n (szL a last i).2
theorem kpF_eq {a : Nat → Int} {last : Nat} : ∀ {n m i : Nat}, i ≤ last → okS a i last = true → last - i ≤ n → last - i ≤ m → kpF a last n i = kpF a last m i
  | 0, m, i, h0, ho, h1, h2 => by
    obtain rfl : i = last := by omega
    cases m <;> simp [kpF]
  | n + 1, 0, i, h0, ho, h1, h2 => by
    obtain rfl : i = last := by omega
    simp [kpF]
  | n + 1, m + 1, i, h0, ho, h1, h2 => by
    rw [kpF, kpF]
    by_cases e : i = last
    · rw [if_pos e, if_pos e]
    · have hx := nx_at (show i < last by omega) ho
      have := hx.lt
      rw [if_neg e, if_neg e, kpF_eq (n := n) (m := m) hx.le hx.on (by omega) (by omega)]
theorem kpF_len {a : Nat → Int} {last : Nat} : ∀ {n i : Nat}, i ≤ last → okS a i last = true → last - i ≤ n → (kpF a last n i).length = (szL a last i).1
  | 0, i, h0, ho, h1 => by
    obtain rfl : i = last := by omega
    rw [szL_last]; rfl
  | n + 1, i, h0, ho, h1 => by
    rw [kpF]
    by_cases e : i = last
    · rw [if_pos e, e, szL_last]; rfl
    · have hx := nx_at (show i < last by omega) ho
      have := hx.lt
      rw [if_neg e, List.length_cons, kpF_len hx.le hx.on (by omega), ← hx.size]
theorem kpF_chn {a : Nat → Int} {last : Nat} : ∀ {n i p : Nat}, i ≤ last → okS a i last = true → last - i ≤ n → p < i → okS a p i = true → Chn a last p (kpF a last n i)
  | 0, i, p, h0, ho, h1, h2, h3 => by
    obtain rfl : i = last := by omega
    exact Chn.nil h2 h3
  | n + 1, i, p, h0, ho, h1, h2, h3 => by
    rw [kpF]
    by_cases e : i = last
    · rw [if_pos e]
      exact Chn.nil (by omega) (okS_trans h3 ho)
    · have hx := nx_at (show i < last by omega) ho
      have := hx.lt
      rw [if_neg e]
      exact Chn.cons h2 h3 (kpF_chn hx.le hx.on (by omega) hx.lt hx.ok)
/-- All places that stay. -/
def keptL (a : Nat → Int) (last : Nat) : List Nat := kpF a last last (szL a last 0).2
theorem kept_chn {a : Nat → Int} {last : Nat} (h0 : 0 < last) (ho : okS a 0 last = true) : Chn a last 0 (keptL a last) := by
  have hx := nx_at h0 ho
  exact kpF_chn hx.le hx.on (by omega) hx.lt hx.ok
theorem kept_len {a : Nat → Int} {last : Nat} (h0 : 0 < last) (ho : okS a 0 last = true) : (keptL a last).length + 1 = (szL a last 0).1 := by
  have hx := nx_at h0 ho
  rw [keptL, kpF_len hx.le hx.on (by omega), ← hx.size]
/-- No chain is longer. -/
theorem kept_most {a : Nat → Int} {last : Nat} (h0 : 0 < last) (ho : okS a 0 last = true) {l : List Nat} (h : Chn a last 0 l) : l.length ≤ (keptL a last).length := by
  have h1 := h.le
  have h2 := kept_len h0 ho
  omega
/-- The numbers between two marks. -/
def mkA (l : List Int) (i : Nat) : Int := (0 :: (l ++ [100000])).getD i 0
theorem mkA_zero (l : List Int) : mkA l 0 = 0 := rfl
theorem mkA_succ (l : List Int) {j : Nat} (hj : j < l.length) : mkA l (j + 1) = l[j] := by
  rw [mkA, List.getD_cons_succ, List.getD_eq_getElem?_getD, List.getElem?_append_left hj, List.getElem?_eq_getElem hj]; rfl
theorem mkA_last (l : List Int) : mkA l (l.length + 1) = 100000 := by
  rw [mkA, List.getD_cons_succ, List.getD_eq_getElem?_getD, List.getElem?_concat_length]; rfl
theorem ok_ends (l : List Int) (hl : l.length ≤ 1000) : okS (mkA l) 0 (l.length + 1) = true := by
  rw [okS_iff, mkA_zero, mkA_last]; omega
/-- The kept places (counted from 1, behind the mark) of a list. -/
def kept (l : List Int) : List Nat := keptL (mkA l) (l.length + 1)
theorem kept_is {l : List Int} (hl : l.length ≤ 1000) : Chn (mkA l) (l.length + 1) 0 (kept l) := kept_chn (by omega) (ok_ends l hl)
/-- What stays, and 0 where nothing does. -/
def stayA (l : List Int) (j : Nat) : Int := if j + 1 ∈ kept l then l.getD j 0 else 0
/-- The rising list, behind the mark. -/
def rzA (l : List Int) : Nat → Int
  | 0 => 0
  | j + 1 => if stayA l j = 0 then rzA l j + 1 else stayA l j
/-- The rising list of the fewest changes. -/
def riseL (l : List Int) : List Int := (List.range l.length).map fun j => rzA l (j + 1)
theorem riseL_len (l : List Int) : (riseL l).length = l.length := by simp [riseL]
theorem riseL_at (l : List Int) {j : Nat} (hj : j < l.length) : (riseL l)[j]? = some (rzA l (j + 1)) := by
  rw [riseL, List.getElem?_map, List.getElem?_range hj]; rfl
theorem kept_mem {l : List Int} (hl : l.length ≤ 1000) {j : Nat} (h : j + 1 ∈ kept l) : j < l.length ∧ (j : Int) + 1 ≤ l.getD j 0 ∧ stayA l j = l.getD j 0 ∧ stayA l j ≠ 0 := by
  obtain ⟨h1, h2, h3, _⟩ := (kept_is hl).mem _ h
  have hj : j < l.length := by omega
  rw [okS_iff, mkA_zero, mkA_succ l hj] at h3
  have e : l.getD j 0 = l[j] := by rw [List.getD_eq_getElem?_getD, List.getElem?_eq_getElem hj]; rfl
  have h4 : (j : Int) + 1 ≤ l.getD j 0 := by rw [e]; push_cast at h3; omega
  have h5 : stayA l j = l.getD j 0 := if_pos h
  exact ⟨hj, h4, h5, by rw [h5]; omega⟩
theorem stay_zero {l : List Int} (hl : l.length ≤ 1000) {j : Nat} : stayA l j = 0 ↔ j + 1 ∉ kept l := by
  constructor
  · intro h h2
    exact (kept_mem hl h2).2.2.2 h
  · intro h
    exact if_neg h
/-- Where the last number that stays lies ahead of a place. -/
theorem rz_from {l : List Int} (hl : l.length ≤ 1000) : ∀ j : Nat, j ≤ l.length → ∃ i, i ≤ j ∧ (i = 0 ∨ i ∈ kept l) ∧ rzA l j = mkA l i + ((j : Int) - i)
  | 0, _ => ⟨0, Nat.le_refl _, .inl rfl, by simp [rzA, mkA_zero]⟩
  | j + 1, hj => by
    by_cases hk : j + 1 ∈ kept l
    · obtain ⟨h1, h2, h3, h4⟩ := kept_mem hl hk
      refine ⟨j + 1, Nat.le_refl _, .inr hk, ?_⟩
      rw [rzA, if_neg h4, h3, mkA_succ l h1, List.getD_eq_getElem?_getD, List.getElem?_eq_getElem h1]
      simp
    · obtain ⟨i, h1, h2, h3⟩ := rz_from hl j (by omega)
      refine ⟨i, by omega, h2, ?_⟩
      rw [rzA, if_pos ((stay_zero hl).2 hk), h3]
      push_cast
      omega
theorem kept_ok {l : List Int} (hl : l.length ≤ 1000) {i k : Nat} (h1 : i = 0 ∨ i ∈ kept l) (h2 : k ∈ kept l ∨ k = l.length + 1) (hlt : i < k) : okS (mkA l) i k = true := by
  have hc := kept_is hl
  rcases h1 with rfl | h1
  · rcases h2 with h2 | rfl
    · exact (hc.mem k h2).2.2.1
    · exact ok_ends l hl
  · rcases h2 with h2 | rfl
    · have hp := hc.pair
      obtain ⟨x, hx, ex⟩ := List.getElem_of_mem h1
      obtain ⟨y, hy, ey⟩ := List.getElem_of_mem h2
      rcases Nat.lt_trichotomy x y with h3 | h3 | h3
      · have := (List.pairwise_iff_getElem.1 hp x y hx hy h3).2
        rwa [ex, ey] at this
      · subst h3; omega
      · have := (List.pairwise_iff_getElem.1 hp y x hy hx h3).1
        omega
    · exact (hc.mem i h1).2.2.2
/-- The list rises, and leaves room up to the end. -/
theorem rz_step {l : List Int} (hl : l.length ≤ 1000) {j : Nat} (hj : j < l.length) : rzA l j + 1 ≤ rzA l (j + 1) ∧ rzA l (j + 1) ≤ 99999 := by
  constructor
  · obtain ⟨i, h1, h2, h3⟩ := rz_from hl j (by omega)
    by_cases hk : j + 1 ∈ kept l
    · obtain ⟨a1, a2, a3, a4⟩ := kept_mem hl hk
      have h4 := kept_ok hl h2 (.inl hk) (by omega)
      rw [okS_iff, mkA_succ l a1] at h4
      rw [rzA, if_neg a4, a3, h3, List.getD_eq_getElem?_getD, List.getElem?_eq_getElem a1]
      simp only [Option.getD_some]
      push_cast at h4
      omega
    · rw [rzA, if_pos ((stay_zero hl).2 hk)]
      omega
  · obtain ⟨i, h1, h2, h3⟩ := rz_from hl (j + 1) (by omega)
    have h4 := kept_ok hl h2 (.inr rfl) (by omega)
    rw [okS_iff, mkA_last] at h4
    rw [h3]
    push_cast at h4 ⊢
    omega
/-- A list whose numbers rise from 1 to 99999. -/
def Rsg (b : Int) : List Int → Prop
  | [] => True
  | n :: l => (b + 1 ≤ n ∧ n ≤ 99999) ∧ Rsg n l
theorem rsg_of {f : Nat → Int} : ∀ (n k : Nat) (b : Int), b = f k → (∀ j, k ≤ j → j < k + n → f j + 1 ≤ f (j + 1) ∧ f (j + 1) ≤ 99999) → Rsg b ((List.range' k n).map fun j => f (j + 1))
  | 0, _, _, _, _ => by simp [Rsg]
  | n + 1, k, b, hb, h => by
    rw [List.range'_succ, List.map_cons, Rsg]
    have h1 := h k (Nat.le_refl _) (by omega)
    refine ⟨by rw [hb]; exact h1, rsg_of n (k + 1) _ rfl fun j a b => h j (by omega) (by omega)⟩
theorem rise_rsg {l : List Int} (hl : l.length ≤ 1000) : Rsg 0 (riseL l) := by
  rw [riseL, List.range_eq_range']
  exact rsg_of l.length 0 0 rfl fun j _ h => rz_step hl (by omega)
theorem rsg_get {b : Int} {l : List Int} (h : Rsg b l) : ∀ {j k : Nat} (hk : k < l.length), (j ≤ k) → b + 1 + j ≤ l[j]! ∧ l[j]! + ((k : Int) - j) ≤ l[k] ∧ l[k] + ((l.length : Int) - 1 - k) ≤ 99999 := by
  induction l generalizing b with
  | nil => intro j k hk; simp at hk
  | cons n l ih =>
    intro j k hk hjk
    obtain ⟨⟨h1, h2⟩, h3⟩ := h
    have hlast : ∀ (hk : 0 < l.length), n + 1 ≤ l[0]! := fun hk => by
      cases l with
      | nil => simp at hk
      | cons m l => exact h3.1.1
    cases k with
    | zero =>
      obtain rfl : j = 0 := by omega
      rcases Nat.eq_zero_or_pos l.length with h0 | h0
      · simp [h0]; omega
      · obtain ⟨a1, a2, a3⟩ := ih h3 (j := 0) (k := l.length - 1) (by omega) (by omega)
        simp only [List.length_cons, List.getElem!_cons_zero, List.getElem_cons_zero]
        have := hlast h0
        push_cast at *
        omega
    | succ k =>
      simp only [List.length_cons, Nat.add_lt_add_iff_right] at hk
      cases j with
      | zero =>
        obtain ⟨a1, a2, a3⟩ := ih h3 (j := 0) (k := k) hk (by omega)
        simp only [List.length_cons, List.getElem!_cons_zero, List.getElem_cons_succ]
        push_cast at *
        omega
      | succ j =>
        obtain ⟨a1, a2, a3⟩ := ih h3 (j := j) (k := k) hk (by omega)
        simp only [List.length_cons, List.getElem!_cons_succ, List.getElem_cons_succ]
        push_cast at *
        omega
/-- The places at which two lists are equal, counted from 1. -/
def eqPl (l r : List Int) : List Nat := (List.range' 1 l.length).filter fun k => l[k - 1]! == r[k - 1]!
/-- The equal places of a rising list are a chain. -/
theorem eq_chain {l r : List Int} (hl : l.length ≤ 1000) (hr : Rsg 0 r) (hlen : r.length = l.length) : Chn (mkA l) (l.length + 1) 0 (eqPl l r) := by
  have hin : ∀ x ∈ eqPl l r, 0 < x ∧ x < l.length + 1 ∧ mkA l x = r[x - 1]! := fun x hx => by
    rw [eqPl, List.mem_filter, List.mem_range'_1] at hx
    obtain ⟨⟨h1, h2⟩, h3⟩ := hx
    refine ⟨by omega, by omega, ?_⟩
    obtain ⟨y, rfl⟩ : ∃ y, x = y + 1 := ⟨x - 1, by omega⟩
    have hy : y < l.length := by omega
    rw [mkA_succ l hy, Nat.add_sub_cancel]
    rw [Nat.add_sub_cancel, beq_iff_eq] at h3
    rw [← h3, getElem!_pos l y hy]
  refine Chn.of (by omega) (ok_ends l hl) (fun x hx => ?_) ?_
  · obtain ⟨h1, h2, h3⟩ := hin x hx
    have hx1 : x - 1 < r.length := by omega
    obtain ⟨a1, a2, a3⟩ := rsg_get hr (j := x - 1) (k := x - 1) hx1 (Nat.le_refl _)
    rw [getElem!_pos r (x - 1) hx1] at a1 h3
    refine ⟨h1, h2, ?_, ?_⟩
    · rw [okS_iff, h3, mkA_zero]; omega
    · rw [okS_iff, h3, mkA_last]; omega
  · rw [eqPl]
    refine (List.Pairwise.filter _ (List.pairwise_lt_range' ..)).imp_of_mem (fun {x y} hx hy hlt => ⟨hlt, ?_⟩)
    obtain ⟨h1, h2, h3⟩ := hin x hx
    obtain ⟨g1, g2, g3⟩ := hin y hy
    have hy1 : y - 1 < r.length := by omega
    obtain ⟨a1, a2, a3⟩ := rsg_get hr (j := x - 1) (k := y - 1) hy1 (by omega)
    rw [okS_iff, h3, g3, getElem!_pos r (y - 1) hy1]
    omega
/-- No rising list keeps more. -/
theorem eq_most {l r : List Int} (hl : l.length ≤ 1000) (hr : Rsg 0 r) (hlen : r.length = l.length) : (eqPl l r).length ≤ (kept l).length := kept_most (by omega) (ok_ends l hl) (eq_chain hl hr hlen)
theorem sorted_le : ∀ {r l : List Nat}, l.Pairwise (fun x y => x < y) → r.Pairwise (fun x y => x < y) → (∀ x ∈ l, x ∈ r) → l.length ≤ r.length
  | [], [], _, _, _ => Nat.le_refl _
  | [], x :: l, _, _, h => by cases h x (List.mem_cons_self ..)
  | y :: r, [], _, _, _ => Nat.zero_le _
  | y :: r, x :: l, h1, h2, h => by
    obtain ⟨a1, a2⟩ := List.pairwise_cons.1 h1
    obtain ⟨b1, b2⟩ := List.pairwise_cons.1 h2
    by_cases e : x = y
    · have h3 := sorted_le a2 b2 fun z hz => by
        rcases List.mem_cons.1 (h z (List.mem_cons_of_mem _ hz)) with h4 | h4
        · have := a1 z hz; omega
        · exact h4
      simp only [List.length_cons]
      omega
    · have h0 : x ∈ r := by
        rcases List.mem_cons.1 (h x (List.mem_cons_self ..)) with h4 | h4
        · exact absurd h4 e
        · exact h4
      have hx := b1 x h0
      have h3 := sorted_le h1 b2 fun z hz => by
        rcases List.mem_cons.1 hz with rfl | hz'
        · exact h0
        · rcases List.mem_cons.1 (h z hz) with h4 | h4
          · have := a1 z hz'; omega
          · exact h4
      simp only [List.length_cons] at h3 ⊢
      omega
/-- The rising list of the fewest changes keeps just what can stay. -/
theorem rise_keeps {l : List Int} (hl : l.length ≤ 1000) : (eqPl l (riseL l)).length = (kept l).length := by
  refine Nat.le_antisymm (eq_most hl (rise_rsg hl) (riseL_len l)) ?_
  refine sorted_le ((kept_is hl).pair.imp fun h => h.1) (List.Pairwise.filter _ (List.pairwise_lt_range' ..)) fun x hx => ?_
  obtain ⟨h1, h2, _⟩ := (kept_is hl).mem x hx
  obtain ⟨y, rfl⟩ : ∃ y, x = y + 1 := ⟨x - 1, by omega⟩
  obtain ⟨a1, a2, a3, a4⟩ := kept_mem hl hx
  rw [eqPl, List.mem_filter, List.mem_range'_1]
  refine ⟨by omega, ?_⟩
  rw [Nat.add_sub_cancel, beq_iff_eq, getElem!_pos l y a1, getElem!_pos (riseL l) y (by rw [riseL_len]; exact a1)]
  have h3 := riseL_at l a1
  rw [List.getElem?_eq_getElem (by rw [riseL_len]; exact a1)] at h3
  rw [Option.some.inj h3, rzA, if_neg a4, a3, List.getD_eq_getElem?_getD, List.getElem?_eq_getElem a1]
  rfl
end Go.Proofs.YthodoabppkeidaaGreatDoor
