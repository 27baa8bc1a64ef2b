/-
  Characters, codes, families and the costs of modes, plain: a key is the index of a character; F is whatever the variable of the families holds. No condition.
-/
import Derived.Test.YthodoabppkeidaaGreatDoorCpAl
import Derived.Test.YthodoabppkeidaaGreatDoorText
import Derived.Lib.Bytealg
namespace Go.Proofs.YthodoabppkeidaaGreatDoor
open Go

/-- All characters: A to Z, 0 to 9 and the stroke. -/
def chars : Bytes := [65, 66, 67, 68, 69, 70, 71, 72, 73, 74, 75, 76, 77, 78, 79, 80, 81, 82, 83, 84, 85, 86, 87, 88, 89, 90, 48, 49, 50, 51, 52, 53, 54, 55, 56, 57, 47]
def codesL : List Bytes := [[46, 45], [45, 46, 46, 46], [45, 46, 45, 46], [45, 46, 46], [46], [46, 46, 45, 46], [45, 45, 46], [46, 46, 46, 46], [46, 46], [46, 45, 45, 45], [45, 46, 45], [46, 45, 46, 46], [45, 45],
  [45, 46], [45, 45, 45], [46, 45, 45, 46], [45, 45, 46, 45], [46, 45, 46], [46, 46, 46], [45], [46, 46, 45], [46, 46, 46, 45], [46, 45, 45], [45, 46, 46, 45], [45, 46, 45, 45], [45, 45, 46, 46],
  [45, 45, 45, 45, 45], [46, 45, 45, 45, 45], [46, 46, 45, 45, 45], [46, 46, 46, 45, 45], [46, 46, 46, 46, 45], [46, 46, 46, 46, 46], [45, 46, 46, 46, 46], [45, 45, 46, 46, 46], [45, 45, 45, 46, 46], [45, 45, 45, 45, 46], [45, 46, 46, 45, 46]]
def codeOf (k : Nat) : Bytes := codesL.getD k []
def charOf (k : Nat) : UInt8 := chars.getD k 0

/-- The key of a byte; 37: it is no character. -/
def keyOf (b : UInt8) : Nat := chars.idxOf b
theorem keyOf_le (b : UInt8) : keyOf b ≤ 37 := List.idxOf_le_length
theorem indexByte_idx (c : UInt8) : ∀ l : List UInt8, Lib.indexByte l c = if l.idxOf c < l.length then (l.idxOf c : Int) else -1
  | [] => by simp [Lib.indexByte]
  | b :: l => by
    rw [Lib.indexByte, indexByte_idx c l, List.idxOf_cons]
    by_cases h : b == c
    · simp [h]
    · have h' : (b == c) = false := by simpa using h
      simp only [h', List.length_cons, cond_false, Bool.false_eq_true, if_false]
      by_cases g : l.idxOf c < l.length
      · have e : (((l.idxOf c : Nat) : Int) == -1) = false := by rw [beq_eq_false_iff_ne]; omega
        simp only [if_pos g, e, Bool.false_eq_true, if_false]
        rw [if_pos (Nat.succ_lt_succ g)]
        rfl
      · have e : ((-1 : Int) == -1) = true := rfl
        simp only [if_neg g, e, if_true]
        rw [if_neg (by omega)]
theorem index_key (b : UInt8) : Lib.indexByte chars b = if keyOf b < 37 then (keyOf b : Int) else -1 := indexByte_idx b chars
theorem chars_get {k : Nat} (h : k < 37) : chars[k]? = some (charOf k) := by
  have h' : k < chars.length := h
  rw [List.getElem?_eq_getElem h', charOf, List.getD_eq_getElem?_getD, List.getElem?_eq_getElem h']
  rfl
theorem char_key {b : UInt8} (h : keyOf b < 37) : charOf (keyOf b) = b := by
  have h' : chars.idxOf b < chars.length := h
  rw [charOf, List.getD_eq_getElem?_getD, keyOf, List.getElem?_eq_getElem h']
  exact List.getElem_idxOf h'
theorem key_char_fin : ∀ k : Fin 37, keyOf (charOf k.val) = k.val := by decide +kernel
theorem key_char {k : Nat} (h : k < 37) : keyOf (charOf k) = k := key_char_fin ⟨k, h⟩
theorem key_inj {a b : UInt8} (ha : keyOf a < 37) (h : keyOf a = keyOf b) : a = b := by
  rw [← char_key ha, h, char_key (by omega)]
theorem codes_apart_fin : ∀ i k : Fin 37, codeOf i.val = codeOf k.val → i = k := by decide +kernel
theorem codes_apart {i k : Nat} (hi : i < 37) (hk : k < 37) (h : codeOf i = codeOf k) : i = k := congrArg Fin.val (codes_apart_fin ⟨i, hi⟩ ⟨k, hk⟩ h)
theorem code_len_fin : ∀ k : Fin 37, (codeOf k.val).length ≤ 5 := by decide +kernel
theorem code_len {k : Nat} (h : k < 37) : (codeOf k).length ≤ 5 := code_len_fin ⟨k, h⟩
theorem codes_get {k : Nat} (h : k < 37) : codesL[k]? = some (codeOf k) := by
  have h' : k < codesL.length := h
  rw [codeOf, List.getD_eq_getElem?_getD, List.getElem?_eq_getElem h']
  rfl

/-- Modes. -/
inductive Md
  | morse | voice | data
deriving DecidableEq
def mdOf (n : Int) : Option Md := if n = 1 then some .morse else if n = 2 then some .voice else if n = 3 then some .data else none
theorem mdOf_none {n : Int} (h : mdOf n = none) : ¬ (1 ≤ n ∧ n ≤ 3) := by
  unfold mdOf at h
  intro ⟨h1, h2⟩
  obtain rfl | rfl | rfl : n = 1 ∨ n = 2 ∨ n = 3 := by omega
  all_goals simp at h
theorem mdOf_some {n : Int} {m : Md} (h : mdOf n = some m) : (n = 1 ∧ m = .morse) ∨ (n = 2 ∧ m = .voice) ∨ (n = 3 ∧ m = .data) := by
  unfold mdOf at h
  split at h
  · exact .inl ⟨‹_›, (Option.some.inj h).symm⟩
  · split at h
    · exact .inr (.inl ⟨‹_›, (Option.some.inj h).symm⟩)
    · split at h
      · exact .inr (.inr ⟨‹_›, (Option.some.inj h).symm⟩)
      · cases h

/-- The index of the first of some texts that has a byte. -/
def famGo (b : UInt8) : List Bytes → Nat
  | [] => 0
  | f :: F => if b ∈ f then 0 else famGo b F + 1
theorem famGo_le (b : UInt8) : ∀ F, famGo b F ≤ F.length
  | [] => Nat.le_refl _
  | f :: F => by
    have := famGo_le b F
    rw [famGo, List.length_cons]
    split <;> omega
def famOf (F : List Bytes) (k : Nat) : Nat := famGo (charOf k) F
theorem indexByte_mem (c : UInt8) (l : List UInt8) : 0 ≤ Lib.indexByte l c ↔ c ∈ l := by
  rw [indexByte_idx, ← List.idxOf_lt_length_iff]
  constructor
  · intro h
    split at h
    · assumption
    · omega
  · intro h
    rw [if_pos h]
    omega

/-- The costs of dots and dashes. -/
def signC : Cs UInt8 := { sw := fun x y => if x = y then 0 else 1, ms := 1, ex := 1 }
/-- What it costs that one character is heard for another one. -/
def mdSw (F : List Bytes) : Md → Nat → Nat → Nat
  | .morse, x, y => lc signC (codeOf x) (codeOf y)
  | .voice, x, y => if famOf F x = famOf F y then 1 else 3
  | .data, _, _ => 2
def mdMs : Md → Nat
  | .morse => 3
  | .voice => 2
  | .data => 2
def mdEx : Md → Nat
  | .morse => 3
  | .voice => 3
  | .data => 2
/-- The costs of characters in a mode. -/
def mdC (F : List Bytes) (m : Md) : Cs Nat := { sw := fun x y => if x = y then 0 else mdSw F m x y, ms := mdMs m, ex := mdEx m }
theorem mdC_ms (F : List Bytes) (m : Md) : (mdC F m).ms = mdMs m := rfl
theorem mdC_ex (F : List Bytes) (m : Md) : (mdC F m).ex = mdEx m := rfl
theorem md_small (m : Md) : 2 ≤ mdMs m ∧ mdMs m ≤ 3 ∧ 2 ≤ mdEx m ∧ mdEx m ≤ 3 := by cases m <;> simp [mdMs, mdEx]
theorem mdC_self (F : List Bytes) (m : Md) (x : Nat) : (mdC F m).sw x x = 0 := by simp [mdC]
theorem mdC_ne (F : List Bytes) (m : Md) {x y : Nat} (h : x ≠ y) : (mdC F m).sw x y = mdSw F m x y := by simp [mdC, h]
theorem sign_pos : ∀ x y, signC.sw x y = 0 → x = y := by
  intro x y h
  simp only [signC] at h
  split at h
  · assumption
  · cases h
theorem sign_self : ∀ x, signC.sw x x = 0 := by intro x; simp [signC]
theorem sign_tri : ∀ x y z, signC.sw x z ≤ signC.sw x y + signC.sw y z := by
  intro x y z
  simp only [signC]
  by_cases h1 : x = y
  · subst h1; simp
  · rw [if_neg h1]; split <;> omega
theorem sign_symm : ∀ x y, signC.sw x y = signC.sw y x := by
  intro x y
  simp only [signC]
  by_cases h : x = y
  · subst h; rfl
  · rw [if_neg h, if_neg (fun e => h e.symm)]
theorem sw_le {F : List Bytes} (m : Md) {x y : Nat} (hx : x < 37) (hy : y < 37) : mdSw F m x y ≤ 10 := by
  cases m
  · have h1 := lc_le (c := signC) (codeOf x) (codeOf y) 1 (Nat.le_refl _) (Nat.le_refl _)
    have h2 := code_len hx
    have h3 := code_len hy
    show lc signC _ _ ≤ 10
    omega
  · simp only [mdSw]; split <;> omega
  · simp [mdSw]
theorem mdC_le {F : List Bytes} (m : Md) {x y : Nat} (hx : x < 37) (hy : y < 37) : (mdC F m).sw x y ≤ 10 := by
  by_cases h : x = y
  · subst h; rw [mdC_self]; omega
  · rw [mdC_ne F m h]; exact sw_le m hx hy
theorem sw_pos {F : List Bytes} (m : Md) {x y : Nat} (hx : x < 37) (hy : y < 37) (h : x ≠ y) : 1 ≤ mdSw F m x y := by
  cases m
  · show 1 ≤ lc signC _ _
    have := (lc_zero (c := signC) sign_self sign_pos (by decide) (by decide) (codeOf x) (codeOf y)).1
    rcases Nat.eq_zero_or_pos (lc signC (codeOf x) (codeOf y)) with e | e
    · exact absurd (codes_apart hx hy (this e)) h
    · exact e
  · simp only [mdSw]; split <;> omega
  · simp [mdSw]

/-- The keys of a text; none: a byte is no character. -/
def keysOf : Bytes → Option (List Nat)
  | [] => some []
  | b :: l => if keyOf b < 37 then (keysOf l).map (keyOf b :: ·) else none
theorem keysOf_len : ∀ {l : Bytes} {ks : List Nat}, keysOf l = some ks → ks.length = l.length
  | [], ks, h => by simp [keysOf] at h; subst h; rfl
  | b :: l, ks, h => by
    unfold keysOf at h
    split at h
    · cases hl : keysOf l with
      | none => rw [hl] at h; cases h
      | some k =>
        rw [hl] at h
        obtain rfl := (Option.some.inj h).symm
        rw [List.length_cons, List.length_cons, keysOf_len hl]
    · cases h
theorem keysOf_map : ∀ {l : Bytes}, (∀ b ∈ l, keyOf b < 37) → keysOf l = some (l.map keyOf)
  | [], _ => rfl
  | b :: l, h => by
    rw [keysOf, if_pos (h b (by simp)), keysOf_map (fun c hc => h c (by simp [hc]))]
    rfl
theorem keysOf_none : ∀ {l : Bytes} {b : UInt8}, b ∈ l → ¬ keyOf b < 37 → keysOf l = none
  | a :: l, b, hm, hb => by
    rw [keysOf]
    by_cases ha : keyOf a < 37
    · rw [if_pos ha]
      rcases List.mem_cons.1 hm with rfl | hm
      · exact absurd ha hb
      · rw [keysOf_none hm hb]; rfl
    · rw [if_neg ha]
theorem keysOf_some {l : Bytes} {ks : List Nat} (h : keysOf l = some ks) : ks = l.map keyOf ∧ ∀ b ∈ l, keyOf b < 37 := by
  by_cases ha : ∀ b ∈ l, keyOf b < 37
  · rw [keysOf_map ha] at h
    exact ⟨(Option.some.inj h).symm, ha⟩
  · obtain ⟨b, hb⟩ := Classical.not_forall.1 ha
    obtain ⟨h1, h2⟩ := Classical.not_imp.1 hb
    rw [keysOf_none h1 h2] at h
    cases h
theorem keysOf_lt {l : Bytes} {ks : List Nat} (h : keysOf l = some ks) : ∀ k ∈ ks, k < 37 := by
  obtain ⟨rfl, h2⟩ := keysOf_some h
  intro k hk
  obtain ⟨b, hb, rfl⟩ := List.mem_map.1 hk
  exact h2 b hb
theorem keysOf_inj {l l' : Bytes} {ks : List Nat} (h : keysOf l = some ks) (h' : keysOf l' = some ks) : l = l' := by
  obtain ⟨rfl, h2⟩ := keysOf_some h
  obtain ⟨e, h4⟩ := keysOf_some h'
  clear h h'
  induction l generalizing l' with
  | nil => cases l' with
    | nil => rfl
    | cons b l' => cases e
  | cons a l ih => cases l' with
    | nil => cases e
    | cons b l' =>
      simp only [List.map_cons, List.cons.injEq] at e
      rw [key_inj (h2 a (by simp)) e.1, ih (fun c hc => h2 c (by simp [hc])) e.2 (fun c hc => h4 c (by simp [hc]))]
theorem keysOf_append {l l' : Bytes} {a b : List Nat} (h : keysOf l = some a) (h' : keysOf l' = some b) : keysOf (l ++ l') = some (a ++ b) := by
  obtain ⟨rfl, h2⟩ := keysOf_some h
  obtain ⟨rfl, h4⟩ := keysOf_some h'
  rw [keysOf_map (fun c hc => (List.mem_append.1 hc).elim (h2 c) (h4 c)), List.map_append]
theorem keysOf_take {l : Bytes} {a : List Nat} (h : keysOf l = some a) (n : Nat) : keysOf (l.take n) = some (a.take n) := by
  obtain ⟨rfl, h2⟩ := keysOf_some h
  rw [keysOf_map (fun c hc => h2 c (List.mem_of_mem_take hc)), List.map_take]
theorem keysOf_drop {l : Bytes} {a : List Nat} (h : keysOf l = some a) (n : Nat) : keysOf (l.drop n) = some (a.drop n) := by
  obtain ⟨rfl, h2⟩ := keysOf_some h
  rw [keysOf_map (fun c hc => h2 c (List.mem_of_mem_drop hc)), List.map_drop]

/-- The error of two texts in a mode: 40, 2, 41, or none. -/
def hearE (mode : Int) (s h : Bytes) : Int :=
  if mdOf mode = none then 40 else if 64 < s.length ∨ 64 < h.length then 2 else if keysOf s = none ∨ keysOf h = none then 41 else 0
/-- What two texts in a mode are where there is no error. -/
theorem hearE_ok {mode : Int} {s h : Bytes} (e : hearE mode s h = 0) : ∃ m a b, mdOf mode = some m ∧ keysOf s = some a ∧ keysOf h = some b ∧ s.length ≤ 64 ∧ h.length ≤ 64 := by
  unfold hearE at e
  split at e
  · cases e
  · split at e
    · cases e
    · split at e
      · cases e
      · rename_i h1 h2 h3
        cases hm : mdOf mode with
        | none => exact absurd hm h1
        | some m =>
          cases ha : keysOf s with
          | none => exact absurd (Or.inl ha) h3
          | some a =>
            cases hb : keysOf h with
            | none => exact absurd (Or.inr hb) h3
            | some b => exact ⟨m, a, b, rfl, rfl, rfl, by omega, by omega⟩
theorem hearE_mk {mode : Int} {s h : Bytes} {m : Md} {a b : List Nat} (hm : mdOf mode = some m) (ha : keysOf s = some a) (hb : keysOf h = some b) (hs : s.length ≤ 64) (hh : h.length ≤ 64) : hearE mode s h = 0 := by
  unfold hearE
  rw [hm, ha, hb, if_neg (by simp), if_neg (by omega), if_neg (by simp)]
/-- What Cost returns. -/
def costV (F : List Bytes) (mode : Int) (s h : Bytes) : Nat :=
  match mdOf mode, keysOf s, keysOf h with
  | some m, some a, some b => lc (mdC F m) a b
  | _, _, _ => 0

end Go.Proofs.YthodoabppkeidaaGreatDoor
