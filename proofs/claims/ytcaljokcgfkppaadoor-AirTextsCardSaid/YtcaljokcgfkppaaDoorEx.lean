/-
  Exchanges as plain values: which are valid, their texts, and what the program and the specification read of a text: whatever is printed is read again, and nothing else. No program, no condition.
-/
import Derived.Test.YtcaljokcgfkppaaDoorTimeBack
import Derived.Test.YtcaljokcgfkppaaDoorJoin
namespace Go.Proofs.YtcaljokcgfkppaaDoor
open Go.RowKit
def hasV (h : Bool) (n most : Int) : Bool := if h then withinB n 1 most else decide (n = 0)
def validX (r s z : Bool) (a b c : Int) : Bool := hasV r a 599 && (hasV s b 99999 && hasV z c 99)
/-- One word more behind a text of words. -/
def addW (cur : Bytes) (h : Bool) (n d : Nat) : Bytes := if h then (if cur = [] then padL n d else cur ++ 32 :: padL n d) else cur
def exW (r s z : Bool) (a b c : Nat) : Bytes := addW (addW (addW [] r a 1) s b 3) z c 2
def exL (r s z : Bool) (a b c : Nat) : Bytes := if exW r s z a b c = [] then [45] else exW r s z a b c
def printX (r s z : Bool) (a b c : Int) : Option Bytes := if validX r s z a b c then some (exL r s z a.toNat b.toNat c.toNat) else none
/-- The words of an exchange. -/
def wsX (r s z : Bool) (a b c : Nat) : List Bytes := (if r then [padL a 1] else []) ++ ((if s then [padL b 3] else []) ++ (if z then [padL c 2] else []))
theorem pad_ne (n d : Nat) (h : 1 ≤ d) : padL n d ≠ [] := (pad_facts n d h).2.2.2
theorem exW_words (r s z : Bool) (a b c : Nat) : exW r s z a b c = joinP 32 (wsX r s z a b c) := by
  have h1 := pad_ne a 1 (by omega)
  have h3 := pad_ne b 3 (by omega)
  cases r <;> cases s <;> cases z <;> simp [exW, addW, wsX, joinP, h1, h3]
theorem joinP_ne {x : Bytes} (h : x ≠ []) (ws : List Bytes) : joinP 32 (x :: ws) ≠ [] := by
  cases ws with
  | nil => exact h
  | cons y ws => intro e; exact h (List.append_eq_nil_iff.1 e).1
theorem cut_words {x : Bytes} (h : (32 : UInt8) ∉ x) (ws : List Bytes) : (Lib.cut (joinP 32 (x :: ws)) [32]).1 = x ∧ (Lib.cut (joinP 32 (x :: ws)) [32]).2.1 = joinP 32 ws := by
  cases ws with
  | nil =>
    rw [show joinP 32 [x] = x from rfl, cut_none h]
    exact ⟨rfl, rfl⟩
  | cons y ws =>
    rw [show joinP 32 (x :: y :: ws) = x ++ 32 :: joinP 32 (y :: ws) from rfl, cut_here h]
    exact ⟨rfl, rfl⟩
theorem pieces_words : ∀ (ws : List Bytes), ws ≠ [] → (∀ x ∈ ws, (32 : UInt8) ∉ x) → piecesL 32 (joinP 32 ws) = ws
  | [], h, _ => absurd rfl h
  | [x], _, hx => pieces_sole (hx x (by simp))
  | x :: y :: ws, _, hx => by
    rw [show joinP 32 (x :: y :: ws) = x ++ 32 :: joinP 32 (y :: ws) from rfl, pieces_cons (hx x (by simp)), pieces_words (y :: ws) (by simp) (fun w hw => hx w (by simp [hw]))]
theorem pad_free (n d : Nat) (h : 1 ≤ d) : (32 : UInt8) ∉ padL n d := digs_no (by decide) (pad_facts n d h).1
theorem ws_free (r s z : Bool) (a b c : Nat) : ∀ x ∈ wsX r s z a b c, (32 : UInt8) ∉ x := by
  have h1 := pad_free a 1 (by omega)
  have h2 := pad_free b 3 (by omega)
  have h3 := pad_free c 2 (by omega)
  cases r <;> cases s <;> cases z <;> simp [wsX, h1, h2, h3]
/-- One number of a text, in the program's words: the number, and what is left. -/
def readK (h : Bool) (most : Nat) (rest : Bytes) : Option (Nat × Bytes) :=
  if h then (match numO most (Lib.cut rest [32]).1 with | some n => some (n, (Lib.cut rest [32]).2.1) | none => none) else some (0, rest)
def backX (r s z : Bool) (l : Bytes) (a b c : Int) : Option (Int × Int × Int) := if printX r s z a b c = some l then some (a, b, c) else none
def parseX (r s z : Bool) (l : Bytes) : Option (Int × Int × Int) :=
  match readK r 599 l with
  | none => none
  | some (a, l1) => match readK s 99999 l1 with
    | none => none
    | some (b, l2) => match readK z 99 l2 with
      | none => none
      | some (c, _) => backX r s z l a b c
theorem numO_pad {most n d : Nat} (hd : 1 ≤ d) (h : n ≤ most) : numO most (padL n d) = some n := by
  have hf := pad_facts n d hd
  rw [numO_val hf.2.2.2 hf.1 (by rw [hf.2.1]; exact h), hf.2.1]
theorem readK_word {most n d : Nat} (hd : 1 ≤ d) (h : n ≤ most) (ws : List Bytes) : readK true most (joinP 32 (padL n d :: ws)) = some (n, joinP 32 ws) := by
  obtain ⟨h1, h2⟩ := cut_words (pad_free n d hd) ws
  unfold readK
  rw [if_pos rfl, h1, h2, numO_pad hd h]
theorem readK_no (most : Nat) (l : Bytes) : readK false most l = some (0, l) := rfl
theorem valid_nums {r s z : Bool} {a b c : Int} (h : validX r s z a b c = true) : 0 ≤ a ∧ 0 ≤ b ∧ 0 ≤ c ∧ a ≤ 599 ∧ b ≤ 99999 ∧ c ≤ 99 ∧ (r = false → a = 0) ∧ (s = false → b = 0) ∧ (z = false → c = 0) := by
  unfold validX hasV at h
  rw [Bool.and_eq_true, Bool.and_eq_true] at h
  obtain ⟨h1, h2, h3⟩ := h
  have H : ∀ (x : Bool) (n m : Int), 0 ≤ m → (if x then withinB n 1 m else decide (n = 0)) = true → 0 ≤ n ∧ n ≤ m ∧ (x = false → n = 0) := by
    intro x n m hm h
    cases x
    · simp at h; exact ⟨by omega, by omega, fun _ => h⟩
    · simp [withinB_iff] at h; exact ⟨by omega, by omega, fun h => by cases h⟩
  have g1 := H r a 599 (by omega) h1
  have g2 := H s b 99999 (by omega) h2
  have g3 := H z c 99 (by omega) h3
  exact ⟨g1.1, g2.1, g3.1, g1.2.1, g2.2.1, g3.2.1, g1.2.2, g2.2.2, g3.2.2⟩
theorem printX_some {r s z : Bool} {a b c : Int} {l : Bytes} (h : printX r s z a b c = some l) : ∃ x y t : Nat, a = x ∧ b = y ∧ c = t ∧ validX r s z a b c = true ∧ l = exL r s z x y t := by
  unfold printX at h
  split at h
  · rename_i hv
    cases h
    have hn := valid_nums hv
    exact ⟨a.toNat, b.toNat, c.toNat, by omega, by omega, by omega, hv, rfl⟩
  · cases h
theorem parseX_iff (r s z : Bool) (l : Bytes) (a b c : Int) : parseX r s z l = some (a, b, c) ↔ printX r s z a b c = some l := by
  constructor
  · intro h
    unfold parseX at h
    split at h
    · cases h
    · split at h
      · cases h
      · split at h
        · cases h
        · unfold backX at h
          split at h
          · cases h; assumption
          · cases h
  · intro h
    have hb : backX r s z l a b c = some (a, b, c) := by unfold backX; rw [if_pos h]
    obtain ⟨x, y, t, rfl, rfl, rfl, hv, hl⟩ := printX_some h
    obtain ⟨-, -, -, g1, g2, g3, n1, n2, n3⟩ := valid_nums hv
    have hw : wsX r s z x y t ≠ [] → l = joinP 32 (wsX r s z x y t) := by
      intro hne
      rw [hl, exL, exW_words, if_neg]
      obtain ⟨w, ws, e⟩ := List.exists_cons_of_ne_nil hne
      rw [e]
      apply joinP_ne
      have hwm : w ∈ wsX r s z x y t := by rw [e]; simp
      intro e0
      subst e0
      revert hwm
      have p1 := pad_ne x 1 (by omega)
      have p2 := pad_ne y 3 (by omega)
      have p3 := pad_ne t 2 (by omega)
      cases r <;> cases s <;> cases z <;> simp [wsX, p1.symm, p2.symm, p3.symm]
    unfold parseX
    have k1 : x ≤ 599 := by omega
    have k2 : y ≤ 99999 := by omega
    have k3 : t ≤ 99 := by omega
    have j1 : joinP 32 ([] : List Bytes) = [] := rfl
    have q1 : r = false → x = 0 := fun h => by have := n1 h; omega
    have q2 : s = false → y = 0 := fun h => by have := n2 h; omega
    have q3 : z = false → t = 0 := fun h => by have := n3 h; omega
    cases r <;> cases s <;> cases z
    · have e1 := q1 rfl; have e2 := q2 rfl; have e3 := q3 rfl
      subst e1 e2 e3
      simp only [readK_no]
      exact hb
    · have e1 := q1 rfl; have e2 := q2 rfl
      subst e1 e2
      have e := hw (by simp [wsX])
      rw [show wsX false false true 0 0 t = [padL t 2] from rfl] at e
      rw [readK_no]; simp only; rw [readK_no]; simp only
      rw [e, readK_word (by omega) k3, ← e]
      exact hb
    · have e1 := q1 rfl; have e3 := q3 rfl
      subst e1 e3
      have e := hw (by simp [wsX])
      rw [show wsX false true false 0 y 0 = [padL y 3] from rfl] at e
      rw [readK_no]; simp only
      rw [e, readK_word (by omega) k2, ← e]; simp only; rw [readK_no]
      exact hb
    · have e1 := q1 rfl
      subst e1
      have e := hw (by simp [wsX])
      rw [show wsX false true true 0 y t = [padL y 3, padL t 2] from rfl] at e
      rw [readK_no]; simp only
      rw [e, readK_word (by omega) k2]; simp only; rw [readK_word (by omega) k3, ← e]
      exact hb
    · have e2 := q2 rfl; have e3 := q3 rfl
      subst e2 e3
      have e := hw (by simp [wsX])
      rw [show wsX true false false x 0 0 = [padL x 1] from rfl] at e
      rw [e, readK_word (by omega) k1, ← e]; simp only; rw [readK_no]; simp only; rw [readK_no]
      exact hb
    · have e2 := q2 rfl
      subst e2
      have e := hw (by simp [wsX])
      rw [show wsX true false true x 0 t = [padL x 1, padL t 2] from rfl] at e
      rw [e, readK_word (by omega) k1]; simp only; rw [readK_no]; simp only; rw [readK_word (by omega) k3, ← e]
      exact hb
    · have e3 := q3 rfl
      subst e3
      have e := hw (by simp [wsX])
      rw [show wsX true true false x y 0 = [padL x 1, padL y 3] from rfl] at e
      rw [e, readK_word (by omega) k1]; simp only; rw [readK_word (by omega) k2, ← e]; simp only; rw [readK_no]
      exact hb
    · have e := hw (by simp [wsX])
      rw [show wsX true true true x y t = [padL x 1, padL y 3, padL t 2] from rfl] at e
      rw [e, readK_word (by omega) k1]; simp only; rw [readK_word (by omega) k2]; simp only; rw [readK_word (by omega) k3, ← e]
      exact hb
/-- One number of a text, in the specification's words. -/
def takeR (h : Bool) (ws : List Bytes) : Int × List Bytes :=
  match h, ws with
  | true, w :: ws => (numI (numR w), ws)
  | _, ws => (0, ws)
def parseXR (r s z : Bool) (l : Bytes) : Option (Int × Int × Int) :=
  if 100 < l.length then none else
    backX r s z l (takeR r (piecesL 32 l)).1 (takeR s (takeR r (piecesL 32 l)).2).1 (takeR z (takeR s (takeR r (piecesL 32 l)).2).2).1
theorem exL_len (r s z : Bool) (x y t : Nat) (h1 : x ≤ 599) (h2 : y ≤ 99999) (h3 : t ≤ 99) : (exL r s z x y t).length ≤ 100 := by
  have p1 := padL_len 3 x 1 (by omega) (by omega) (by omega)
  have p2 := padL_len 5 y 3 (by omega) (by omega) (by omega)
  have p3 := padL_len 2 t 2 (by omega) (by omega) (by omega)
  have H : ∀ (cur : Bytes) (h : Bool) (n d : Nat), (addW cur h n d).length ≤ cur.length + 1 + (padL n d).length := by
    intro cur h n d
    unfold addW
    split
    · split
      · omega
      · simp only [List.length_append, List.length_cons]; omega
    · omega
  have g1 := H [] r x 1
  have g2 := H (addW [] r x 1) s y 3
  have g3 := H (addW (addW [] r x 1) s y 3) z t 2
  unfold exL
  split
  · simp
  · unfold exW
    simp at g1
    omega
theorem parseXR_iff (r s z : Bool) (l : Bytes) (a b c : Int) : parseXR r s z l = some (a, b, c) ↔ printX r s z a b c = some l := by
  constructor
  · intro h
    unfold parseXR at h
    split at h
    · cases h
    · unfold backX at h
      split at h
      · rename_i hp
        cases h
        exact hp
      · cases h
  · intro h
    have hb : backX r s z l a b c = some (a, b, c) := by unfold backX; rw [if_pos h]
    obtain ⟨x, y, t, rfl, rfl, rfl, hv, hl⟩ := printX_some h
    obtain ⟨-, -, -, g1, g2, g3, n1, n2, n3⟩ := valid_nums hv
    have hlen := exL_len r s z x y t (by omega) (by omega) (by omega)
    rw [← hl] at hlen
    unfold parseXR
    rw [if_neg (by omega)]
    have q1 : r = false → x = 0 := fun h => by have := n1 h; omega
    have q2 : s = false → y = 0 := fun h => by have := n2 h; omega
    have q3 : z = false → t = 0 := fun h => by have := n3 h; omega
    have m1 : numR (padL x 1) = some x := numR_pad 3 x 1 (by omega) (by omega) (by omega) (by omega)
    have m2 : numR (padL y 3) = some y := numR_pad 5 y 3 (by omega) (by omega) (by omega) (by omega)
    have m3 : numR (padL t 2) = some t := numR_pad 2 t 2 (by omega) (by omega) (by omega) (by omega)
    by_cases hne : wsX r s z x y t = []
    · have hr : r = false ∧ s = false ∧ z = false := by
        revert hne
        cases r <;> cases s <;> cases z <;> simp [wsX]
      obtain ⟨rfl, rfl, rfl⟩ := hr
      have e1 := q1 rfl; have e2 := q2 rfl; have e3 := q3 rfl
      subst e1 e2 e3
      exact hb
    · have e : piecesL 32 l = wsX r s z x y t := by
        rw [hl, exL, exW_words, if_neg, pieces_words _ hne (ws_free r s z x y t)]
        obtain ⟨w, ws, e⟩ := List.exists_cons_of_ne_nil hne
        rw [e]
        apply joinP_ne
        have hwm : w ∈ wsX r s z x y t := by rw [e]; simp
        intro e0
        subst e0
        revert hwm
        have p1 := pad_ne x 1 (by omega)
        have p2 := pad_ne y 3 (by omega)
        have p3 := pad_ne t 2 (by omega)
        cases r <;> cases s <;> cases z <;> simp [wsX, p1.symm, p2.symm, p3.symm]
      rw [e]
      cases r <;> cases s <;> cases z <;> simp [wsX, takeR, m1, m2, m3, numI]
      all_goals first | exact absurd rfl hne | skip
      all_goals first | (have e1 := q1 rfl; subst e1) | skip
      all_goals first | (have e2 := q2 rfl; subst e2) | skip
      all_goals first | (have e3 := q3 rfl; subst e3) | skip
      all_goals exact hb
theorem parseX_eq (r s z : Bool) (l : Bytes) : parseXR r s z l = parseX r s z l := by
  cases h : parseXR r s z l with
  | some p =>
    obtain ⟨a, b, c⟩ := p
    rw [(parseX_iff r s z l a b c).2 ((parseXR_iff r s z l a b c).1 h)]
  | none =>
    cases h2 : parseX r s z l with
    | some p =>
      obtain ⟨a, b, c⟩ := p
      rw [(parseXR_iff r s z l a b c).2 ((parseX_iff r s z l a b c).1 h2)] at h
      cases h
    | none => rfl

end Go.Proofs.YtcaljokcgfkppaaDoor
