/-
  Plain facts on texts of digits: their numbers, what readNumber answers of them, zeros ahead, and what stands between blanks. No program, no condition.
-/
import Derived.Test.YtkbdmdnahphkkaaGreatDoorNumbers
import Derived.Test.YtkbdmdnahphkkaaGreatDoorDecimal
import Derived.Test.YtkbdmdnahphkkaaGreatDoorTimes
namespace Go.Proofs.YtkbdmdnahphkkaaGreatDoor
open Go.RowKit
/-- Digits only. -/
def Digs (l : Bytes) : Prop := ∀ c ∈ l, 48 ≤ c.toNat ∧ c.toNat ≤ 57
/-- The number of digits, behind a number. -/
def valL (n : Nat) (l : Bytes) : Nat := l.foldl (fun a c => a * 10 + (c.toNat - 48)) n
theorem valL_nil (n : Nat) : valL n [] = n := by simp only [valL, List.foldl_nil]
theorem valL_cons (n : Nat) (c : UInt8) (l : Bytes) : valL n (c :: l) = valL (n * 10 + (c.toNat - 48)) l := by simp only [valL, List.foldl_cons]
theorem valL_ge : ∀ (l : Bytes) (n : Nat), n ≤ valL n l
  | [], n => by rw [valL_nil]; exact Nat.le_refl n
  | c :: l, n => by
    have := valL_ge l (n * 10 + (c.toNat - 48))
    rw [valL_cons]; omega
theorem valL_snoc (c : UInt8) : ∀ (l : Bytes) (n : Nat), valL n (l ++ [c]) = valL n l * 10 + (c.toNat - 48)
  | [], n => by rw [List.nil_append, valL_cons, valL_nil, valL_nil]
  | a :: l, n => by rw [List.cons_append, valL_cons, valL_snoc c l, valL_cons]
theorem valL_append (m : Bytes) : ∀ (l : Bytes) (n : Nat), valL n (l ++ m) = valL (valL n l) m
  | [], n => by rw [List.nil_append, valL_nil]
  | a :: l, n => by rw [List.cons_append, valL_cons, valL_append m l, valL_cons]
theorem valL_shift : ∀ (l : Bytes) (n : Nat), valL n l = n * 10 ^ l.length + valL 0 l
  | [], n => by simp [valL_nil]
  | c :: l, n => by
    have h1 := valL_shift l (n * 10 + (c.toNat - 48))
    have h2 := valL_shift l (0 * 10 + (c.toNat - 48))
    rw [valL_cons, valL_cons, h1, h2, List.length_cons, Nat.pow_succ, Nat.add_mul, Nat.zero_mul, Nat.zero_add, Nat.add_assoc, Nat.mul_comm (10 ^ l.length) 10, ← Nat.mul_assoc]
theorem valL_lt : ∀ (x : Bytes), Digs x → valL 0 x < 10 ^ x.length
  | [], _ => by simp [valL_nil]
  | c :: x, h => by
    have ih := valL_lt x (fun a ha => h a (by simp [ha]))
    have hc := h c (by simp)
    rw [valL_cons, valL_shift, List.length_cons, Nat.pow_succ]
    have h1 : (0 * 10 + (c.toNat - 48)) * 10 ^ x.length ≤ 9 * 10 ^ x.length := Nat.mul_le_mul_right _ (by omega)
    omega
theorem readL_val {most : Nat} : ∀ {l : Bytes} {n : Nat}, Digs l → n ≤ most → readL most n l = if valL n l ≤ most then some (valL n l) else none
  | [], n, _, h => by rw [readL, valL_nil, if_pos h]
  | c :: l, n, hd, h => by
    have hc := hd c (by simp)
    have hl : Digs l := fun x hx => hd x (by simp [hx])
    rw [readL, if_pos hc, valL_cons]
    by_cases hm : most < n * 10 + (c.toNat - 48)
    · have := valL_ge l (n * 10 + (c.toNat - 48))
      rw [if_pos hm, if_neg (by omega)]
    · rw [if_neg hm, readL_val hl (by omega)]
theorem readL_digs {most : Nat} : ∀ {l : Bytes} {n m : Nat}, readL most n l = some m → Digs l ∧ m = valL n l
  | [], n, m, h => by
    rw [readL] at h
    cases h
    exact ⟨fun x hx => (by cases hx), rfl⟩
  | c :: l, n, m, h => by
    rw [readL] at h
    split at h
    · rename_i hc
      split at h
      · cases h
      · obtain ⟨h1, h2⟩ := readL_digs h
        refine ⟨fun x hx => ?_, by rw [valL_cons]; exact h2⟩
        rcases List.mem_cons.1 hx with rfl | hx
        · exact hc
        · exact h1 x hx
    · cases h
theorem numO_val {most : Nat} {l : Bytes} (h0 : l ≠ []) (hd : Digs l) (hm : valL 0 l ≤ most) : numO most l = some (valL 0 l) := by
  unfold numO
  rw [if_neg h0, readL_val hd (Nat.zero_le _), if_pos hm]
theorem dig_num (n : Nat) : (UInt8.ofNat (48 + n % 10)).toNat = 48 + n % 10 := by
  rw [UInt8.toNat_ofNat']
  omega
theorem digs_append {a b : Bytes} (ha : Digs a) (hb : Digs b) : Digs (a ++ b) := fun x hx => (List.mem_append.1 hx).elim (ha x) (hb x)
theorem zp_zero : zp 0 0 = [] := rfl
theorem zp_facts : ∀ (k n d : Nat), n + d ≤ k → Digs (zp n d) ∧ valL 0 (zp n d) = n ∧ d ≤ (zp n d).length
  | 0, n, d, h => by
    obtain rfl : n = 0 := by omega
    obtain rfl : d = 0 := by omega
    rw [zp_zero]
    exact ⟨fun x hx => (by cases hx), rfl, by simp⟩
  | k + 1, n, d, h => by
    by_cases h0 : 0 < n ∨ 0 < d
    · obtain ⟨h1, h2, h3⟩ := zp_facts k (n / 10) (d - 1) (by omega)
      rw [zp_step h0]
      refine ⟨digs_append h1 (fun x hx => ?_), ?_, ?_⟩
      · rw [List.mem_singleton] at hx
        subst hx
        rw [dig_num]; omega
      · rw [valL_snoc, h2, dig_num]; omega
      · rw [List.length_append, List.length_singleton]; omega
    · obtain rfl : n = 0 := by omega
      obtain rfl : d = 0 := by omega
      rw [zp_zero]
      exact ⟨fun x hx => (by cases hx), rfl, by simp⟩
theorem pad_facts (n d : Nat) (h : 1 ≤ d) : Digs (padL n d) ∧ valL 0 (padL n d) = n ∧ d ≤ (padL n d).length ∧ padL n d ≠ [] := by
  obtain ⟨h1, h2, h3⟩ := zp_facts (n + d) n d (Nat.le_refl _)
  rw [zp_pad h] at h1 h2 h3
  refine ⟨h1, h2, h3, fun e => ?_⟩
  rw [e] at h3
  simp at h3
  omega
/-- How many digits a number below 10 to the power of k has at most. -/
theorem zp_len : ∀ (k n d : Nat), n < 10 ^ k → d ≤ k → (zp n d).length ≤ k
  | 0, n, d, hn, hd => by
    obtain rfl : n = 0 := by simpa using hn
    obtain rfl : d = 0 := by omega
    rw [zp_zero]; simp
  | k + 1, n, d, hn, hd => by
    by_cases h0 : 0 < n ∨ 0 < d
    · have := zp_len k (n / 10) (d - 1) (by rw [Nat.pow_succ] at hn; omega) (by omega)
      rw [zp_step h0, List.length_append, List.length_singleton]; omega
    · obtain rfl : n = 0 := by omega
      obtain rfl : d = 0 := by omega
      rw [zp_zero]; simp
theorem padL_len (k n d : Nat) (h : 1 ≤ d) (hn : n < 10 ^ k) (hd : d ≤ k) : (padL n d).length ≤ k := by
  rw [← zp_pad h]; exact zp_len k n d hn hd
/-- A number of at most k digits with at least k has just k. -/
theorem padL_len_eq (k n : Nat) (h : 1 ≤ k) (hn : n < 10 ^ k) : (padL n k).length = k :=
  Nat.le_antisymm (padL_len k n k h hn (Nat.le_refl _)) (pad_facts n k h).2.2.1
theorem digs_no {c : UInt8} (hc : c.toNat < 48) {l : Bytes} (h : Digs l) : c ∉ l := fun hx => by have := h c hx; omega
/-- What stands between the bytes c of a text, a piece being begun. -/
def pcs (c : UInt8) : Bytes → Bytes → List Bytes
  | cur, [] => [cur]
  | cur, a :: l => if a = c then cur :: pcs c [] l else pcs c (cur ++ [a]) l
theorem pcs_cur (c : UInt8) : ∀ (l cur : Bytes), ∃ p ps, piecesL c l = p :: ps ∧ pcs c cur l = (cur ++ p) :: ps
  | [], cur => ⟨[], [], rfl, by simp [pcs]⟩
  | a :: l, cur => by
    by_cases h : a = c
    · obtain ⟨p, ps, h1, h2⟩ := pcs_cur c l []
      refine ⟨[], piecesL c l, by rw [piecesL, if_pos h], ?_⟩
      rw [pcs, if_pos h, h2, h1, List.append_nil, List.nil_append]
    · obtain ⟨p, ps, h1, h2⟩ := pcs_cur c l (cur ++ [a])
      refine ⟨a :: p, ps, by rw [piecesL, if_neg h, h1], ?_⟩
      rw [pcs, if_neg h, h2, List.append_assoc]
      rfl
theorem pcs_pieces (c : UInt8) (l : Bytes) : pcs c [] l = piecesL c l := by
  obtain ⟨p, ps, h1, h2⟩ := pcs_cur c l []
  rw [h1, h2]; rfl
theorem pieces_sole {c : UInt8} : ∀ {l : Bytes}, c ∉ l → piecesL c l = [l]
  | [], _ => rfl
  | a :: l, h => by
    rw [piecesL, if_neg (fun e => h (by rw [e]; simp)), pieces_sole (fun e => h (by simp [e]))]
theorem pieces_cons {c : UInt8} {m : Bytes} : ∀ {l : Bytes}, c ∉ l → piecesL c (l ++ c :: m) = l :: piecesL c m
  | [], _ => by rw [List.nil_append, piecesL, if_pos rfl]
  | a :: l, h => by
    rw [List.cons_append, piecesL, if_neg (fun e => h (by rw [e]; simp)), pieces_cons (fun e => h (by simp [e]))]
theorem index_here {c : UInt8} {m : Bytes} : ∀ {l : Bytes}, c ∉ l → Lib.index (l ++ c :: m) [c] = l.length
  | [], _ => by simp [Lib.index]
  | a :: l, h => by
    have ih := index_here (m := m) (fun e => h (List.mem_cons_of_mem a e) : c ∉ l)
    have ha : c ≠ a := fun e => h (by rw [e]; simp)
    rw [List.cons_append, Lib.index, ih]
    simp [ha]
theorem index_none {c : UInt8} : ∀ {l : Bytes}, c ∉ l → Lib.index l [c] = -1
  | [], _ => by simp [Lib.index]
  | a :: l, h => by
    have ih := index_none (fun e => h (List.mem_cons_of_mem a e) : c ∉ l)
    have ha : c ≠ a := fun e => h (by rw [e]; simp)
    rw [Lib.index, ih]
    simp [ha]
theorem cut_here {c : UInt8} {l m : Bytes} (h : c ∉ l) : Lib.cut (l ++ c :: m) [c] = (l, m, true) := by
  unfold Lib.cut
  rw [index_here h]
  simp
theorem cut_none {c : UInt8} {l : Bytes} (h : c ∉ l) : Lib.cut l [c] = (l, [], false) := by
  unfold Lib.cut
  rw [index_none h]
  simp

end Go.Proofs.YtkbdmdnahphkkaaGreatDoor
