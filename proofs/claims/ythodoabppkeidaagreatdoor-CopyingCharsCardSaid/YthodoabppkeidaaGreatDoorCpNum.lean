/-
  Numbers as they are sent and read, plain: a number is read from its own digits, and different numbers have different digits. Condition: numbers up to 99999.
-/
import Derived.Test.YthodoabppkeidaaGreatDoorCpChars
import Derived.Lib.ItoaNum
namespace Go.Proofs.YthodoabppkeidaaGreatDoor
def Digs (l : Bytes) : Prop := ∀ c ∈ l, 48 ≤ c.toNat ∧ c.toNat ≤ 57
def valL (n : Nat) (l : Bytes) : Nat := l.foldl (fun a c => a * 10 + (c.toNat - 48)) n
theorem valL_cons (n : Nat) (c : UInt8) (l : Bytes) : valL n (c :: l) = valL (n * 10 + (c.toNat - 48)) l := by simp only [valL, List.foldl_cons]
theorem valL_snoc (c : UInt8) (l : Bytes) (n : Nat) : valL n (l ++ [c]) = valL n l * 10 + (c.toNat - 48) := by simp only [valL, List.foldl_append, List.foldl_cons, List.foldl_nil]
theorem dig_num (n : Nat) : (UInt8.ofNat (48 + n % 10)).toNat = 48 + n % 10 := by
  rw [UInt8.toNat_ofNat']
  omega
/-- The digits of a number: at least one, at most k below 10 to the power of k. -/
theorem dec_facts : ∀ (k n : Nat), n < 10 ^ (k + 1) → Digs (Lib.decDigits n) ∧ valL 0 (Lib.decDigits n) = n ∧ 1 ≤ (Lib.decDigits n).length ∧ (Lib.decDigits n).length ≤ k + 1
  | k, n, h => by
    unfold Lib.decDigits
    by_cases h10 : n < 10
    · rw [dif_pos h10]
      have e : (UInt8.ofNat (48 + n)).toNat = 48 + n := by rw [UInt8.toNat_ofNat']; omega
      refine ⟨fun x hx => ?_, ?_, by simp, by simp⟩
      · rw [List.mem_singleton] at hx
        subst hx
        rw [e]; omega
      · rw [valL_cons, e]
        simp [valL]
    · rw [dif_neg h10]
      match k, h with
      | 0, h => simp at h; omega
      | k + 1, h =>
        obtain ⟨h1, h2, h3, h4⟩ := dec_facts k (n / 10) (by rw [Nat.pow_succ] at h; omega)
        refine ⟨fun x hx => ?_, ?_, by simp, by simp; omega⟩
        · rcases List.mem_append.1 hx with hx | hx
          · exact h1 x hx
          · rw [List.mem_singleton] at hx
            subst hx
            rw [dig_num]; omega
        · rw [valL_snoc, h2, dig_num]; omega
/-- The characters that are sent for the digits from 0 to 9. -/
def figL : Md → Bytes
  | .morse => [84, 65, 50, 51, 52, 53, 54, 55, 56, 78]
  | _ => [48, 49, 50, 51, 52, 53, 54, 55, 56, 57]
def digL : Bytes := [48, 49, 50, 51, 52, 53, 54, 55, 56, 57]
theorem figL_len (m : Md) : (figL m).length = 10 := by cases m <;> rfl
def figOf (m : Md) (c : UInt8) : UInt8 := (figL m).getD (c.toNat - 48) 0
/-- A number as it is sent. -/
def sentL (m : Md) (n : Nat) : Bytes := (Lib.decDigits n).map (figOf m)
/-- The digit that a character stands for, or -1. -/
def readC (m : Md) (c : UInt8) : Int := max (Lib.indexByte digL c) (Lib.indexByte (figL m) c)
def numG (m : Md) : Nat → Bytes → Option Nat
  | n, [] => some n
  | n, c :: l => if readC m c < 0 then none else numG m (10 * n + (readC m c).toNat) l
/-- The number that a text stands for. -/
def numL (m : Md) (l : Bytes) : Option Nat := if l.length < 1 ∨ 5 < l.length then none else numG m 0 l
theorem fig_fin : ∀ d : Fin 10, readC .morse (figOf .morse (UInt8.ofNat (48 + d.val))) = d.val ∧ readC .voice (figOf .voice (UInt8.ofNat (48 + d.val))) = d.val ∧ readC .data (figOf .data (UInt8.ofNat (48 + d.val))) = d.val := by decide +kernel
theorem fig_back (m : Md) {c : UInt8} (h : 48 ≤ c.toNat ∧ c.toNat ≤ 57) : readC m (figOf m c) = (c.toNat - 48 : Nat) := by
  have h1 := fig_fin ⟨c.toNat - 48, by omega⟩
  have e : UInt8.ofNat (48 + (c.toNat - 48)) = c := by
    rw [show 48 + (c.toNat - 48) = c.toNat by omega]; simp
  simp only [e] at h1
  cases m
  · exact h1.1
  · exact h1.2.1
  · exact h1.2.2
theorem numG_sent (m : Md) : ∀ (l : Bytes) (n : Nat), Digs l → numG m n (l.map (figOf m)) = some (valL n l)
  | [], n, _ => rfl
  | c :: l, n, h => by
    have hc := h c (List.mem_cons_self ..)
    rw [List.map_cons, numG, fig_back m hc, if_neg (by omega), Int.toNat_natCast, numG_sent m l _ (fun x hx => h x (List.mem_cons_of_mem _ hx)), valL_cons, Nat.mul_comm]
theorem sent_len (m : Md) {n : Nat} (h : n ≤ 99999) : 1 ≤ (sentL m n).length ∧ (sentL m n).length ≤ 5 := by
  obtain ⟨_, _, h3, h4⟩ := dec_facts 4 n (by omega)
  rw [sentL, List.length_map]
  exact ⟨h3, h4⟩
/-- A number is read from its own digits. -/
theorem num_back (m : Md) {n : Nat} (h : n ≤ 99999) : numL m (sentL m n) = some n := by
  obtain ⟨h1, h2, _, _⟩ := dec_facts 4 n (by omega)
  have h3 := sent_len m h
  rw [numL, if_neg (by omega), sentL, numG_sent m _ 0 h1, h2]
theorem sent_inj (m : Md) {a b : Nat} (ha : a ≤ 99999) (hb : b ≤ 99999) (h : sentL m a = sentL m b) : a = b := by
  have h1 := num_back m ha
  rw [h, num_back m hb] at h1
  exact (Option.some.inj h1).symm
theorem fig_key_fin : ∀ d : Fin 10, keyOf (figOf .morse (UInt8.ofNat (48 + d.val))) < 37 ∧ keyOf (figOf .voice (UInt8.ofNat (48 + d.val))) < 37 ∧ keyOf (figOf .data (UInt8.ofNat (48 + d.val))) < 37 := by decide +kernel
theorem fig_key (m : Md) {c : UInt8} (h : 48 ≤ c.toNat ∧ c.toNat ≤ 57) : keyOf (figOf m c) < 37 := by
  have h1 := fig_key_fin ⟨c.toNat - 48, by omega⟩
  have e : UInt8.ofNat (48 + (c.toNat - 48)) = c := by
    rw [show 48 + (c.toNat - 48) = c.toNat by omega]; simp
  simp only [e] at h1
  cases m
  · exact h1.1
  · exact h1.2.1
  · exact h1.2.2
/-- A number as it is sent is a text of characters. -/
theorem sent_keys (m : Md) {n : Nat} (h : n ≤ 99999) : ∃ ks, keysOf (sentL m n) = some ks := by
  obtain ⟨h1, _, _, _⟩ := dec_facts 4 n (by omega)
  exact ⟨_, keysOf_map fun b hb => by
    rw [sentL, List.mem_map] at hb
    obtain ⟨c, hc, rfl⟩ := hb
    exact fig_key m (h1 c hc)⟩
/-- A number that lies in the range has a mode and digits. -/
def digE (mode n : Int) : Int := if mdOf mode = none then 40 else if 0 ≤ n ∧ n ≤ 99999 then 0 else 1
end Go.Proofs.YthodoabppkeidaaGreatDoor
