/-
  Plain facts on texts, no program: bytes as lists, counts over runes are counts over bytes, what a base, an area, a stroke is, and the parts of a call sign. No condition.
-/
import Derived.WalkKit
import Derived.Lib.DecodeN
import Derived.Lib.OthersKept
namespace Go.Proofs.YthodoabppkeidaaGreatDoor
open Go.RowKit

abbrev Bytes := List UInt8
def B (l : Bytes) : ByteArray := ⟨l.toArray⟩
def bs (s : ByteArray) : Bytes := s.data.toList
@[simp] theorem bs_B (l : Bytes) : bs (B l) = l := by simp [bs, B]
@[simp] theorem B_bs (s : ByteArray) : B (bs s) = s := by cases s; simp [bs, B]
theorem bs_size (s : ByteArray) : (bs s).length = s.size := by simp [bs]
theorem B_size (l : Bytes) : (B l).size = l.length := by rw [← bs_size, bs_B]
theorem bs_get (s : ByteArray) (i : Nat) (h : i < s.size) : (bs s)[i]? = some s[i] := by
  have h' : i < s.data.size := h
  show s.data.toList[i]? = _
  rw [Array.getElem?_toList, Array.getElem?_eq_getElem h']
  rfl
theorem B_inj {a b : Bytes} (h : B a = B b) : a = b := by rw [← bs_B a, h, bs_B]
theorem bs_inj {a b : ByteArray} (h : bs a = bs b) : a = b := by rw [← B_bs a, h, B_bs]

/-- How many bytes are from lo to hi. -/
def cntB (lo hi : Nat) (l : Bytes) : Nat := l.countP fun c => decide (lo ≤ c.toNat) && decide (c.toNat ≤ hi)
theorem cntB_le (lo hi : Nat) (l : Bytes) : cntB lo hi l ≤ l.length := List.countP_le_length

theorem get_of_lt (s : ByteArray) (i : Nat) (h : i < s.size) : s.get! i = s[i] := by
  simp [ByteArray.get!, getElem!_pos, h]
  rfl
/-- The runes of bytes that are not ASCII take bytes that are not. -/
theorem decode_skip (s : ByteArray) (pos : Nat) (h : pos < s.size) (ha : 128 ≤ (s[pos]'h).toNat) :
    pos + (Utf8.decode s pos).2 ≤ s.size ∧ ∀ j, pos ≤ j → j < pos + (Utf8.decode s pos).2 → ∀ (hj : j < s.size), 128 ≤ (s[j]'hj).toNat := by
  have g0 := get_of_lt s pos h
  have hn : ¬ (s.get! pos).toNat < 128 := by rw [g0]; omega
  have e := Lib.decode_at s pos
  have n1 : ∀ k, k < s.size → (s.get! k).toNat / 64 = 2 → ∀ (hj : k < s.size), 128 ≤ (s[k]'hj).toNat := fun k hk h2 hj => by
    rw [get_of_lt s k hk] at h2; omega
  have w1 : (Utf8.decode s pos).2 = 1 → pos + (Utf8.decode s pos).2 ≤ s.size ∧ ∀ j, pos ≤ j → j < pos + (Utf8.decode s pos).2 → ∀ (hj : j < s.size), 128 ≤ (s[j]'hj).toNat := fun hw => by
    rw [hw]
    refine ⟨by omega, fun j h1 h2 hj => ?_⟩
    obtain rfl : j = pos := by omega
    exact ha
  rw [e] at w1 ⊢
  unfold Lib.decodeN at w1 ⊢
  rw [if_neg hn] at w1 ⊢
  by_cases c1 : (s.get! pos).toNat / 32 = 6 ∧ (1 < s.size - pos ∧ (s.get! (pos + 1)).toNat / 64 = 2)
  · rw [if_pos c1] at w1 ⊢
    split
    · refine ⟨by omega, fun j h1 h2 hj => ?_⟩
      rcases (by omega : j = pos ∨ j = pos + 1) with rfl | rfl
      · exact ha
      · exact n1 _ hj c1.2.2 hj
    · rename_i hc
      rw [if_neg hc] at w1
      exact w1 rfl
  · rw [if_neg c1] at w1 ⊢
    by_cases c2 : (s.get! pos).toNat / 16 = 14 ∧ (1 < s.size - pos ∧ (s.get! (pos + 1)).toNat / 64 = 2) ∧ (2 < s.size - pos ∧ (s.get! (pos + 2)).toNat / 64 = 2)
    · rw [if_pos c2] at w1 ⊢
      split
      · refine ⟨by omega, fun j h1 h2 hj => ?_⟩
        rcases (by omega : j = pos ∨ j = pos + 1 ∨ j = pos + 2) with rfl | rfl | rfl
        · exact ha
        · exact n1 _ hj c2.2.1.2 hj
        · exact n1 _ hj c2.2.2.2 hj
      · rename_i hc
        rw [if_neg hc] at w1
        exact w1 rfl
    · rw [if_neg c2] at w1 ⊢
      by_cases c3 : (s.get! pos).toNat / 8 = 30 ∧ (1 < s.size - pos ∧ (s.get! (pos + 1)).toNat / 64 = 2) ∧ (2 < s.size - pos ∧ (s.get! (pos + 2)).toNat / 64 = 2) ∧ (3 < s.size - pos ∧ (s.get! (pos + 3)).toNat / 64 = 2)
      · rw [if_pos c3] at w1 ⊢
        split
        · refine ⟨by omega, fun j h1 h2 hj => ?_⟩
          rcases (by omega : j = pos ∨ j = pos + 1 ∨ j = pos + 2 ∨ j = pos + 3) with rfl | rfl | rfl | rfl
          · exact ha
          · exact n1 _ hj c3.2.1.2 hj
          · exact n1 _ hj c3.2.2.1.2 hj
          · exact n1 _ hj c3.2.2.2.2 hj
        · rename_i hc
          rw [if_neg hc] at w1
          exact w1 rfl
      · rw [if_neg c3] at w1 ⊢
        exact w1 rfl
theorem cntB_step {lo hi : Nat} (s : ByteArray) (pos : Nat) (h : pos < s.size) :
    cntB lo hi ((bs s).take (pos + 1)) = cntB lo hi ((bs s).take pos) + if lo ≤ (s[pos]'h).toNat ∧ (s[pos]'h).toNat ≤ hi then 1 else 0 := by
  have hl : pos < (bs s).length := by rw [bs_size]; exact h
  have hg : (bs s)[pos] = s[pos] := by have := bs_get s pos h; rw [List.getElem?_eq_getElem hl] at this; exact Option.some.inj this
  rw [List.take_succ_eq_append_getElem hl, cntB, List.countP_append, hg]
  simp only [cntB, List.countP_cons, List.countP_nil, Bool.and_eq_true, decide_eq_true_eq, Nat.zero_add]
  rfl
theorem cntB_high {lo hi : Nat} (hhi : hi < 128) (s : ByteArray) (pos : Nat) : ∀ n, pos + n ≤ s.size → (∀ j, pos ≤ j → j < pos + n → ∀ (hj : j < s.size), 128 ≤ (s[j]'hj).toNat) →
    cntB lo hi ((bs s).take (pos + n)) = cntB lo hi ((bs s).take pos)
  | 0, _, _ => rfl
  | n + 1, hn, hb => by
    have ih := cntB_high (lo := lo) hhi s pos n (by omega) (fun j h1 h2 hj => hb j h1 (by omega) hj)
    have hs := cntB_step (lo := lo) (hi := hi) s (pos + n) (by omega)
    have h1 := hb (pos + n) (by omega) (by omega) (by omega)
    rw [if_neg (by omega)] at hs
    rw [← Nat.add_assoc, hs, ih, Nat.add_zero]
end Go.Proofs.YthodoabppkeidaaGreatDoor
