/-
  Split and ValidCall of the program: the parts of a text, or none, for every text of any length in a world that has the library's variable MaxLen. (The bound on a text's length is not needed: longer ones are refused first.)
-/
import Derived.Test.YtkbdmdnahphkkaaGreatDoorForms
import Derived.Test.YtkbdmdnahphkkaaGreatDoorShelf
import Derived.Lib.SplitLaws
import Derived.Lib.CountLaws
import Derived.Lib.IndexBytes
import Derived.Lib.Split
namespace Go.Proofs.YtkbdmdnahphkkaaGreatDoor
open Go.RowKit
/-- What stands between the bytes c of a text. -/
def piecesL (c : UInt8) : Bytes → List Bytes
  | [] => [[]]
  | a :: l => if a = c then [] :: piecesL c l else match piecesL c l with
    | p :: ps => (a :: p) :: ps
    | [] => [[a]]
theorem split_pieces (c : UInt8) : ∀ l : Bytes, Lib.splitK [c] 0 (Lib.count l [c]) l = piecesL c l
  | [] => rfl
  | b :: l => by
    have ih := split_pieces c l
    by_cases hb : b = c
    · subst hb
      rw [Lib.count_cons_eq, Nat.add_comm 1, Lib.splitK, piecesL, if_pos rfl, ← ih]
      have hi : Lib.index (b :: l) [b] = 0 := by simp [Lib.index]
      simp [hi]
    · rw [Lib.count_cons_ne b c l hb, piecesL, if_neg hb, ← ih]
      cases hk : Lib.count l [c] with
      | zero => simp [Lib.splitK]
      | succ k =>
        have hm : Lib.index l [c] ≠ -1 := fun h => by rw [Lib.count_miss h] at hk; cases hk
        have hg := Lib.index_ge l [c]
        have hi : Lib.index (b :: l) [c] = Lib.index l [c] + 1 := by
          simp only [Lib.index, beq_iff_eq, if_neg hm]
          rw [if_neg]
          simp
          exact fun h => hb h.symm
        rw [Lib.splitK, Lib.splitK, hi, if_neg (by simp; omega), if_neg (by simp; exact hm)]
        obtain ⟨n, hn⟩ := Int.eq_ofNat_of_zero_le (by omega : 0 ≤ Lib.index l [c])
        rw [hn]
        simp
theorem splitB_pieces (s : ByteArray) (c : UInt8) : (Lib.splitB ⟨#[c]⟩ 0 (Lib.countB s ⟨#[c]⟩) s).map bs = piecesL c (bs s) :=
  (Lib.splitB_data ⟨#[c]⟩ 0 _ s).trans (split_pieces c (bs s))
theorem pieces_len (c : UInt8) : ∀ l : Bytes, (piecesL c l).length ≤ l.length + 1 ∧ piecesL c l ≠ [] ∧ ∀ p ∈ piecesL c l, p.length ≤ l.length
  | [] => ⟨Nat.le_refl _, by simp [piecesL], by simp [piecesL]⟩
  | a :: l => by
    obtain ⟨h1, h2, h3⟩ := pieces_len c l
    rw [piecesL]
    split
    · refine ⟨by simp; omega, by simp, fun p hp => ?_⟩
      rcases List.mem_cons.1 hp with rfl | hp
      · simp
      · have := h3 p hp; simp; omega
    · cases hq : piecesL c l with
      | nil => exact absurd hq h2
      | cons p ps =>
        rw [hq] at h1 h3
        refine ⟨by simpa using Nat.le_succ_of_le h1, by simp, fun x hx => ?_⟩
        rcases List.mem_cons.1 hx with rfl | hx
        · have := h3 p (List.mem_cons_self ..); simp; omega
        · have := h3 x (List.mem_cons_of_mem _ hx); simp; omega
/-- The parts of a call sign: area, prefix, suffix, stroke. -/
structure P4 where
  area : Bytes
  pre : Bytes
  suf : Bytes
  stroke : Bytes
def formV : Nat → List Bytes → Option P4
  | 0, [x] => if baseB x then some ⟨[], x.take (cutB x), x.drop (cutB x), []⟩ else none
  | 1, [x, y] => if baseB y && areaB x && decide (x.length < y.length) then some ⟨x, y.take (cutB y), y.drop (cutB y), []⟩ else none
  | 2, [x, y] => if baseB x && strokeB y then some ⟨[], x.take (cutB x), x.drop (cutB x), y⟩ else none
  | 3, [z, x, y] => if baseB x && areaB z && strokeB y then some ⟨z, x.take (cutB x), x.drop (cutB x), y⟩ else none
  | _, _ => none
/-- The first form from number k on that fits. -/
def tryV (ws : List Bytes) : Nat → Nat → Option P4
  | 0, _ => none
  | f + 1, k => match formV k ws with
    | some p => some p
    | none => tryV ws f (k + 1)
def splitV (s : Bytes) : Option P4 := if 16 < s.length then none else tryV (piecesL 47 s) 4 0
def p4V : Option P4 → Value
  | some p => partsV p.area p.pre p.suf p.stroke
  | none => partsV [] [] [] []
def p4E : Option P4 → Int
  | some _ => 0
  | none => 10
theorem formV_len {k : Nat} {ws : List Bytes} {p : P4} (h : formV k ws = some p) : (k = 0 → ws.length = 1) ∧ (k = 1 → ws.length = 2) ∧ (k = 2 → ws.length = 2) ∧ (k = 3 → ws.length = 3) := by
  unfold formV at h
  split at h <;> simp_all
theorem tryV_none {ws : List Bytes} {f k : Nat} (h : formV k ws = none) : tryV ws (f + 1) k = tryV ws f (k + 1) := by rw [tryV, h]
theorem tryV_some {ws : List Bytes} {f k : Nat} {p : P4} (h : formV k ws = some p) : tryV ws (f + 1) k = some p := by rw [tryV, h]

end Go.Proofs.YtkbdmdnahphkkaaGreatDoor
