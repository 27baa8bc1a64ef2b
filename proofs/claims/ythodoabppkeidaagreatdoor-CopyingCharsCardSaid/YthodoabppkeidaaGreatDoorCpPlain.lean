/-
  The samples of the statements' head, plain. No condition.
-/
import Derived.Test.YthodoabppkeidaaGreatDoorCpAlm
import Derived.Test.YthodoabppkeidaaGreatDoorCpNum
import Derived.Test.YthodoabppkeidaaGreatDoorCpChn
namespace Go.Proofs.YthodoabppkeidaaGreatDoor
theorem smp_code : codeOf 10 = [45, 46, 45] := rfl
theorem smp_keys1 : keysOf [75, 49, 65, 66, 67] = some [10, 27, 0, 1, 2] := by decide +kernel
theorem smp_keys2 : keysOf [75, 49, 65, 66, 83] = some [10, 27, 0, 1, 18] := by decide +kernel
theorem smp_cost (F : List Bytes) : lc (mdC F .morse) [10, 27, 0, 1, 2] [10, 27, 0, 1, 18] = 2 := by
  have e : mdC F .morse = mdC [] .morse := rfl
  rw [e]
  decide +kernel
theorem smp_keys3 : keysOf [68, 76, 49] = some [3, 11, 27] := by decide +kernel
theorem smp_keys4 : keysOf [76, 49] = some [11, 27] := by decide +kernel
theorem smp_align (c : Cs Nat) (h0 : ∀ x, c.sw x x = 0) (hm : c.ms = 2) (he : c.ex = 3) (h1 : 1 ≤ c.sw 3 11) : alL c [3, 11, 27] [11, 27] = [(0, -1, 2), (1, 0, 0), (2, 1, 0)] := by
  have e1 : lc c [27] [27] = 0 := by simp [lc, lcRow, h0]
  have e2 : lc c [11, 27] [11, 27] = 0 := by simp [lc, lcRow, h0]
  have e3 : lc c [11, 27] [27] = 2 := by simp [lc, lcRow, h0, hm, he]
  have e4 : lc c [3, 11, 27] [27] = 4 := by simp [lc, lcRow, h0, hm, he]
  have e5 : lc c [3, 11, 27] [11, 27] = 2 := by
    rw [lc_cons, e3, e2, e4, hm, he]; omega
  have e6 : lc c ([] : List Nat) [] = 0 := by simp [lc]
  have h4 : (c.sw 3 11 == 0) = false := by rw [beq_eq_false_iff_ne]; omega
  simp [alL, alG, stpsL, fitL, rstL, aftL, e1, e2, e3, e5, e6, hm, h0, h4]
theorem smp_dec : Lib.decDigits 599 = [53, 57, 57] := by
  rw [Lib.decDigits, dif_neg (by decide), Lib.decDigits, dif_neg (by decide), Lib.decDigits, dif_pos (by decide)]
  rfl
theorem smp_sent : sentL .morse 599 = [53, 78, 78] := by
  rw [sentL, smp_dec]
  decide +kernel
theorem smp_rise : riseL [1, 5, 2, 3, 9] = [1, 5, 6, 7, 9] := by decide +kernel
end Go.Proofs.YthodoabppkeidaaGreatDoor
