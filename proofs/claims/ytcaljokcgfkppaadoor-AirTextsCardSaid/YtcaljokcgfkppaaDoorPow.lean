/-
  The library's table of powers of ten in a world, and pad of the program for numbers up to 99999.
-/
import Derived.Test.YtcaljokcgfkppaaDoorEx
import Derived.Lib.LaidTab
import Derived.Lib.ItoaMem
import Derived.Lib.AppendIntMem
namespace Go.Proofs.YtcaljokcgfkppaaDoor
open Go.RowKit
open Go.Sort
/-- The table of powers of ten is as the library lays it. -/
def HasPow (w : World) : Prop := Lib.TabIs Tryd.prog w "internal/strconv.uint64pow10" .u64 Lib.pow10Tab
theorem HasPow.keep {w w' : World} (h : HasPow w) (k : New w w') : HasPow w' := by
  unfold HasPow Lib.TabIs World.var? at h ⊢
  cases hg : Tryd.prog.globalNamed "internal/strconv.uint64pow10" with
  | none => rw [hg] at h; cases h
  | some g =>
    rw [hg] at h
    simp only [Option.bind_some] at h ⊢
    cases hb : w.heap[g]? with
    | none => rw [hb] at h; cases h
    | some o =>
      rw [hb] at h
      rw [heap_keep k hb]
      exact h
theorem air_pad (n d : Nat) (w : World) (hp : HasPow w) (hn : n ≤ 99999) (hd : d ≤ 5) :
    Calls Tryd.prog 58 #[.int .i64 n, .int .i64 d] w fun e w' => e = .returned (.string (B (padL n d))) ∧ New w w' := by
  have hl : (Lib.decDigits n).length ≤ 5 := by
    have h := padL_len 5 n 1 (by omega) (by omega) (by omega)
    unfold padL at h
    rw [List.length_append] at h
    omega
  have HP := Lib.hid hp
  clear hp
  go_enter Tryd.func58, Tryd.ntmps58
  go_wp2_with fail
  refine (Tryd.strconv_Itoa n (by omega) (by omega) w HP.out).mono ?_
  rintro e w1 ⟨rfl, k, os, rfl⟩
  rw [Lib.itoa_nonneg]
  have hN : New w (grow (w.drewN k) os) := Lib.below_grow w.heap.size w (Nat.le_refl _) k os
  have HN := Lib.hid hN
  clear hN
  generalize grow (w.drewN k) os = w1 at *
  go_wp2_with fail
  have hm : max ((d : Int) - ((Lib.decDigits n).length : Int)) 0 = ((d - (Lib.decDigits n).length : Nat) : Int) := by omega
  rw [hm]
  have h48 : (⟨#[48]⟩ : ByteArray).size = 1 := rfl
  refine (Tryd.strings_Repeat ⟨#[48]⟩ _ w1 (by omega) (by rw [h48]; omega)).mono ?_
  rintro e w2 ⟨rfl, h2⟩
  have e1 : (⟨(Lib.repeatL (⟨#[48]⟩ : ByteArray).data.toList (d - (Lib.decDigits n).length)).toArray⟩ : ByteArray) = B (List.replicate (d - (Lib.decDigits n).length) 48) := by rw [← repeat_one]; rfl
  have e2 : (⟨(Lib.decDigits n).toArray⟩ : ByteArray) = B (Lib.decDigits n) := rfl
  have HX : B (List.replicate (d - (Lib.decDigits n).length) 48) ++ B (Lib.decDigits n) = B (padL n d) := by rw [B_append]; rfl
  have s1 : (B (List.replicate (d - (Lib.decDigits n).length) 48)).size = d - (Lib.decDigits n).length := by rw [B_size, List.length_replicate]
  have s2 : (B (Lib.decDigits n)).size = (Lib.decDigits n).length := B_size _
  rw [e1]
  simp only [e2]
  generalize B (List.replicate (d - (Lib.decDigits n).length) 48) = x at *
  generalize hy : B (Lib.decDigits n) = y at *
  generalize (Lib.decDigits n).length = l at *
  go_wp2_with fail
  go_ret
  exact ⟨by rw [← HX]; rfl, HN.out.trans h2⟩

end Go.Proofs.YtcaljokcgfkppaaDoor
