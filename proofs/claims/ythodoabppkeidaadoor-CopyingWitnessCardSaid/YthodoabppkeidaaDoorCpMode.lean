/-
  The methods of the modes but the swap of Morse codes: what a miss and an extra cost, and the swaps of signs, of voice and of data. Condition: the tables lie in memory.
-/
import Derived.Test.YthodoabppkeidaaDoorCpText
namespace Go.Proofs.YthodoabppkeidaaDoor
open Go Go.RowKit
theorem cp_morse_miss (w : World) : Calls Tryd.prog 123 #[.agg #[]] w fun e w' => e = .returned (.int .i64 3) ∧ New w w' := by
  go_enter Tryd.func123, Tryd.ntmps123
  go_wp2_with fail
  go_ret
  exact ⟨rfl, (New.refl w).alloc _⟩
theorem cp_morse_extra (w : World) : Calls Tryd.prog 121 #[.agg #[]] w fun e w' => e = .returned (.int .i64 3) ∧ New w w' := by
  go_enter Tryd.func121, Tryd.ntmps121
  go_wp2_with fail
  go_ret
  exact ⟨rfl, (New.refl w).alloc _⟩
theorem cp_voice_miss (w : World) : Calls Tryd.prog 129 #[.agg #[]] w fun e w' => e = .returned (.int .i64 2) ∧ New w w' := by
  go_enter Tryd.func129, Tryd.ntmps129
  go_wp2_with fail
  go_ret
  exact ⟨rfl, (New.refl w).alloc _⟩
theorem cp_voice_extra (w : World) : Calls Tryd.prog 127 #[.agg #[]] w fun e w' => e = .returned (.int .i64 3) ∧ New w w' := by
  go_enter Tryd.func127, Tryd.ntmps127
  go_wp2_with fail
  go_ret
  exact ⟨rfl, (New.refl w).alloc _⟩
theorem cp_data_miss (w : World) : Calls Tryd.prog 133 #[.agg #[]] w fun e w' => e = .returned (.int .i64 2) ∧ New w w' := by
  go_enter Tryd.func133, Tryd.ntmps133
  go_wp2_with fail
  go_ret
  exact ⟨rfl, (New.refl w).alloc _⟩
theorem cp_data_extra (w : World) : Calls Tryd.prog 131 #[.agg #[]] w fun e w' => e = .returned (.int .i64 2) ∧ New w w' := by
  go_enter Tryd.func131, Tryd.ntmps131
  go_wp2_with fail
  go_ret
  exact ⟨rfl, (New.refl w).alloc _⟩
theorem cp_data_swap (x y : Int) (w : World) : Calls Tryd.prog 134 #[.agg #[], .int .i64 x, .int .i64 y] w fun e w' => e = .returned (.int .i64 2) ∧ New w w' := by
  go_enter Tryd.func134, Tryd.ntmps134
  go_wp2_with fail
  go_ret
  exact ⟨rfl, (New.refl w).alloc _⟩
theorem cp_signs_miss (w : World) : Calls Tryd.prog 138 #[.agg #[]] w fun e w' => e = .returned (.int .i64 1) ∧ New w w' := by
  go_enter Tryd.func138, Tryd.ntmps138
  go_wp2_with fail
  go_ret
  exact ⟨rfl, (New.refl w).alloc _⟩
theorem cp_signs_extra (w : World) : Calls Tryd.prog 137 #[.agg #[]] w fun e w' => e = .returned (.int .i64 1) ∧ New w w' := by
  go_enter Tryd.func137, Tryd.ntmps137
  go_wp2_with fail
  go_ret
  exact ⟨rfl, (New.refl w).alloc _⟩
theorem cp_signs_swap (x y : Int) (w : World) : Calls Tryd.prog 139 #[.agg #[], .int .u8 x, .int .u8 y] w fun e w' => e = .returned (.int .i64 1) ∧ New w w' := by
  go_enter Tryd.func139, Tryd.ntmps139
  go_wp2_with fail
  go_ret
  exact ⟨rfl, (New.refl w).alloc _⟩
theorem cp_voice_swap (F : List Bytes) (x y : Nat) (hx : x < 37) (hy : y < 37) (w : World) (hT : TabAt w F) :
    Calls Tryd.prog 130 #[.agg #[], .int .i64 x, .int .i64 y] w fun e w' => e = .returned (.int .i64 (mdSw F .voice x y : Nat)) ∧ New w w' := by
  have hT2 := hT.keep ((New.refl w).alloc (.cells #[] 129))
  by_cases h : famOf F x = famOf F y
  · have h1 : (((famOf F x : Nat) : Int) == ((famOf F y : Nat) : Int)) = true := by rw [h]; simp
    have e1 : mdSw F .voice x y = 1 := by simp [mdSw, h]
    have H := Lib.hid h
    have HT := Lib.hid hT2
    clear h hT hT2
    rw [e1]
    go_enter Tryd.func130, Tryd.ntmps130
    go_wp2_with fail
    refine (cp_familyOf F x hx _ HT.out).mono ?_
    rintro e w' ⟨rfl, rfl⟩
    go_wp2_with fail
    refine (cp_familyOf F y hy _ HT.out).mono ?_
    rintro e w' ⟨rfl, rfl⟩
    go_wp2_with fail
    go_ret
    exact ⟨rfl, (New.refl w).alloc _⟩
  · have h1 : (((famOf F x : Nat) : Int) == ((famOf F y : Nat) : Int)) = false := by rw [beq_eq_false_iff_ne]; omega
    have e1 : mdSw F .voice x y = 3 := by simp [mdSw, h]
    have HT := Lib.hid hT2
    clear h hT hT2
    rw [e1]
    go_enter Tryd.func130, Tryd.ntmps130
    go_wp2_with fail
    refine (cp_familyOf F x hx _ HT.out).mono ?_
    rintro e w' ⟨rfl, rfl⟩
    go_wp2_with fail
    refine (cp_familyOf F y hy _ HT.out).mono ?_
    rintro e w' ⟨rfl, rfl⟩
    go_wp2_with fail
    go_ret
    exact ⟨rfl, (New.refl w).alloc _⟩

/-- Which function an interface's call comes to. -/
theorem mth_signs_swap (w : World) : (method 294 191 (.agg #[]) "pileup/copying.swap").run Tryd.prog w = .ok (139, .agg #[]) w := by kernel_rfl
theorem mth_signs_miss (w : World) : (method 294 191 (.agg #[]) "pileup/copying.miss").run Tryd.prog w = .ok (138, .agg #[]) w := by kernel_rfl
theorem mth_signs_extra (w : World) : (method 294 191 (.agg #[]) "pileup/copying.extra").run Tryd.prog w = .ok (137, .agg #[]) w := by kernel_rfl
theorem mth_morse_swap (w : World) : (method 294 128 (.agg #[]) "pileup/copying.swap").run Tryd.prog w = .ok (124, .agg #[]) w := by kernel_rfl
theorem mth_morse_miss (w : World) : (method 294 128 (.agg #[]) "pileup/copying.miss").run Tryd.prog w = .ok (123, .agg #[]) w := by kernel_rfl
theorem mth_morse_extra (w : World) : (method 294 128 (.agg #[]) "pileup/copying.extra").run Tryd.prog w = .ok (121, .agg #[]) w := by kernel_rfl
theorem mth_voice_swap (w : World) : (method 294 129 (.agg #[]) "pileup/copying.swap").run Tryd.prog w = .ok (130, .agg #[]) w := by kernel_rfl
theorem mth_voice_miss (w : World) : (method 294 129 (.agg #[]) "pileup/copying.miss").run Tryd.prog w = .ok (129, .agg #[]) w := by kernel_rfl
theorem mth_voice_extra (w : World) : (method 294 129 (.agg #[]) "pileup/copying.extra").run Tryd.prog w = .ok (127, .agg #[]) w := by kernel_rfl
theorem mth_data_swap (w : World) : (method 294 130 (.agg #[]) "pileup/copying.swap").run Tryd.prog w = .ok (134, .agg #[]) w := by kernel_rfl
theorem mth_data_miss (w : World) : (method 294 130 (.agg #[]) "pileup/copying.miss").run Tryd.prog w = .ok (133, .agg #[]) w := by kernel_rfl
theorem mth_data_extra (w : World) : (method 294 130 (.agg #[]) "pileup/copying.extra").run Tryd.prog w = .ok (131, .agg #[]) w := by kernel_rfl
set_option maxRecDepth 100000 in
/-- swapCost of signs. -/
theorem cp_swapCost_sign (x y : UInt8) (w : World) :
    Calls Tryd.prog 126 #[.iface 191 (.agg #[]), .int .u8 x.toNat, .int .u8 y.toNat] w fun e w' => e = .returned (.int .i64 (signC.sw x y : Nat)) ∧ New w w' := by
  by_cases h : x = y
  · subst h
    rw [sign_self]
    have h1 : (((x.toNat : Nat) : Int) == ((x.toNat : Nat) : Int)) = true := by simp
    go_enter Tryd.func126, Tryd.ntmps126
    go_wp2_with fail
    go_ret
    exact ⟨rfl, New.refl w⟩
  · have h1 : (((x.toNat : Nat) : Int) == ((y.toNat : Nat) : Int)) = false := by
      rw [beq_eq_false_iff_ne]
      intro e
      exact h (UInt8.toNat_inj.1 (by omega))
    have e1 : signC.sw x y = 1 := by simp [signC, h]
    have hm := mth_signs_swap
    clear h
    rw [e1]
    go_enter Tryd.func126, Tryd.ntmps126
    go_wp2_with fail
    refine (cp_signs_swap _ _ _).mono ?_
    rintro e w' ⟨rfl, h2⟩
    go_wp2_with fail
    go_ret
    exact ⟨rfl, h2⟩

end Go.Proofs.YthodoabppkeidaaDoor
