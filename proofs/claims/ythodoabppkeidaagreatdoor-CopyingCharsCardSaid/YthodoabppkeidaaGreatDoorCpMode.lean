/-
  The methods of the modes but the swap of Morse codes: what a miss and an extra cost, and the swaps of signs, of voice and of data. Condition: the tables lie in memory.
-/
import Derived.Test.YthodoabppkeidaaGreatDoorCpText
namespace Go.Proofs.YthodoabppkeidaaGreatDoor
open Go Go.RowKit
theorem cp_morse_miss (w : World) : Calls Tryz.prog 164 #[.agg #[]] w fun e w' => e = .returned (.int .i64 3) ∧ New w w' := by
  go_enter Tryz.func164, Tryz.ntmps164
  go_wp2_with fail
  go_ret
  exact ⟨rfl, (New.refl w).alloc _⟩
theorem cp_morse_extra (w : World) : Calls Tryz.prog 162 #[.agg #[]] w fun e w' => e = .returned (.int .i64 3) ∧ New w w' := by
  go_enter Tryz.func162, Tryz.ntmps162
  go_wp2_with fail
  go_ret
  exact ⟨rfl, (New.refl w).alloc _⟩
theorem cp_voice_miss (w : World) : Calls Tryz.prog 170 #[.agg #[]] w fun e w' => e = .returned (.int .i64 2) ∧ New w w' := by
  go_enter Tryz.func170, Tryz.ntmps170
  go_wp2_with fail
  go_ret
  exact ⟨rfl, (New.refl w).alloc _⟩
theorem cp_voice_extra (w : World) : Calls Tryz.prog 168 #[.agg #[]] w fun e w' => e = .returned (.int .i64 3) ∧ New w w' := by
  go_enter Tryz.func168, Tryz.ntmps168
  go_wp2_with fail
  go_ret
  exact ⟨rfl, (New.refl w).alloc _⟩
theorem cp_data_miss (w : World) : Calls Tryz.prog 174 #[.agg #[]] w fun e w' => e = .returned (.int .i64 2) ∧ New w w' := by
  go_enter Tryz.func174, Tryz.ntmps174
  go_wp2_with fail
  go_ret
  exact ⟨rfl, (New.refl w).alloc _⟩
theorem cp_data_extra (w : World) : Calls Tryz.prog 172 #[.agg #[]] w fun e w' => e = .returned (.int .i64 2) ∧ New w w' := by
  go_enter Tryz.func172, Tryz.ntmps172
  go_wp2_with fail
  go_ret
  exact ⟨rfl, (New.refl w).alloc _⟩
theorem cp_data_swap (x y : Int) (w : World) : Calls Tryz.prog 175 #[.agg #[], .int .i64 x, .int .i64 y] w fun e w' => e = .returned (.int .i64 2) ∧ New w w' := by
  go_enter Tryz.func175, Tryz.ntmps175
  go_wp2_with fail
  go_ret
  exact ⟨rfl, (New.refl w).alloc _⟩
theorem cp_signs_miss (w : World) : Calls Tryz.prog 179 #[.agg #[]] w fun e w' => e = .returned (.int .i64 1) ∧ New w w' := by
  go_enter Tryz.func179, Tryz.ntmps179
  go_wp2_with fail
  go_ret
  exact ⟨rfl, (New.refl w).alloc _⟩
theorem cp_signs_extra (w : World) : Calls Tryz.prog 178 #[.agg #[]] w fun e w' => e = .returned (.int .i64 1) ∧ New w w' := by
  go_enter Tryz.func178, Tryz.ntmps178
  go_wp2_with fail
  go_ret
  exact ⟨rfl, (New.refl w).alloc _⟩
theorem cp_signs_swap (x y : Int) (w : World) : Calls Tryz.prog 180 #[.agg #[], .int .u8 x, .int .u8 y] w fun e w' => e = .returned (.int .i64 1) ∧ New w w' := by
  go_enter Tryz.func180, Tryz.ntmps180
  go_wp2_with fail
  go_ret
  exact ⟨rfl, (New.refl w).alloc _⟩
theorem cp_voice_swap (F : List Bytes) (x y : Nat) (hx : x < 37) (hy : y < 37) (w : World) (hT : TabAt w F) :
    Calls Tryz.prog 171 #[.agg #[], .int .i64 x, .int .i64 y] w fun e w' => e = .returned (.int .i64 (mdSw F .voice x y : Nat)) ∧ New w w' := by
  have hT2 := hT.keep ((New.refl w).alloc (.cells #[] 132))
  by_cases h : famOf F x = famOf F y
  · have h1 : (((famOf F x : Nat) : Int) == ((famOf F y : Nat) : Int)) = true := by rw [h]; simp
    have e1 : mdSw F .voice x y = 1 := by simp [mdSw, h]
    have H := Lib.hid h
    have HT := Lib.hid hT2
    clear h hT hT2
    rw [e1]
    go_enter Tryz.func171, Tryz.ntmps171
    go_wp2_with fail
    refine (cp_familyOf F x hx _ HT.out).mono ?_
    rintro e w' ⟨rfl, rfl⟩
    go_wp2_with fail
    refine (cp_familyOf F y hy _ HT.out).mono ?_
    rintro e w' ⟨rfl, rfl⟩
    go_wp2_with fail
    go_ret
    exact ⟨rfl, (New.refl w).alloc _⟩
  · have h1 : (((famOf F x : Nat) : Int) == ((famOf F y : Nat) : Int)) = false := by rw [beq_eq_false_iff_ne]; omega
    have e1 : mdSw F .voice x y = 3 := by simp [mdSw, h]
    have HT := Lib.hid hT2
    clear h hT hT2
    rw [e1]
    go_enter Tryz.func171, Tryz.ntmps171
    go_wp2_with fail
    refine (cp_familyOf F x hx _ HT.out).mono ?_
    rintro e w' ⟨rfl, rfl⟩
    go_wp2_with fail
    refine (cp_familyOf F y hy _ HT.out).mono ?_
    rintro e w' ⟨rfl, rfl⟩
    go_wp2_with fail
    go_ret
    exact ⟨rfl, (New.refl w).alloc _⟩

/-- Which function an interface's call comes to. -/
theorem mth_signs_swap (w : World) : (method 314 211 (.agg #[]) "pileup/copying.swap").run Tryz.prog w = .ok (180, .agg #[]) w := by kernel_rfl
theorem mth_signs_miss (w : World) : (method 314 211 (.agg #[]) "pileup/copying.miss").run Tryz.prog w = .ok (179, .agg #[]) w := by kernel_rfl
theorem mth_signs_extra (w : World) : (method 314 211 (.agg #[]) "pileup/copying.extra").run Tryz.prog w = .ok (178, .agg #[]) w := by kernel_rfl
theorem mth_morse_swap (w : World) : (method 314 131 (.agg #[]) "pileup/copying.swap").run Tryz.prog w = .ok (165, .agg #[]) w := by kernel_rfl
theorem mth_morse_miss (w : World) : (method 314 131 (.agg #[]) "pileup/copying.miss").run Tryz.prog w = .ok (164, .agg #[]) w := by kernel_rfl
theorem mth_morse_extra (w : World) : (method 314 131 (.agg #[]) "pileup/copying.extra").run Tryz.prog w = .ok (162, .agg #[]) w := by kernel_rfl
theorem mth_voice_swap (w : World) : (method 314 132 (.agg #[]) "pileup/copying.swap").run Tryz.prog w = .ok (171, .agg #[]) w := by kernel_rfl
theorem mth_voice_miss (w : World) : (method 314 132 (.agg #[]) "pileup/copying.miss").run Tryz.prog w = .ok (170, .agg #[]) w := by kernel_rfl
theorem mth_voice_extra (w : World) : (method 314 132 (.agg #[]) "pileup/copying.extra").run Tryz.prog w = .ok (168, .agg #[]) w := by kernel_rfl
theorem mth_data_swap (w : World) : (method 314 133 (.agg #[]) "pileup/copying.swap").run Tryz.prog w = .ok (175, .agg #[]) w := by kernel_rfl
theorem mth_data_miss (w : World) : (method 314 133 (.agg #[]) "pileup/copying.miss").run Tryz.prog w = .ok (174, .agg #[]) w := by kernel_rfl
theorem mth_data_extra (w : World) : (method 314 133 (.agg #[]) "pileup/copying.extra").run Tryz.prog w = .ok (172, .agg #[]) w := by kernel_rfl
set_option maxRecDepth 100000 in
/-- swapCost of signs. -/
theorem cp_swapCost_sign (x y : UInt8) (w : World) :
    Calls Tryz.prog 167 #[.iface 211 (.agg #[]), .int .u8 x.toNat, .int .u8 y.toNat] w fun e w' => e = .returned (.int .i64 (signC.sw x y : Nat)) ∧ New w w' := by
  by_cases h : x = y
  · subst h
    rw [sign_self]
    have h1 : (((x.toNat : Nat) : Int) == ((x.toNat : Nat) : Int)) = true := by simp
    go_enter Tryz.func167, Tryz.ntmps167
    go_wp2_with fail
    go_ret
    exact ⟨rfl, New.refl w⟩
  · have h1 : (((x.toNat : Nat) : Int) == ((y.toNat : Nat) : Int)) = false := by
      rw [beq_eq_false_iff_ne]
      intro e
      exact h (UInt8.toNat_inj.1 (by omega))
    have e1 : signC.sw x y = 1 := by simp [signC, h]
    have hm := mth_signs_swap
    clear h
    rw [e1]
    go_enter Tryz.func167, Tryz.ntmps167
    go_wp2_with fail
    refine (cp_signs_swap _ _ _).mono ?_
    rintro e w' ⟨rfl, h2⟩
    go_wp2_with fail
    go_ret
    exact ⟨rfl, h2⟩

end Go.Proofs.YthodoabppkeidaaGreatDoor
