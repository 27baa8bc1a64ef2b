/-
  partsOf, numbersOf and ValidExchange of the program, for all layouts and exchanges. No condition.
-/
import Derived.Test.YtcaljokcgfkppaaDoorRefEx
import Derived.Test.YtcaljokcgfkppaaDoorRefParts
import Derived.Test.YtcaljokcgfkppaaDoorPow
namespace Go.Proofs.YtcaljokcgfkppaaDoor
open Go.RowKit
/-- The parts of a layout, flat. -/
def partsA (r s z : Bool) : Value := .agg #[.bool r, .int .i64 599, .int .i64 1, .bool s, .int .i64 99999, .int .i64 3, .bool z, .int .i64 99, .int .i64 2]
theorem air_partsOf (r s z : Bool) (w : World) :
    Calls Tryd.prog 56 #[layV r s z] w fun e w' => e = .returned (partsA r s z) ∧ New w w' := by
  unfold layV
  go_enter Tryd.func56, Tryd.ntmps56
  go_wp2
  exact bodyPost_ret (v := partsA r s z) (by simp [results, Tryd.results56, go_sem, partsA]) rfl ⟨rfl, ((New.refl w).alloc _).alloc _⟩
theorem air_numbersOf (a b c : Int) (w : World) :
    Calls Tryd.prog 55 #[exV a b c] w fun e w' => e = .returned (.agg #[.int .i64 a, .int .i64 b, .int .i64 c]) ∧ New w w' := by
  unfold exV
  go_enter Tryd.func55, Tryd.ntmps55
  go_wp2
  exact bodyPost_ret (v := .agg #[.int .i64 a, .int .i64 b, .int .i64 c]) (by simp [results, Tryd.results55, go_sem]) rfl ⟨rfl, ((New.refl w).alloc _).alloc _⟩
theorem part0 (r s z : Bool) (w : World) : (Instr.index 88 (partsA r s z) (.int .i64 0)).run Tryd.prog w = .ok (.agg #[.bool r, .int .i64 599, .int .i64 1]) w := by kernel_rfl
theorem part1 (r s z : Bool) (w : World) : (Instr.index 88 (partsA r s z) (.int .i64 1)).run Tryd.prog w = .ok (.agg #[.bool s, .int .i64 99999, .int .i64 3]) w := by kernel_rfl
theorem part2 (r s z : Bool) (w : World) : (Instr.index 88 (partsA r s z) (.int .i64 2)).run Tryd.prog w = .ok (.agg #[.bool z, .int .i64 99, .int .i64 2]) w := by kernel_rfl
/-- The first k parts are valid. -/
def ValidTo (k : Nat) (r s z : Bool) (a b c : Int) : Prop := (1 ≤ k → hasV r a 599 = true) ∧ (2 ≤ k → hasV s b 99999 = true) ∧ (3 ≤ k → hasV z c 99 = true)
/-- Three numbers of an array in a block of their own. -/
def Num3 (w : World) (g : Nat) (a b c : Int) : Prop := w.heap[g]? = some (.cells #[.int .i64 a, .int .i64 b, .int .i64 c] 84 (0, 0))
theorem Num3.keep {w w' : World} {g : Nat} {a b c : Int} (h : Num3 w g a b c) (k : New w w') : Num3 w' g a b c := heap_keep k h
theorem Num3.cells {w : World} {g : Nat} {a b c : Int} (h : Num3 w g a b c) : w.cell? ⟨g, 0, none⟩ = some (.int .i64 a) ∧ w.cell? ⟨g, 1, none⟩ = some (.int .i64 b) ∧ w.cell? ⟨g, 2, none⟩ = some (.int .i64 c) := by
  unfold Num3 at h
  refine ⟨?_, ?_, ?_⟩
  · rw [cell_of_row _ _ 0 _ _ _ h]; rfl
  · rw [cell_of_row _ _ 1 _ _ _ h]; rfl
  · rw [cell_of_row _ _ 2 _ _ _ h]; rfl
set_option maxHeartbeats 4000000 in
theorem air_ValidExchange (r s z : Bool) (a b c : Int) (w : World) :
    Calls Tryd.prog 34 #[layV r s z, exV a b c] w fun e w' => e = .returned (.bool (validX r s z a b c)) ∧ New w w' := by
  have HN := Lib.hid (((New.refl w).alloc (.cells #[.bool r, .bool s, .bool z] 43)).alloc (.cells #[.int .i64 a, .int .i64 b, .int .i64 c] 45))
  have HX := Lib.hid (ExAt.new w r s z a b c)
  unfold layV exV
  go_enter Tryd.func34, Tryd.ntmps34
  go_wp2_with fail
  refine (air_numbersOf a b c _).mono ?_
  rintro e w1 ⟨rfl, h1⟩
  replace HX := Lib.hid (HX.out.keep h1)
  replace HN := Lib.hid (HN.out.trans h1)
  clear h1
  obtain ⟨c0, c1, c2, -, -, -⟩ := HX.out.cells
  have d0 := fun o => cell_alloc c0 o
  have d1 := fun o => cell_alloc c1 o
  have d2 := fun o => cell_alloc c2 o
  clear c0 c1 c2
  have HM : Hid (Num3 (w1.alloc (.cells #[.int .i64 a, .int .i64 b, .int .i64 c] 84)) w1.heap.size a b c) := Lib.hid (heap_alloc_new w1 _)
  have HN1 := Lib.hid (HN.out.alloc (.cells #[.int .i64 a, .int .i64 b, .int .i64 c] 84))
  go_wp2_with fail
  refine (air_partsOf r s z _).mono ?_
  rintro e w2 ⟨rfl, h2⟩
  clear d0 d1 d2
  replace HM := Lib.hid (HM.out.keep h2)
  replace HN := Lib.hid (HN1.out.trans h2)
  clear h2 HN1
  have hp0 := part0 r s z
  have hp1 := part1 r s z
  have hp2 := part2 r s z
  have HP0 := Lib.hid hp0
  have HP1 := Lib.hid hp1
  have HP2 := Lib.hid hp2
  clear hp0 hp1 hp2
  generalize partsA r s z = PA at *
  generalize w1.heap.size = g5 at *
  go_wp2_with fail
  go_loopw [12] (fun x wr => ∃ k : Nat, k ≤ 3 ∧ x = .int .i64 k ∧ ValidTo k r s z a b c ∧ New w2 wr) (fun x _ => 3 - (intOf x).toNat)
  case atStart => exact ⟨0, by omega, rfl, ⟨fun h => by omega, fun h => by omega, fun h => by omega⟩, New.refl _⟩
  case round =>
    obtain ⟨k, hk, rfl, hv, hnew⟩ := hrel
    have HVT := Lib.hid hv
    have HNW := Lib.hid hnew
    obtain ⟨n0, n1, n2⟩ := (HM.out.keep hnew).cells
    have e0 := fun o => cell_alloc n0 o
    have e1 := fun o => cell_alloc n1 o
    have e2 := fun o => cell_alloc n2 o
    clear hv hnew n0 n1 n2
    have hk4 : k = 0 ∨ k = 1 ∨ k = 2 ∨ k = 3 := by omega
    rcases hk4 with rfl | rfl | rfl | rfl
    · have hpk := HP0.out
      cases hr : r with
      | true =>
        rw [hr] at hpk
        cases hw : withinB a 1 599 with
        | true =>
          have HG : Hid (hasV r a 599 = true) := by
            have h : hasV r a 599 = true := by unfold hasV; rw [hr, if_pos rfl, hw]
            exact Lib.hid h
          go_wp2_with fail
          go_quiet ((go_at_call 65; exact quiet_same (air_within _ _ _ _)))
          rw [hw]
          clear hw
          go_wp2_with fail
          exact ⟨⟨1, by omega, rfl, ⟨fun _ => (by have h := HG.out; rw [hr] at h; exact h), fun h => by omega, fun h => by omega⟩, drewsN (HNW.out.alloc _)⟩, by simp [intOf]⟩
        | false =>
          have HG : Hid (hasV r a 599 = false) := by
            have h : hasV r a 599 = false := by unfold hasV; rw [hr, if_pos rfl, hw]
            exact Lib.hid h
          go_wp2_with fail
          go_quiet ((go_at_call 65; exact quiet_same (air_within _ _ _ _)))
          rw [hw]
          clear hw
          go_wp2_with fail
          go_ret
          exact ⟨by unfold validX; rw [HG.out]; rfl, HN.out.trans (drewsN (HNW.out.alloc _))⟩
      | false =>
        rw [hr] at hpk
        by_cases hw : a = 0
        · have HG : Hid (hasV r a 599 = true) := by
            have h : hasV r a 599 = true := by unfold hasV; rw [hr, if_neg (by decide), decide_eq_true hw]
            exact Lib.hid h
          have hw2 : (a != 0) = false := by rw [hw]; rfl
          have HW := Lib.hid hw
          clear hw
          go_wp2_with fail
          go_quiet (fail)
          go_wp2_with fail
          exact ⟨⟨1, by omega, rfl, ⟨fun _ => (by have h := HG.out; rw [hr] at h; exact h), fun h => by omega, fun h => by omega⟩, drewsN (HNW.out.alloc _)⟩, by simp [intOf]⟩
        · have HG : Hid (hasV r a 599 = false) := by
            have h : hasV r a 599 = false := by unfold hasV; rw [hr, if_neg (by decide), decide_eq_false hw]
            exact Lib.hid h
          have hw2 : (a != 0) = true := by rw [bne_iff_ne]; exact hw
          have HW := Lib.hid hw
          clear hw
          go_wp2_with fail
          go_quiet (fail)
          go_wp2_with fail
          go_ret
          exact ⟨by unfold validX; rw [HG.out]; rfl, HN.out.trans (drewsN (HNW.out.alloc _))⟩
    · have hpk := HP1.out
      cases hs : s with
      | true =>
        rw [hs] at hpk
        cases hw : withinB b 1 99999 with
        | true =>
          have HG : Hid (hasV s b 99999 = true) := by
            have h : hasV s b 99999 = true := by unfold hasV; rw [hs, if_pos rfl, hw]
            exact Lib.hid h
          go_wp2_with fail
          go_quiet ((go_at_call 65; exact quiet_same (air_within _ _ _ _)))
          rw [hw]
          clear hw
          go_wp2_with fail
          exact ⟨⟨2, by omega, rfl, ⟨fun _ => HVT.out.1 (by omega), fun _ => (by have h := HG.out; rw [hs] at h; exact h), fun h => by omega⟩, drewsN (HNW.out.alloc _)⟩, by simp [intOf]⟩
        | false =>
          have HG : Hid (hasV s b 99999 = false) := by
            have h : hasV s b 99999 = false := by unfold hasV; rw [hs, if_pos rfl, hw]
            exact Lib.hid h
          go_wp2_with fail
          go_quiet ((go_at_call 65; exact quiet_same (air_within _ _ _ _)))
          rw [hw]
          clear hw
          go_wp2_with fail
          go_ret
          exact ⟨by unfold validX; rw [HVT.out.1 (by omega), HG.out]; rfl, HN.out.trans (drewsN (HNW.out.alloc _))⟩
      | false =>
        rw [hs] at hpk
        by_cases hw : b = 0
        · have HG : Hid (hasV s b 99999 = true) := by
            have h : hasV s b 99999 = true := by unfold hasV; rw [hs, if_neg (by decide), decide_eq_true hw]
            exact Lib.hid h
          have hw2 : (b != 0) = false := by rw [hw]; rfl
          have HW := Lib.hid hw
          clear hw
          go_wp2_with fail
          go_quiet (fail)
          go_wp2_with fail
          exact ⟨⟨2, by omega, rfl, ⟨fun _ => HVT.out.1 (by omega), fun _ => (by have h := HG.out; rw [hs] at h; exact h), fun h => by omega⟩, drewsN (HNW.out.alloc _)⟩, by simp [intOf]⟩
        · have HG : Hid (hasV s b 99999 = false) := by
            have h : hasV s b 99999 = false := by unfold hasV; rw [hs, if_neg (by decide), decide_eq_false hw]
            exact Lib.hid h
          have hw2 : (b != 0) = true := by rw [bne_iff_ne]; exact hw
          have HW := Lib.hid hw
          clear hw
          go_wp2_with fail
          go_quiet (fail)
          go_wp2_with fail
          go_ret
          exact ⟨by unfold validX; rw [HVT.out.1 (by omega), HG.out]; rfl, HN.out.trans (drewsN (HNW.out.alloc _))⟩
    · have hpk := HP2.out
      cases hz : z with
      | true =>
        rw [hz] at hpk
        cases hw : withinB c 1 99 with
        | true =>
          have HG : Hid (hasV z c 99 = true) := by
            have h : hasV z c 99 = true := by unfold hasV; rw [hz, if_pos rfl, hw]
            exact Lib.hid h
          go_wp2_with fail
          go_quiet ((go_at_call 65; exact quiet_same (air_within _ _ _ _)))
          rw [hw]
          clear hw
          go_wp2_with fail
          exact ⟨⟨3, by omega, rfl, ⟨fun _ => HVT.out.1 (by omega), fun _ => HVT.out.2.1 (by omega), fun _ => (by have h := HG.out; rw [hz] at h; exact h)⟩, drewsN (HNW.out.alloc _)⟩, by simp [intOf]⟩
        | false =>
          have HG : Hid (hasV z c 99 = false) := by
            have h : hasV z c 99 = false := by unfold hasV; rw [hz, if_pos rfl, hw]
            exact Lib.hid h
          go_wp2_with fail
          go_quiet ((go_at_call 65; exact quiet_same (air_within _ _ _ _)))
          rw [hw]
          clear hw
          go_wp2_with fail
          go_ret
          exact ⟨by unfold validX; rw [HVT.out.1 (by omega), HVT.out.2.1 (by omega), HG.out]; rfl, HN.out.trans (drewsN (HNW.out.alloc _))⟩
      | false =>
        rw [hz] at hpk
        by_cases hw : c = 0
        · have HG : Hid (hasV z c 99 = true) := by
            have h : hasV z c 99 = true := by unfold hasV; rw [hz, if_neg (by decide), decide_eq_true hw]
            exact Lib.hid h
          have hw2 : (c != 0) = false := by rw [hw]; rfl
          have HW := Lib.hid hw
          clear hw
          go_wp2_with fail
          go_quiet (fail)
          go_wp2_with fail
          exact ⟨⟨3, by omega, rfl, ⟨fun _ => HVT.out.1 (by omega), fun _ => HVT.out.2.1 (by omega), fun _ => (by have h := HG.out; rw [hz] at h; exact h)⟩, drewsN (HNW.out.alloc _)⟩, by simp [intOf]⟩
        · have HG : Hid (hasV z c 99 = false) := by
            have h : hasV z c 99 = false := by unfold hasV; rw [hz, if_neg (by decide), decide_eq_false hw]
            exact Lib.hid h
          have hw2 : (c != 0) = true := by rw [bne_iff_ne]; exact hw
          have HW := Lib.hid hw
          clear hw
          go_wp2_with fail
          go_quiet (fail)
          go_wp2_with fail
          go_ret
          exact ⟨by unfold validX; rw [HVT.out.1 (by omega), HVT.out.2.1 (by omega), HG.out]; rfl, HN.out.trans (drewsN (HNW.out.alloc _))⟩
    · go_wp2_with fail
      go_ret
      exact ⟨by unfold validX; rw [HVT.out.1 (by omega), HVT.out.2.1 (by omega), HVT.out.2.2 (by omega)]; rfl, HN.out.trans HNW.out⟩

end Go.Proofs.YtcaljokcgfkppaaDoor
