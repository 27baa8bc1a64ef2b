/-
  awake of the statements' package: it returns true in every world that has the library's variable MaxLen.
-/
import Derived.Test.YtkbdmdnahphkkaaGreatDoorGNum
import Derived.Test.YtkbdmdnahphkkaaGreatDoorBands
namespace Go.Proofs.YtkbdmdnahphkkaaGreatDoor
open Go.RowKit
theorem time_1505 : timeL 1505 = [50,32,48,49,48,53] := by
  unfold timeL padL
  simp [Lib.decDigits]
theorem timeV_1505 : timeV 1505 = some [50,32,48,49,48,53] := by
  show (if withinB 1505 0 20000 then some (timeL 1505) else none) = _
  rw [if_pos (by decide), time_1505]
theorem ex_split (w : World) (hm : HasMax w) : Calls Tryz.prog 22 #[.string ⟨#[71,51,47,77,48,65,66,47,80]⟩] w fun e w' => e = .returned (.tuple #[.agg #[.string ⟨#[71,51]⟩, .string ⟨#[77,48]⟩, .string ⟨#[65,66]⟩, .string ⟨#[80]⟩], .int .i64 0]) ∧ New w w' :=
  air_Split ⟨#[71,51,47,77,48,65,66,47,80]⟩ w hm (by decide)
theorem ex_prefix (w : World) (hm : HasMax w) : Calls Tryz.prog 24 #[.string ⟨#[87,49,65,87,47,52]⟩] w fun e w' => e = .returned (.tuple #[.string ⟨#[87,52]⟩, .int .i64 0]) ∧ New w w' :=
  air_PrefixOf ⟨#[87,49,65,87,47,52]⟩ w hm (by decide)
theorem ex_valid (w : World) (hm : HasMax w) : Calls Tryz.prog 28 #[.string ⟨#[68,76,49,65,47,87,49,65]⟩] w fun e w' => e = .returned (.bool false) ∧ New w w' :=
  air_ValidCall ⟨#[68,76,49,65,47,87,49,65]⟩ w hm (by decide)
theorem ex_print (w : World) : Calls Tryz.prog 25 #[.int .i64 1505] w fun e w' => e = .returned (.tuple #[.string ⟨#[50,32,48,49,48,53]⟩, .int .i64 0]) ∧ New w w' := by
  have h := air_PrintTime 1505 w
  rw [timeV_1505] at h
  exact h
theorem parseV_1505 : parseV [50,32,48,49,48,53] = some 1505 := by
  show (if timeV 1505 = some [50,32,48,49,48,53] then some (1505 : Int) else none) = _
  rw [timeV_1505, if_pos rfl]
theorem ex_parse (w : World) (hm : HasMax w) : Calls Tryz.prog 26 #[.string ⟨#[50,32,48,49,48,53]⟩] w fun e w' => e = .returned (.tuple #[.int .i64 1505, .int .i64 0]) ∧ New w w' := by
  have h := air_ParseTime ⟨#[50,32,48,49,48,53]⟩ w hm (by decide)
  have e : parseV (bs ⟨#[50,32,48,49,48,53]⟩) = some 1505 := parseV_1505
  rw [e] at h
  exact h
theorem ex_bands (w : World) : BandsAt (w.alloc (.cells #[.int .i64 1, .int .i64 1800, .int .i64 2000, .int .i64 2, .int .i64 3500, .int .i64 3800] 58)) (some ⟨w.heap.size, 0, none⟩) 2 [⟨1, 1800, 2000⟩, ⟨2, 3500, 3800⟩] := by
  refine ⟨rfl, fun _ => ⟨w.heap.size, 0, rfl, by simp, fun i hi => ?_⟩⟩
  have hb := heap_alloc_new w (.cells #[.int .i64 1, .int .i64 1800, .int .i64 2000, .int .i64 2, .int .i64 3500, .int .i64 3800] 58)
  have h2 : i < 2 := hi
  obtain rfl | rfl : i = 0 ∨ i = 1 := by omega
  · exact ⟨by rw [cell_of_row _ _ _ _ _ _ hb]; rfl, by rw [cell_of_row _ _ _ _ _ _ hb]; rfl, by rw [cell_of_row _ _ _ _ _ _ hb]; rfl⟩
  · exact ⟨by rw [cell_of_row _ _ _ _ _ _ hb]; rfl, by rw [cell_of_row _ _ _ _ _ _ hb]; rfl, by rw [cell_of_row _ _ _ _ _ _ hb]; rfl⟩
theorem ex_nearest (w : World) : Calls Tryz.prog 27 #[.slice (some ⟨w.heap.size, 0, none⟩) 2 2, .int .i64 2750] (w.alloc (.cells #[.int .i64 1, .int .i64 1800, .int .i64 2000, .int .i64 2, .int .i64 3500, .int .i64 3800] 58)) fun e w' => e = .returned (.tuple #[.int .i64 1, .int .i64 750, .int .i64 0]) ∧ New w w' :=
  (air_Nearest _ 2 2 _ 2750 _ (ex_bands w) (by decide) (by decide)).mono fun _ _ h => ⟨h.1, ((New.refl w).alloc _).trans h.2⟩
theorem law_awake (w : World) (hm : HasMax w) :
    Calls Tryz.prog 8 #[] w fun e w' => e = .returned (.bool true) ∧ New w w' := by
  go_enter Tryz.func8, Tryz.ntmps8
  go_wp2_with fail
  refine (ex_split w hm).mono ?_
  rintro e w1 ⟨rfl, h1⟩
  have hm := hm.keep h1
  go_wp2_with fail
  have hP := PartsIn.new w1 ⟨#[71,51]⟩ ⟨#[77,48]⟩ ⟨#[65,66]⟩ ⟨#[80]⟩
  have hm := hm.keep ((New.refl _).alloc (.cells #[.string ⟨#[71,51]⟩, .string ⟨#[77,48]⟩, .string ⟨#[65,66]⟩, .string ⟨#[80]⟩] 45))
  refine (ex_prefix _ hm).mono ?_
  rintro e w2 ⟨rfl, h2⟩
  have HN := Lib.hid ((h1.alloc _).trans h2)
  have HP := Lib.hid (hP.keep h2)
  have HM := Lib.hid (hm.keep h2)
  clear h1 h2 hP hm
  go_wp2_with fail
  refine (ex_print _).mono ?_
  rintro e w3 ⟨rfl, h3⟩
  replace HN := Lib.hid (HN.out.trans h3)
  replace HP := Lib.hid (HP.out.keep h3)
  replace HM := Lib.hid (HM.out.keep h3)
  clear h3
  go_wp2_with fail
  refine (ex_parse _ HM.out).mono ?_
  rintro e w4 ⟨rfl, h4⟩
  replace HN := Lib.hid (HN.out.trans h4)
  replace HP := Lib.hid (HP.out.keep h4)
  replace HM := Lib.hid (HM.out.keep h4)
  clear h4
  go_wp2_with fail
  refine (ex_nearest _).mono ?_
  rintro e w5 ⟨rfl, h5⟩
  replace HN := Lib.hid (HN.out.trans h5)
  replace HP := Lib.hid (HP.out.keep h5)
  replace HM := Lib.hid (HM.out.keep h5)
  clear h5
  obtain ⟨c0, c1, c2, c3, -, -, -, -⟩ := HP.out.all
  go_wp2_with fail
  refine (ex_valid _ HM.out).mono ?_
  rintro e w6 ⟨rfl, h6⟩
  have hN := HN.out.trans h6
  clear h6 c0 c1 c2 c3
  go_wp2_with fail
  go_ret
  exact ⟨rfl, hN⟩

end Go.Proofs.YtkbdmdnahphkkaaGreatDoor
