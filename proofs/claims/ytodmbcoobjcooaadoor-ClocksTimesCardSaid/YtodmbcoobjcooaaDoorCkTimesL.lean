/-
  ClocksTimes, its walk; Earliest and Latest of the specification. Condition: the system lies in memory, the variable beginning holds what the program's text lays.
-/
import Derived.Test.YtodmbcoobjcooaaDoorCkRfX
import Derived.Test.YtodmbcoobjcooaaDoorCkAwake
namespace Go.Proofs.YtodmbcoobjcooaaDoor
open Go Go.RowKit Go.Shelf
open Go.ChangeShapes Go.WideShapes Go.ChangeAt Go.Deep
attribute [local go_sem] Oper.semAt_some
theorem tmR_len (s : Sy) : (tmR s).length ≤ 1000 ∧ ∀ i, i < (tmR s).length → ((tmR s)[i]?.getD []).length ≤ 1000 := by
  unfold tmR
  by_cases h : askE s [] = 0
  · rw [if_pos h]
    obtain ⟨hs, -⟩ := ask_nil h
    have h64 := (checkE_ok hs).1
    rw [rowsK_len]
    refine ⟨by omega, fun i hi => ?_⟩
    rw [rowsK_get _ _ hi, rowK_len]
    have := (trackB_facts (hs.track hi)).2.2.2.2.2.1
    omega
  · rw [if_neg h]
    exact ⟨by simp, fun i hi => absurd hi (Nat.not_lt_zero i)⟩
theorem end_lo (s : Sy) (f g : Nat → Int) (k : Nat) : endR false (rowsK s f g k) = rowsI s (fun v => -g v) k := by
  unfold endR rowsK rowsI
  rw [List.map_map]
  apply List.map_congr_left
  intro i _
  show (rowK s f g i (tkAt s i).times.length).map (endB false) = _
  unfold rowK rowI
  rw [List.map_map]
  apply List.map_congr_left
  intro j _
  rfl
theorem end_hi (s : Sy) (f g : Nat → Int) (k : Nat) : endR true (rowsK s f g k) = rowsI s f k := by
  unfold endR rowsK rowsI
  rw [List.map_map]
  apply List.map_congr_left
  intro i _
  show (rowK s f g i (tkAt s i).times.length).map (endB true) = _
  unfold rowK rowI
  rw [List.map_map]
  apply List.map_congr_left
  intro j _
  rfl
/-- What Earliest and Latest answer. -/
def EndA (s : Sy) (high : Bool) (w : World) (e : Ending) (w' : World) : Prop := ∃ B bc, e = .returned (.tuple #[.slice B (endR high (tmR s)).length bc, .int .i64 (askE s [])]) ∧ New w w' ∧ IssA w' B (endR high (tmR s))
theorem iss_nil (w : World) : IssA w none [] := ⟨by simp, fun h => absurd h (Nat.not_lt_zero _)⟩
theorem askN {s : Sy} (h : ¬(checkE s = 0 ∧ Closes (egs s))) : askE s [] ≠ 0 := fun h2 => h (ask_nil h2)
theorem askY {s : Sy} (h1 : checkE s = 0) (h2 : Closes (egs s)) : askE s [] = 0 := askE_ok (linesE_ok.2 ⟨h1, fun r hr => by cases hr⟩) h2
theorem allE_ask {s : Sy} {er : Int} (h : allE s er) : er = askE s [] := by
  have e : linesE s [] = checkE s := by
    unfold linesE
    by_cases h : checkE s = 0
    · rw [if_neg (by omega), h]; rfl
    · rw [if_pos h]
  rcases h with ⟨h1, rfl⟩ | ⟨h1, h2, rfl⟩
  · rw [askE_lines (by rw [e]; exact h1), e]
  · rw [askE_loop (by rw [e]; exact h1) h2]
theorem pk_Times (s : Sy) (A D : Option Addr) (c d : Nat) (w : World) (hM : SysM w A D s) (hbeg : BegA w) :
    Calls Tryd.prog 28 #[.agg #[.slice A s.tracks.length c, .slice D s.ties.length d, .int .i64 s.window]] w fun e w' => TmsA s w e w' := by
  by_cases h : checkE s = 0 ∧ Closes (egs s)
  · refine (ck_TimesC s h.1 h.2 A D c d w hM hbeg).mono ?_
    rintro e w' ⟨B, bc, rfl, hn, hb⟩
    have e0 := askY h.1 h.2
    have et : tmR s = rowsK s (hiF s) (loF s) s.tracks.length := by unfold tmR; rw [if_pos e0]
    exact ⟨B, bc, by rw [et, rowsK_len, e0], hn, by rw [et]; exact hb⟩
  · refine (ck_TimesE s A D c d w hM hbeg h).mono ?_
    rintro e w' ⟨er, rfl, hn, h1, -⟩
    have et : tmR s = [] := by unfold tmR; rw [if_neg (askN h)]
    exact ⟨none, 0, by rw [et, allE_ask h1]; rfl, hn, by rw [et]; exact sss_nil _⟩
theorem pk_Earliest (s : Sy) (A D : Option Addr) (c d : Nat) (w : World) (hM : SysM w A D s) (hbeg : BegA w) :
    Calls Tryd.prog 30 #[.agg #[.slice A s.tracks.length c, .slice D s.ties.length d, .int .i64 s.window]] w fun e w' => EndA s false w e w' := by
  by_cases h : checkE s = 0 ∧ Closes (egs s)
  · refine (ck_EarliestC s h.1 h.2 A D c d w hM hbeg).mono ?_
    rintro e w' ⟨B, bc, rfl, hn, hb⟩
    have e0 := askY h.1 h.2
    have et : tmR s = rowsK s (hiF s) (loF s) s.tracks.length := by unfold tmR; rw [if_pos e0]
    exact ⟨B, bc, by rw [et, endR_len, rowsK_len, e0], hn, by rw [et, end_lo]; exact hb⟩
  · refine (ck_EarliestE s A D c d w hM hbeg h).mono ?_
    rintro e w' ⟨er, rfl, hn, h1, -⟩
    have et : tmR s = [] := by unfold tmR; rw [if_neg (askN h)]
    exact ⟨none, 0, by rw [et, allE_ask h1]; rfl, hn, by rw [et]; exact iss_nil _⟩
set_option maxRecDepth 100000 in
set_option maxHeartbeats 4000000 in
theorem rf_Earliest (s : Sy) (A D : Option Addr) (c d : Nat) (w : World) (hM : SysM w A D s) :
    Calls Tryd.prog 31 #[.agg #[.slice A s.tracks.length c, .slice D s.ties.length d, .int .i64 s.window]] w fun e w' => EndA s false w e w' := by
  have HTM : Hid (∀ w', New w w' → _) := Lib.hid fun w' h => rf_Times s A D c d w' (hM.keep h)
  have HTL := Lib.hid (tmR_len s)
  have n1 := (New.refl w).alloc (.cells #[.slice A s.tracks.length c, .slice D s.ties.length d, .int .i64 s.window] 25)
  have r0 := RowIs.new w 25 [.slice A s.tracks.length c, .slice D s.ties.length d, .int .i64 s.window]
  have HN := Lib.hid n1
  have c0 := r0.cell (i := 0) rfl
  have c1 := r0.cell (i := 1) rfl
  have c2 := r0.cell (i := 2) rfl
  clear n1 r0 hM
  go_enter Tryd.func31, Tryd.ntmps31
  go_wp2_with fail
  refine (HTM.out _ HN.out).mono ?_
  rintro e w1 ⟨B, bc, rfl, m1, hb⟩
  have HE := Lib.hid (rf_ends (tmR s) false B bc w1 hb HTL.out.1 HTL.out.2)
  have HN1 := Lib.hid (HN.out.trans m1)
  have HLN := Lib.hid (endR_len false (tmR s))
  clear c0 c1 c2 m1 hb HTM HTL
  go_wp2_with fail
  refine HE.out.mono ?_
  rintro e w2 ⟨C, cc, rfl, m2, hc⟩
  have HC := Lib.hid hc
  clear hc
  go_wp2_with fail
  go_ret2
  exact ⟨C, cc, by rw [HLN.out]; try rfl, HN1.out.trans m2, HC.out⟩
theorem pk_Latest (s : Sy) (A D : Option Addr) (c d : Nat) (w : World) (hM : SysM w A D s) (hbeg : BegA w) :
    Calls Tryd.prog 32 #[.agg #[.slice A s.tracks.length c, .slice D s.ties.length d, .int .i64 s.window]] w fun e w' => EndA s true w e w' := by
  by_cases h : checkE s = 0 ∧ Closes (egs s)
  · refine (ck_LatestC s h.1 h.2 A D c d w hM hbeg).mono ?_
    rintro e w' ⟨B, bc, rfl, hn, hb⟩
    have e0 := askY h.1 h.2
    have et : tmR s = rowsK s (hiF s) (loF s) s.tracks.length := by unfold tmR; rw [if_pos e0]
    exact ⟨B, bc, by rw [et, endR_len, rowsK_len, e0], hn, by rw [et, end_hi]; exact hb⟩
  · refine (ck_LatestE s A D c d w hM hbeg h).mono ?_
    rintro e w' ⟨er, rfl, hn, h1, -⟩
    have et : tmR s = [] := by unfold tmR; rw [if_neg (askN h)]
    exact ⟨none, 0, by rw [et, allE_ask h1]; rfl, hn, by rw [et]; exact iss_nil _⟩
set_option maxRecDepth 100000 in
set_option maxHeartbeats 4000000 in
theorem rf_Latest (s : Sy) (A D : Option Addr) (c d : Nat) (w : World) (hM : SysM w A D s) :
    Calls Tryd.prog 33 #[.agg #[.slice A s.tracks.length c, .slice D s.ties.length d, .int .i64 s.window]] w fun e w' => EndA s true w e w' := by
  have HTM : Hid (∀ w', New w w' → _) := Lib.hid fun w' h => rf_Times s A D c d w' (hM.keep h)
  have HTL := Lib.hid (tmR_len s)
  have n1 := (New.refl w).alloc (.cells #[.slice A s.tracks.length c, .slice D s.ties.length d, .int .i64 s.window] 25)
  have r0 := RowIs.new w 25 [.slice A s.tracks.length c, .slice D s.ties.length d, .int .i64 s.window]
  have HN := Lib.hid n1
  have c0 := r0.cell (i := 0) rfl
  have c1 := r0.cell (i := 1) rfl
  have c2 := r0.cell (i := 2) rfl
  clear n1 r0 hM
  go_enter Tryd.func33, Tryd.ntmps33
  go_wp2_with fail
  refine (HTM.out _ HN.out).mono ?_
  rintro e w1 ⟨B, bc, rfl, m1, hb⟩
  have HE := Lib.hid (rf_ends (tmR s) true B bc w1 hb HTL.out.1 HTL.out.2)
  have HN1 := Lib.hid (HN.out.trans m1)
  have HLN := Lib.hid (endR_len true (tmR s))
  clear c0 c1 c2 m1 hb HTM HTL
  go_wp2_with fail
  refine HE.out.mono ?_
  rintro e w2 ⟨C, cc, rfl, m2, hc⟩
  have HC := Lib.hid hc
  clear hc
  go_wp2_with fail
  go_ret2
  exact ⟨C, cc, by rw [HLN.out]; try rfl, HN1.out.trans m2, HC.out⟩
set_option maxRecDepth 100000 in
set_option maxHeartbeats 8000000 in
theorem law_times (s : Sy) (A D : Option Addr) (c d : Nat) (w : World) (hM : SysM w A D s) (hbeg : BegA w) :
    Calls Tryd.prog 4 #[.agg #[.slice A s.tracks.length c, .slice D s.ties.length d, .int .i64 s.window]] w fun e w' => e = .returned (.bool true) ∧ New w w' := by
  have HK0 : Hid (∀ w', New w w' → _) := Lib.hid fun w' h => pk_Times s A D c d w' (hM.keep h) ⟨h.cellOf hbeg.1, h.cellOf hbeg.2⟩
  have HK1 : Hid (∀ w', New w w' → _) := Lib.hid fun w' h => rf_Times s A D c d w' (hM.keep h)
  have HK2 : Hid (∀ w', New w w' → _) := Lib.hid fun w' h => pk_Earliest s A D c d w' (hM.keep h) ⟨h.cellOf hbeg.1, h.cellOf hbeg.2⟩
  have HK3 : Hid (∀ w', New w w' → _) := Lib.hid fun w' h => rf_Earliest s A D c d w' (hM.keep h)
  have HK4 : Hid (∀ w', New w w' → _) := Lib.hid fun w' h => pk_Latest s A D c d w' (hM.keep h) ⟨h.cellOf hbeg.1, h.cellOf hbeg.2⟩
  have HK5 : Hid (∀ w', New w w' → _) := Lib.hid fun w' h => rf_Latest s A D c d w' (hM.keep h)
  have HFW : Hid (∀ w', New w w' → _) := Lib.hid fun w' h => law_few s A D c d w' (hM.keep h)
  have s0 := (New.refl w).alloc (.cells #[.slice A s.tracks.length c, .slice D s.ties.length d, .int .i64 s.window] 25)
  have nA := s0
  have r0 := (RowIs.new w 25 [.slice A s.tracks.length c, .slice D s.ties.length d, .int .i64 s.window])
  have HA0 := Lib.hid r0
  have HN0 := Lib.hid nA
  have HAW := Lib.hid (law_awake _ ⟨nA.cellOf hbeg.1, nA.cellOf hbeg.2⟩)
  clear s0 nA r0 hM hbeg
  have c0 := HA0.out.cell (i := 0) rfl
  have c1 := HA0.out.cell (i := 1) rfl
  have c2 := HA0.out.cell (i := 2) rfl
  go_enter Tryd.func4, Tryd.ntmps4
  go_wp2_with fail
  refine (HAW.out).mono ?_
  rintro e w1 ⟨rfl, m1⟩
  have HN1 := Lib.hid (HN0.out.trans m1)
  have HA1 := Lib.hid (HA0.out.keep m1)
  clear c0 c1 c2 m1 HA0 
  have c0 := HA1.out.cell (i := 0) rfl
  have c1 := HA1.out.cell (i := 1) rfl
  have c2 := HA1.out.cell (i := 2) rfl
  go_wp2_with fail
  refine (HFW.out _ HN1.out).mono ?_
  rintro e w2 ⟨⟨fb, rfl⟩, m2⟩
  have HN2 := Lib.hid (HN1.out.trans m2)
  have HA2 := Lib.hid (HA1.out.keep m2)
  clear c0 c1 c2 m2 HA1 
  have c0 := HA2.out.cell (i := 0) rfl
  have c1 := HA2.out.cell (i := 1) rfl
  have c2 := HA2.out.cell (i := 2) rfl
  cases fb with
  | false =>
    go_wp2_with fail
    go_ret
    exact ⟨rfl, HN2.out⟩
  | true =>
  go_wp2_with fail
  refine (HK0.out _ HN2.out).mono ?_
  rintro e w3 ⟨B3, bc3, rfl, m3, hb3⟩
  have HN3 := Lib.hid (HN2.out.trans m3)
  have HA3 := Lib.hid (HA2.out.keep m3)
  have HB3_3 := Lib.hid hb3
  clear hb3
  clear c0 c1 c2 m3 HA2 
  have c0 := HA3.out.cell (i := 0) rfl
  have c1 := HA3.out.cell (i := 1) rfl
  have c2 := HA3.out.cell (i := 2) rfl
  go_wp2_with fail
  refine (HK1.out _ HN3.out).mono ?_
  rintro e w4 ⟨B4, bc4, rfl, m4, hb4⟩
  have HN4 := Lib.hid (HN3.out.trans m4)
  have HA4 := Lib.hid (HA3.out.keep m4)
  have HB3_4 := Lib.hid (HB3_3.out.keep m4)
  have HB4_4 := Lib.hid hb4
  clear hb4
  clear c0 c1 c2 m4 HA3 HB3_3
  have c0 := HA4.out.cell (i := 0) rfl
  have c1 := HA4.out.cell (i := 1) rfl
  have c2 := HA4.out.cell (i := 2) rfl
  go_wp2_with fail
  refine (HK2.out _ HN4.out).mono ?_
  rintro e w5 ⟨B5, bc5, rfl, m5, hb5⟩
  have HN5 := Lib.hid (HN4.out.trans m5)
  have HA5 := Lib.hid (HA4.out.keep m5)
  have HB3_5 := Lib.hid (HB3_4.out.keep m5)
  have HB4_5 := Lib.hid (HB4_4.out.keep m5)
  have HB5_5 := Lib.hid hb5
  clear hb5
  clear c0 c1 c2 m5 HA4 HB3_4 HB4_4
  have c0 := HA5.out.cell (i := 0) rfl
  have c1 := HA5.out.cell (i := 1) rfl
  have c2 := HA5.out.cell (i := 2) rfl
  go_wp2_with fail
  refine (HK3.out _ HN5.out).mono ?_
  rintro e w6 ⟨B6, bc6, rfl, m6, hb6⟩
  have HN6 := Lib.hid (HN5.out.trans m6)
  have HA6 := Lib.hid (HA5.out.keep m6)
  have HB3_6 := Lib.hid (HB3_5.out.keep m6)
  have HB4_6 := Lib.hid (HB4_5.out.keep m6)
  have HB5_6 := Lib.hid (HB5_5.out.keep m6)
  have HB6_6 := Lib.hid hb6
  clear hb6
  clear c0 c1 c2 m6 HA5 HB3_5 HB4_5 HB5_5
  have c0 := HA6.out.cell (i := 0) rfl
  have c1 := HA6.out.cell (i := 1) rfl
  have c2 := HA6.out.cell (i := 2) rfl
  go_wp2_with fail
  refine (HK4.out _ HN6.out).mono ?_
  rintro e w7 ⟨B7, bc7, rfl, m7, hb7⟩
  have HN7 := Lib.hid (HN6.out.trans m7)
  have HA7 := Lib.hid (HA6.out.keep m7)
  have HB3_7 := Lib.hid (HB3_6.out.keep m7)
  have HB4_7 := Lib.hid (HB4_6.out.keep m7)
  have HB5_7 := Lib.hid (HB5_6.out.keep m7)
  have HB6_7 := Lib.hid (HB6_6.out.keep m7)
  have HB7_7 := Lib.hid hb7
  clear hb7
  clear c0 c1 c2 m7 HA6 HB3_6 HB4_6 HB5_6 HB6_6
  have c0 := HA7.out.cell (i := 0) rfl
  have c1 := HA7.out.cell (i := 1) rfl
  have c2 := HA7.out.cell (i := 2) rfl
  go_wp2_with fail
  refine (HK5.out _ HN7.out).mono ?_
  rintro e w8 ⟨B8, bc8, rfl, m8, hb8⟩
  have HN8 := Lib.hid (HN7.out.trans m8)
  have HA8 := Lib.hid (HA7.out.keep m8)
  have HB3_8 := Lib.hid (HB3_7.out.keep m8)
  have HB4_8 := Lib.hid (HB4_7.out.keep m8)
  have HB5_8 := Lib.hid (HB5_7.out.keep m8)
  have HB6_8 := Lib.hid (HB6_7.out.keep m8)
  have HB7_8 := Lib.hid (HB7_7.out.keep m8)
  have HB8_8 := Lib.hid hb8
  clear hb8
  clear c0 c1 c2 m8 HA7 HB3_7 HB4_7 HB5_7 HB6_7 HB7_7
  have c0 := HA8.out.cell (i := 0) rfl
  have c1 := HA8.out.cell (i := 1) rfl
  have c2 := HA8.out.cell (i := 2) rfl
  have HS1 := Lib.hid (rf_SameSpans (tmR s) B3 B4 bc3 bc4 w8 HB3_8.out HB4_8.out)
  clear c0 c1 c2 HB3_8 HB4_8
  generalize askE s [] = er at *
  go_wp2_with fail
  refine HS1.out.mono ?_
  rintro e w9 ⟨rfl, m9⟩
  have HN9 := Lib.hid (HN8.out.trans m9)
  have HS2 := Lib.hid (rf_SameTimes (endR false (tmR s)) B5 B6 bc5 bc6 w9 (HB5_8.out.keep m9) (HB6_8.out.keep m9))
  have HT7 := Lib.hid (HB7_8.out.keep m9)
  have HT8 := Lib.hid (HB8_8.out.keep m9)
  clear m9
  go_wp2_with fail
  refine HS2.out.mono ?_
  rintro e w10 ⟨rfl, m10⟩
  have HN10 := Lib.hid (HN9.out.trans m10)
  have HS3 := Lib.hid (rf_SameTimes (endR true (tmR s)) B7 B8 bc7 bc8 w10 (HT7.out.keep m10) (HT8.out.keep m10))
  clear m10
  go_wp2_with fail
  refine HS3.out.mono ?_
  rintro e w11 ⟨rfl, m11⟩
  go_wp2_with fail
  go_ret
  exact ⟨rfl, HN10.out.trans m11⟩
end Go.Proofs.YtodmbcoobjcooaaDoor
