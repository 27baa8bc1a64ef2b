/-
  ClocksRelations, its walk. Condition: the system lies in memory, the variable beginning holds what the program's text lays.
-/
import Derived.Test.YtodmbcoobjcooaaDoorCkRfM
import Derived.Test.YtodmbcoobjcooaaDoorCkAwake
namespace Go.Proofs.YtodmbcoobjcooaaDoor
open Go Go.RowKit Go.Shelf
open Go.ChangeShapes Go.WideShapes Go.ChangeAt Go.Deep
attribute [local go_sem] Oper.semAt_some
set_option maxRecDepth 100000 in
set_option maxHeartbeats 8000000 in
theorem law_relations (s : Sy) (a b : Rf) (A D : Option Addr) (c d : Nat) (w : World) (hM : SysM w A D s) (hbeg : BegA w) :
    Calls Tryd.prog 5 #[.agg #[.slice A s.tracks.length c, .slice D s.ties.length d, .int .i64 s.window], .agg #[.int .i64 a.log, .int .i64 a.line], .agg #[.int .i64 b.log, .int .i64 b.line]] w fun e w' => e = .returned (.bool true) ∧ New w w' := by
  have HK0 : Hid (∀ w', New w w' → _) := Lib.hid fun w' h => pk_Interval s A D c d w' (hM.keep h) ⟨h.cellOf hbeg.1, h.cellOf hbeg.2⟩ a
  have HK1 : Hid (∀ w', New w w' → _) := Lib.hid fun w' h => rf_Interval s A D c d w' (hM.keep h) a
  have HK2 : Hid (∀ w', New w w' → _) := Lib.hid fun w' h => pk_Offset s A D c d w' (hM.keep h) ⟨h.cellOf hbeg.1, h.cellOf hbeg.2⟩ a
  have HK3 : Hid (∀ w', New w w' → _) := Lib.hid fun w' h => rf_Offset s A D c d w' (hM.keep h) a
  have HK4 : Hid (∀ w', New w w' → _) := Lib.hid fun w' h => pk_Relation s A D c d w' (hM.keep h) ⟨h.cellOf hbeg.1, h.cellOf hbeg.2⟩ a b
  have HK5 : Hid (∀ w', New w w' → _) := Lib.hid fun w' h => rf_Relation s A D c d w' (hM.keep h) a b
  have HK6 : Hid (∀ w', New w w' → _) := Lib.hid fun w' h => pk_May s A D c d w' (hM.keep h) ⟨h.cellOf hbeg.1, h.cellOf hbeg.2⟩ a b
  have HK7 : Hid (∀ w', New w w' → _) := Lib.hid fun w' h => rf_May s A D c d w' (hM.keep h) a b
  have HK8 : Hid (∀ w', New w w' → _) := Lib.hid fun w' h => pk_Must s A D c d w' (hM.keep h) ⟨h.cellOf hbeg.1, h.cellOf hbeg.2⟩ a b
  have HK9 : Hid (∀ w', New w w' → _) := Lib.hid fun w' h => rf_Must s A D c d w' (hM.keep h) a b
  have HK10 : Hid (∀ w', New w w' → _) := Lib.hid fun w' h => pk_Before s A D c d w' (hM.keep h) ⟨h.cellOf hbeg.1, h.cellOf hbeg.2⟩ a b
  have HK11 : Hid (∀ w', New w w' → _) := Lib.hid fun w' h => rf_Before s A D c d w' (hM.keep h) a b
  have HFW : Hid (∀ w', New w w' → _) := Lib.hid fun w' h => law_few s A D c d w' (hM.keep h)
  generalize ivLo s a = x0 at *
  generalize ivHi s a = x1 at *
  generalize offLo s a = u0 at *
  generalize offHi s a = u1 at *
  generalize rlLo s a b = m0 at *
  generalize rlHi s a b = m1 at *
  generalize mayB s a b = bo at *
  generalize mustB s a b = bq at *
  generalize befB s a b = bt at *
  generalize askE s [a] = e1 at *
  generalize askE s [a, b] = e2 at *
  obtain ⟨al, an⟩ := a
  obtain ⟨bl, bn⟩ := b
  dsimp only at HK0 HK1 HK2 HK3 HK4 HK5 HK6 HK7 HK8 HK9 HK10 HK11 ⊢
  have s0 := (New.refl w).alloc (.cells #[.slice A s.tracks.length c, .slice D s.ties.length d, .int .i64 s.window] 25)
  have s1 := (New.refl (w.alloc (.cells #[.slice A s.tracks.length c, .slice D s.ties.length d, .int .i64 s.window] 25))).alloc (.cells #[.int .i64 al, .int .i64 an] 53)
  have s2 := (New.refl ((w.alloc (.cells #[.slice A s.tracks.length c, .slice D s.ties.length d, .int .i64 s.window] 25)).alloc (.cells #[.int .i64 al, .int .i64 an] 53))).alloc (.cells #[.int .i64 bl, .int .i64 bn] 53)
  have nA := ((s0.trans s1).trans s2)
  have r0 := (RowIs.new w 25 [.slice A s.tracks.length c, .slice D s.ties.length d, .int .i64 s.window]).keep (s1.trans s2)
  have r1 := (RowIs.new (w.alloc (.cells #[.slice A s.tracks.length c, .slice D s.ties.length d, .int .i64 s.window] 25)) 53 [.int .i64 al, .int .i64 an]).keep s2
  have r2 := (RowIs.new ((w.alloc (.cells #[.slice A s.tracks.length c, .slice D s.ties.length d, .int .i64 s.window] 25)).alloc (.cells #[.int .i64 al, .int .i64 an] 53)) 53 [.int .i64 bl, .int .i64 bn])
  simp only [World.size_alloc] at r1 r2
  have HA0 := Lib.hid r0
  have HB0 := Lib.hid r1
  have HC0 := Lib.hid r2
  have HN0 := Lib.hid nA
  have HAW := Lib.hid (law_awake _ ⟨nA.cellOf hbeg.1, nA.cellOf hbeg.2⟩)
  clear s0 s1 s2 nA r0 r1 r2 hM hbeg
  have c0 := HA0.out.cell (i := 0) rfl
  have c1 := HA0.out.cell (i := 1) rfl
  have c2 := HA0.out.cell (i := 2) rfl
  have d0 := HB0.out.cell (i := 0) rfl
  have d1 := HB0.out.cell (i := 1) rfl
  have g0 := HC0.out.cell (i := 0) rfl
  have g1 := HC0.out.cell (i := 1) rfl
  have q0 := HA0.out.lt
  have q1 := HB0.out.lt
  have q2 := HC0.out.lt
  go_enter Tryd.func5, Tryd.ntmps5
  go_wp2_with fail
  refine (HAW.out).mono ?_
  rintro e w1 ⟨rfl, z1⟩
  have zz := z1
  have HN1 := Lib.hid (HN0.out.trans zz)
  have HA1 := Lib.hid (HA0.out.keep zz)
  have HB1 := Lib.hid (HB0.out.keep zz)
  have HC1 := Lib.hid (HC0.out.keep zz)
  clear c0 c1 c2 d0 d1 g0 g1 q0 q1 q2 zz z1 HA0 HB0 HC0 
  have c0 := HA1.out.cell (i := 0) rfl
  have c1 := HA1.out.cell (i := 1) rfl
  have c2 := HA1.out.cell (i := 2) rfl
  have d0 := HB1.out.cell (i := 0) rfl
  have d1 := HB1.out.cell (i := 1) rfl
  have g0 := HC1.out.cell (i := 0) rfl
  have g1 := HC1.out.cell (i := 1) rfl
  have q0 := HA1.out.lt
  have q1 := HB1.out.lt
  have q2 := HC1.out.lt
  go_wp2_with fail
  refine (HFW.out _ HN1.out).mono ?_
  rintro e w2 ⟨⟨fb, rfl⟩, z2⟩
  have zz := z2
  have HN2 := Lib.hid (HN1.out.trans zz)
  have HA2 := Lib.hid (HA1.out.keep zz)
  have HB2 := Lib.hid (HB1.out.keep zz)
  have HC2 := Lib.hid (HC1.out.keep zz)
  clear c0 c1 c2 d0 d1 g0 g1 q0 q1 q2 zz z2 HA1 HB1 HC1 
  have c0 := HA2.out.cell (i := 0) rfl
  have c1 := HA2.out.cell (i := 1) rfl
  have c2 := HA2.out.cell (i := 2) rfl
  have d0 := HB2.out.cell (i := 0) rfl
  have d1 := HB2.out.cell (i := 1) rfl
  have g0 := HC2.out.cell (i := 0) rfl
  have g1 := HC2.out.cell (i := 1) rfl
  have q0 := HA2.out.lt
  have q1 := HB2.out.lt
  have q2 := HC2.out.lt
  cases fb with
  | false =>
    go_wp2_with fail
    go_ret
    exact ⟨rfl, HN2.out⟩
  | true =>
  go_wp2_with fail
  refine (HK0.out _ HN2.out).mono ?_
  rintro e w3 ⟨rfl, z3⟩
  have na := (New.refl w3).alloc (.cells #[.int .i64 x0, .int .i64 x1] 55)
  have zz := z3.trans na
  clear na
  have HS3_3 := Lib.hid (RowIs.new w3 55 [.int .i64 x0, .int .i64 x1])
  have HN3 := Lib.hid (HN2.out.trans zz)
  have HA3 := Lib.hid (HA2.out.keep zz)
  have HB3 := Lib.hid (HB2.out.keep zz)
  have HC3 := Lib.hid (HC2.out.keep zz)
  clear c0 c1 c2 d0 d1 g0 g1 q0 q1 q2 zz z3 HA2 HB2 HC2 
  have c0 := HA3.out.cell (i := 0) rfl
  have c1 := HA3.out.cell (i := 1) rfl
  have c2 := HA3.out.cell (i := 2) rfl
  have d0 := HB3.out.cell (i := 0) rfl
  have d1 := HB3.out.cell (i := 1) rfl
  have g0 := HC3.out.cell (i := 0) rfl
  have g1 := HC3.out.cell (i := 1) rfl
  have q0 := HA3.out.lt
  have q1 := HB3.out.lt
  have q2 := HC3.out.lt
  go_wp2_with fail
  refine (HK1.out _ HN3.out).mono ?_
  rintro e w4 ⟨rfl, z4⟩
  have na := (New.refl w4).alloc (.cells #[.int .i64 x0, .int .i64 x1] 55)
  have zz := z4.trans na
  clear na
  have HS4_4 := Lib.hid (RowIs.new w4 55 [.int .i64 x0, .int .i64 x1])
  have HN4 := Lib.hid (HN3.out.trans zz)
  have HA4 := Lib.hid (HA3.out.keep zz)
  have HB4 := Lib.hid (HB3.out.keep zz)
  have HC4 := Lib.hid (HC3.out.keep zz)
  have HS3_4 := Lib.hid (HS3_3.out.keep zz)
  clear c0 c1 c2 d0 d1 g0 g1 q0 q1 q2 zz z4 HA3 HB3 HC3 HS3_3
  have c0 := HA4.out.cell (i := 0) rfl
  have c1 := HA4.out.cell (i := 1) rfl
  have c2 := HA4.out.cell (i := 2) rfl
  have d0 := HB4.out.cell (i := 0) rfl
  have d1 := HB4.out.cell (i := 1) rfl
  have g0 := HC4.out.cell (i := 0) rfl
  have g1 := HC4.out.cell (i := 1) rfl
  have q0 := HA4.out.lt
  have q1 := HB4.out.lt
  have q2 := HC4.out.lt
  go_wp2_with fail
  refine (HK2.out _ HN4.out).mono ?_
  rintro e w5 ⟨rfl, z5⟩
  have na := (New.refl w5).alloc (.cells #[.int .i64 u0, .int .i64 u1] 55)
  have zz := z5.trans na
  clear na
  have HS5_5 := Lib.hid (RowIs.new w5 55 [.int .i64 u0, .int .i64 u1])
  have HN5 := Lib.hid (HN4.out.trans zz)
  have HA5 := Lib.hid (HA4.out.keep zz)
  have HB5 := Lib.hid (HB4.out.keep zz)
  have HC5 := Lib.hid (HC4.out.keep zz)
  have HS3_5 := Lib.hid (HS3_4.out.keep zz)
  have HS4_5 := Lib.hid (HS4_4.out.keep zz)
  clear c0 c1 c2 d0 d1 g0 g1 q0 q1 q2 zz z5 HA4 HB4 HC4 HS3_4 HS4_4
  have c0 := HA5.out.cell (i := 0) rfl
  have c1 := HA5.out.cell (i := 1) rfl
  have c2 := HA5.out.cell (i := 2) rfl
  have d0 := HB5.out.cell (i := 0) rfl
  have d1 := HB5.out.cell (i := 1) rfl
  have g0 := HC5.out.cell (i := 0) rfl
  have g1 := HC5.out.cell (i := 1) rfl
  have q0 := HA5.out.lt
  have q1 := HB5.out.lt
  have q2 := HC5.out.lt
  go_wp2_with fail
  refine (HK3.out _ HN5.out).mono ?_
  rintro e w6 ⟨rfl, z6⟩
  have na := (New.refl w6).alloc (.cells #[.int .i64 u0, .int .i64 u1] 55)
  have zz := z6.trans na
  clear na
  have HS6_6 := Lib.hid (RowIs.new w6 55 [.int .i64 u0, .int .i64 u1])
  have HN6 := Lib.hid (HN5.out.trans zz)
  have HA6 := Lib.hid (HA5.out.keep zz)
  have HB6 := Lib.hid (HB5.out.keep zz)
  have HC6 := Lib.hid (HC5.out.keep zz)
  have HS3_6 := Lib.hid (HS3_5.out.keep zz)
  have HS4_6 := Lib.hid (HS4_5.out.keep zz)
  have HS5_6 := Lib.hid (HS5_5.out.keep zz)
  clear c0 c1 c2 d0 d1 g0 g1 q0 q1 q2 zz z6 HA5 HB5 HC5 HS3_5 HS4_5 HS5_5
  have c0 := HA6.out.cell (i := 0) rfl
  have c1 := HA6.out.cell (i := 1) rfl
  have c2 := HA6.out.cell (i := 2) rfl
  have d0 := HB6.out.cell (i := 0) rfl
  have d1 := HB6.out.cell (i := 1) rfl
  have g0 := HC6.out.cell (i := 0) rfl
  have g1 := HC6.out.cell (i := 1) rfl
  have q0 := HA6.out.lt
  have q1 := HB6.out.lt
  have q2 := HC6.out.lt
  go_wp2_with fail
  refine (HK4.out _ HN6.out).mono ?_
  rintro e w7 ⟨rfl, z7⟩
  have na := (New.refl w7).alloc (.cells #[.int .i64 m0, .int .i64 m1] 55)
  have zz := z7.trans na
  clear na
  have HS7_7 := Lib.hid (RowIs.new w7 55 [.int .i64 m0, .int .i64 m1])
  have HN7 := Lib.hid (HN6.out.trans zz)
  have HA7 := Lib.hid (HA6.out.keep zz)
  have HB7 := Lib.hid (HB6.out.keep zz)
  have HC7 := Lib.hid (HC6.out.keep zz)
  have HS3_7 := Lib.hid (HS3_6.out.keep zz)
  have HS4_7 := Lib.hid (HS4_6.out.keep zz)
  have HS5_7 := Lib.hid (HS5_6.out.keep zz)
  have HS6_7 := Lib.hid (HS6_6.out.keep zz)
  clear c0 c1 c2 d0 d1 g0 g1 q0 q1 q2 zz z7 HA6 HB6 HC6 HS3_6 HS4_6 HS5_6 HS6_6
  have c0 := HA7.out.cell (i := 0) rfl
  have c1 := HA7.out.cell (i := 1) rfl
  have c2 := HA7.out.cell (i := 2) rfl
  have d0 := HB7.out.cell (i := 0) rfl
  have d1 := HB7.out.cell (i := 1) rfl
  have g0 := HC7.out.cell (i := 0) rfl
  have g1 := HC7.out.cell (i := 1) rfl
  have q0 := HA7.out.lt
  have q1 := HB7.out.lt
  have q2 := HC7.out.lt
  go_wp2_with fail
  refine (HK5.out _ HN7.out).mono ?_
  rintro e w8 ⟨rfl, z8⟩
  have na := (New.refl w8).alloc (.cells #[.int .i64 m0, .int .i64 m1] 55)
  have zz := z8.trans na
  clear na
  have HS8_8 := Lib.hid (RowIs.new w8 55 [.int .i64 m0, .int .i64 m1])
  have HN8 := Lib.hid (HN7.out.trans zz)
  have HA8 := Lib.hid (HA7.out.keep zz)
  have HB8 := Lib.hid (HB7.out.keep zz)
  have HC8 := Lib.hid (HC7.out.keep zz)
  have HS3_8 := Lib.hid (HS3_7.out.keep zz)
  have HS4_8 := Lib.hid (HS4_7.out.keep zz)
  have HS5_8 := Lib.hid (HS5_7.out.keep zz)
  have HS6_8 := Lib.hid (HS6_7.out.keep zz)
  have HS7_8 := Lib.hid (HS7_7.out.keep zz)
  clear c0 c1 c2 d0 d1 g0 g1 q0 q1 q2 zz z8 HA7 HB7 HC7 HS3_7 HS4_7 HS5_7 HS6_7 HS7_7
  have c0 := HA8.out.cell (i := 0) rfl
  have c1 := HA8.out.cell (i := 1) rfl
  have c2 := HA8.out.cell (i := 2) rfl
  have d0 := HB8.out.cell (i := 0) rfl
  have d1 := HB8.out.cell (i := 1) rfl
  have g0 := HC8.out.cell (i := 0) rfl
  have g1 := HC8.out.cell (i := 1) rfl
  have q0 := HA8.out.lt
  have q1 := HB8.out.lt
  have q2 := HC8.out.lt
  have v3 := HS3_8.out.cell (i := 0) rfl
  have y3 := HS3_8.out.cell (i := 1) rfl
  have p3 := HS3_8.out.lt
  have v4 := HS4_8.out.cell (i := 0) rfl
  have y4 := HS4_8.out.cell (i := 1) rfl
  have p4 := HS4_8.out.lt
  have v5 := HS5_8.out.cell (i := 0) rfl
  have y5 := HS5_8.out.cell (i := 1) rfl
  have p5 := HS5_8.out.lt
  have v6 := HS6_8.out.cell (i := 0) rfl
  have y6 := HS6_8.out.cell (i := 1) rfl
  have p6 := HS6_8.out.lt
  have v7 := HS7_8.out.cell (i := 0) rfl
  have y7 := HS7_8.out.cell (i := 1) rfl
  have p7 := HS7_8.out.lt
  have v8 := HS8_8.out.cell (i := 0) rfl
  have y8 := HS8_8.out.cell (i := 1) rfl
  have p8 := HS8_8.out.lt
  go_wp2_with fail
  refine (HK6.out _ HN8.out).mono ?_
  rintro e w9 ⟨rfl, z9⟩
  have zz := z9
  have HN9 := Lib.hid (HN8.out.trans zz)
  have HA9 := Lib.hid (HA8.out.keep zz)
  have HB9 := Lib.hid (HB8.out.keep zz)
  have HC9 := Lib.hid (HC8.out.keep zz)
  have HS3_9 := Lib.hid (HS3_8.out.keep zz)
  have HS4_9 := Lib.hid (HS4_8.out.keep zz)
  have HS5_9 := Lib.hid (HS5_8.out.keep zz)
  have HS6_9 := Lib.hid (HS6_8.out.keep zz)
  have HS7_9 := Lib.hid (HS7_8.out.keep zz)
  have HS8_9 := Lib.hid (HS8_8.out.keep zz)
  clear v3 y3 p3 v4 y4 p4 v5 y5 p5 v6 y6 p6 v7 y7 p7 v8 y8 p8
  clear c0 c1 c2 d0 d1 g0 g1 q0 q1 q2 zz z9 HA8 HB8 HC8 HS3_8 HS4_8 HS5_8 HS6_8 HS7_8 HS8_8
  have c0 := HA9.out.cell (i := 0) rfl
  have c1 := HA9.out.cell (i := 1) rfl
  have c2 := HA9.out.cell (i := 2) rfl
  have d0 := HB9.out.cell (i := 0) rfl
  have d1 := HB9.out.cell (i := 1) rfl
  have g0 := HC9.out.cell (i := 0) rfl
  have g1 := HC9.out.cell (i := 1) rfl
  have q0 := HA9.out.lt
  have q1 := HB9.out.lt
  have q2 := HC9.out.lt
  go_wp2_with fail
  refine (HK7.out _ HN9.out).mono ?_
  rintro e w10 ⟨rfl, z10⟩
  have zz := z10
  have HN10 := Lib.hid (HN9.out.trans zz)
  have HA10 := Lib.hid (HA9.out.keep zz)
  have HB10 := Lib.hid (HB9.out.keep zz)
  have HC10 := Lib.hid (HC9.out.keep zz)
  have HS3_10 := Lib.hid (HS3_9.out.keep zz)
  have HS4_10 := Lib.hid (HS4_9.out.keep zz)
  have HS5_10 := Lib.hid (HS5_9.out.keep zz)
  have HS6_10 := Lib.hid (HS6_9.out.keep zz)
  have HS7_10 := Lib.hid (HS7_9.out.keep zz)
  have HS8_10 := Lib.hid (HS8_9.out.keep zz)
  clear c0 c1 c2 d0 d1 g0 g1 q0 q1 q2 zz z10 HA9 HB9 HC9 HS3_9 HS4_9 HS5_9 HS6_9 HS7_9 HS8_9
  have c0 := HA10.out.cell (i := 0) rfl
  have c1 := HA10.out.cell (i := 1) rfl
  have c2 := HA10.out.cell (i := 2) rfl
  have d0 := HB10.out.cell (i := 0) rfl
  have d1 := HB10.out.cell (i := 1) rfl
  have g0 := HC10.out.cell (i := 0) rfl
  have g1 := HC10.out.cell (i := 1) rfl
  have q0 := HA10.out.lt
  have q1 := HB10.out.lt
  have q2 := HC10.out.lt
  go_wp2_with fail
  refine (HK8.out _ HN10.out).mono ?_
  rintro e w11 ⟨rfl, z11⟩
  have zz := z11
  have HN11 := Lib.hid (HN10.out.trans zz)
  have HA11 := Lib.hid (HA10.out.keep zz)
  have HB11 := Lib.hid (HB10.out.keep zz)
  have HC11 := Lib.hid (HC10.out.keep zz)
  have HS3_11 := Lib.hid (HS3_10.out.keep zz)
  have HS4_11 := Lib.hid (HS4_10.out.keep zz)
  have HS5_11 := Lib.hid (HS5_10.out.keep zz)
  have HS6_11 := Lib.hid (HS6_10.out.keep zz)
  have HS7_11 := Lib.hid (HS7_10.out.keep zz)
  have HS8_11 := Lib.hid (HS8_10.out.keep zz)
  clear c0 c1 c2 d0 d1 g0 g1 q0 q1 q2 zz z11 HA10 HB10 HC10 HS3_10 HS4_10 HS5_10 HS6_10 HS7_10 HS8_10
  have c0 := HA11.out.cell (i := 0) rfl
  have c1 := HA11.out.cell (i := 1) rfl
  have c2 := HA11.out.cell (i := 2) rfl
  have d0 := HB11.out.cell (i := 0) rfl
  have d1 := HB11.out.cell (i := 1) rfl
  have g0 := HC11.out.cell (i := 0) rfl
  have g1 := HC11.out.cell (i := 1) rfl
  have q0 := HA11.out.lt
  have q1 := HB11.out.lt
  have q2 := HC11.out.lt
  go_wp2_with fail
  refine (HK9.out _ HN11.out).mono ?_
  rintro e w12 ⟨rfl, z12⟩
  have zz := z12
  have HN12 := Lib.hid (HN11.out.trans zz)
  have HA12 := Lib.hid (HA11.out.keep zz)
  have HB12 := Lib.hid (HB11.out.keep zz)
  have HC12 := Lib.hid (HC11.out.keep zz)
  have HS3_12 := Lib.hid (HS3_11.out.keep zz)
  have HS4_12 := Lib.hid (HS4_11.out.keep zz)
  have HS5_12 := Lib.hid (HS5_11.out.keep zz)
  have HS6_12 := Lib.hid (HS6_11.out.keep zz)
  have HS7_12 := Lib.hid (HS7_11.out.keep zz)
  have HS8_12 := Lib.hid (HS8_11.out.keep zz)
  clear c0 c1 c2 d0 d1 g0 g1 q0 q1 q2 zz z12 HA11 HB11 HC11 HS3_11 HS4_11 HS5_11 HS6_11 HS7_11 HS8_11
  have c0 := HA12.out.cell (i := 0) rfl
  have c1 := HA12.out.cell (i := 1) rfl
  have c2 := HA12.out.cell (i := 2) rfl
  have d0 := HB12.out.cell (i := 0) rfl
  have d1 := HB12.out.cell (i := 1) rfl
  have g0 := HC12.out.cell (i := 0) rfl
  have g1 := HC12.out.cell (i := 1) rfl
  have q0 := HA12.out.lt
  have q1 := HB12.out.lt
  have q2 := HC12.out.lt
  go_wp2_with fail
  refine (HK10.out _ HN12.out).mono ?_
  rintro e w13 ⟨rfl, z13⟩
  have zz := z13
  have HN13 := Lib.hid (HN12.out.trans zz)
  have HA13 := Lib.hid (HA12.out.keep zz)
  have HB13 := Lib.hid (HB12.out.keep zz)
  have HC13 := Lib.hid (HC12.out.keep zz)
  have HS3_13 := Lib.hid (HS3_12.out.keep zz)
  have HS4_13 := Lib.hid (HS4_12.out.keep zz)
  have HS5_13 := Lib.hid (HS5_12.out.keep zz)
  have HS6_13 := Lib.hid (HS6_12.out.keep zz)
  have HS7_13 := Lib.hid (HS7_12.out.keep zz)
  have HS8_13 := Lib.hid (HS8_12.out.keep zz)
  clear c0 c1 c2 d0 d1 g0 g1 q0 q1 q2 zz z13 HA12 HB12 HC12 HS3_12 HS4_12 HS5_12 HS6_12 HS7_12 HS8_12
  have c0 := HA13.out.cell (i := 0) rfl
  have c1 := HA13.out.cell (i := 1) rfl
  have c2 := HA13.out.cell (i := 2) rfl
  have d0 := HB13.out.cell (i := 0) rfl
  have d1 := HB13.out.cell (i := 1) rfl
  have g0 := HC13.out.cell (i := 0) rfl
  have g1 := HC13.out.cell (i := 1) rfl
  have q0 := HA13.out.lt
  have q1 := HB13.out.lt
  have q2 := HC13.out.lt
  go_wp2_with fail
  refine (HK11.out _ HN13.out).mono ?_
  rintro e w14 ⟨rfl, z14⟩
  have zz := z14
  have HN14 := Lib.hid (HN13.out.trans zz)
  have HA14 := Lib.hid (HA13.out.keep zz)
  have HB14 := Lib.hid (HB13.out.keep zz)
  have HC14 := Lib.hid (HC13.out.keep zz)
  have HS3_14 := Lib.hid (HS3_13.out.keep zz)
  have HS4_14 := Lib.hid (HS4_13.out.keep zz)
  have HS5_14 := Lib.hid (HS5_13.out.keep zz)
  have HS6_14 := Lib.hid (HS6_13.out.keep zz)
  have HS7_14 := Lib.hid (HS7_13.out.keep zz)
  have HS8_14 := Lib.hid (HS8_13.out.keep zz)
  clear c0 c1 c2 d0 d1 g0 g1 q0 q1 q2 zz z14 HA13 HB13 HC13 HS3_13 HS4_13 HS5_13 HS6_13 HS7_13 HS8_13
  have c0 := HA14.out.cell (i := 0) rfl
  have c1 := HA14.out.cell (i := 1) rfl
  have c2 := HA14.out.cell (i := 2) rfl
  have d0 := HB14.out.cell (i := 0) rfl
  have d1 := HB14.out.cell (i := 1) rfl
  have g0 := HC14.out.cell (i := 0) rfl
  have g1 := HC14.out.cell (i := 1) rfl
  have q0 := HA14.out.lt
  have q1 := HB14.out.lt
  have q2 := HC14.out.lt
  go_wp2_with fail
  go_ret
  exact ⟨rfl, HN14.out⟩
end Go.Proofs.YtodmbcoobjcooaaDoor
