/-
  ClocksTriangle: relations turn, compose, and lie in what spans allow; tied lines are together. Condition: the variable beginning holds what the program's text lays.
-/
import Derived.Test.YtlhdhfhfdkldjaaDoorCkRel
import Derived.Test.YtlhdhfhfdkldjaaDoorCkAwake
import Derived.Test.YtlhdhfhfdkldjaaDoorCkOpen
namespace Go.Proofs.YtlhdhfhfdkldjaaDoor
open Go Go.RowKit Go.Shelf
open Go.ChangeShapes Go.WideShapes Go.ChangeAt Go.Deep
attribute [local go_sem] Oper.semAt_some
set_option maxRecDepth 100000 in
set_option maxHeartbeats 4000000 in
theorem law_triangle (s : Sy) (A D : Option Addr) (c d : Nat) (a b r : Rf) (w : World) (hM : SysM w A D s) (hbeg : BegA w) :
    Calls Tryd.prog 10 #[.agg #[.slice A s.tracks.length c, .slice D s.ties.length d, .int .i64 s.window], .agg #[.int .i64 a.log, .int .i64 a.line], .agg #[.int .i64 b.log, .int .i64 b.line], .agg #[.int .i64 r.log, .int .i64 r.line]] w fun e w' => e = .returned (.bool true) ∧ New w w' := by
  obtain ⟨al, an⟩ := a
  obtain ⟨bl, bn⟩ := b
  obtain ⟨rl, rn⟩ := r
  have n1 := (New.refl w).alloc (.cells #[.slice A s.tracks.length c, .slice D s.ties.length d, .int .i64 s.window] 25)
  have n4 := ((n1.alloc (.cells #[.int .i64 al, .int .i64 an] 53)).alloc (.cells #[.int .i64 bl, .int .i64 bn] 53)).alloc (.cells #[.int .i64 rl, .int .i64 rn] 53)
  have r1 := (RowIs.new w 25 [.slice A s.tracks.length c, .slice D s.ties.length d, .int .i64 s.window]).keep ((((New.refl _).alloc (.cells #[.int .i64 al, .int .i64 an] 53)).alloc (.cells #[.int .i64 bl, .int .i64 bn] 53)).alloc (.cells #[.int .i64 rl, .int .i64 rn] 53))
  have r2 := (RowIs.new (w.alloc (.cells #[.slice A s.tracks.length c, .slice D s.ties.length d, .int .i64 s.window] 25)) 53 [.int .i64 al, .int .i64 an]).keep (((New.refl _).alloc (.cells #[.int .i64 bl, .int .i64 bn] 53)).alloc (.cells #[.int .i64 rl, .int .i64 rn] 53))
  have r3 := (RowIs.new ((w.alloc (.cells #[.slice A s.tracks.length c, .slice D s.ties.length d, .int .i64 s.window] 25)).alloc (.cells #[.int .i64 al, .int .i64 an] 53)) 53 [.int .i64 bl, .int .i64 bn]).keep ((New.refl _).alloc (.cells #[.int .i64 rl, .int .i64 rn] 53))
  have r4 := RowIs.new (((w.alloc (.cells #[.slice A s.tracks.length c, .slice D s.ties.length d, .int .i64 s.window] 25)).alloc (.cells #[.int .i64 al, .int .i64 an] 53)).alloc (.cells #[.int .i64 bl, .int .i64 bn] 53)) 53 [.int .i64 rl, .int .i64 rn]
  simp only [World.size_alloc] at r2 r3 r4
  have HR1 := Lib.hid r1
  have HR2 := Lib.hid r2
  have HR3 := Lib.hid r3
  have HR4 := Lib.hid r4
  have HN := Lib.hid n4
  have HAW := Lib.hid (law_awake _ ⟨n4.cellOf hbeg.1, n4.cellOf hbeg.2⟩)
  have HFW : Hid (∀ w', New w w' → _) := Lib.hid fun w' h => law_few s A D c d w' (hM.keep h)
  have HRL : Hid (∀ w' (x y : Rf), New w w' → _) := Lib.hid fun w' x y h => ck_RelationG s A D c d w' (hM.keep h) ⟨h.cellOf hbeg.1, h.cellOf hbeg.2⟩ x y
  have HIV : Hid (∀ w' (x : Rf), New w w' → _) := Lib.hid fun w' x h => ck_IntervalG s A D c d w' (hM.keep h) ⟨h.cellOf hbeg.1, h.cellOf hbeg.2⟩ x
  have HM := Lib.hid hM
  have HB := Lib.hid hbeg
  clear hM hbeg n1 n4 r1 r2 r3 r4
  have c0 := HR1.out.cell (i := 0) rfl
  have c1 := HR1.out.cell (i := 1) rfl
  have c2 := HR1.out.cell (i := 2) rfl
  go_enter Tryd.func10, Tryd.ntmps10
  go_wp2_with fail
  refine HAW.out.mono ?_
  rintro e w1 ⟨rfl, m1⟩
  have HN1 := Lib.hid (HN.out.trans m1)
  have HA1 := Lib.hid (HR1.out.keep m1)
  have HA2 := Lib.hid (HR2.out.keep m1)
  have HA3 := Lib.hid (HR3.out.keep m1)
  have HA4 := Lib.hid (HR4.out.keep m1)
  clear c0 c1 c2 m1 HR1 HR2 HR3 HR4 HAW
  have c0 := HA1.out.cell (i := 0) rfl
  have c1 := HA1.out.cell (i := 1) rfl
  have c2 := HA1.out.cell (i := 2) rfl
  go_wp2_with fail
  refine (HFW.out _ HN1.out).mono ?_
  rintro e w2 ⟨⟨fb, rfl⟩, m2⟩
  have HN2 := Lib.hid (HN1.out.trans m2)
  have HB1 := Lib.hid (HA1.out.keep m2)
  have HB2 := Lib.hid (HA2.out.keep m2)
  have HB3 := Lib.hid (HA3.out.keep m2)
  have HB4 := Lib.hid (HA4.out.keep m2)
  clear c0 c1 c2 m2 HA1 HA2 HA3 HA4 HFW
  cases fb with
  | false =>
    go_wp2_with fail
    go_ret
    exact ⟨rfl, HN2.out⟩
  | true =>
  have c0 := HB1.out.cell (i := 0) rfl
  have c1 := HB1.out.cell (i := 1) rfl
  have c2 := HB1.out.cell (i := 2) rfl
  have x0 := HB2.out.cell (i := 0) rfl
  have x1 := HB2.out.cell (i := 1) rfl
  have y0 := HB3.out.cell (i := 0) rfl
  have y1 := HB3.out.cell (i := 1) rfl
  go_wp2_with fail
  refine (HRL.out _ ⟨al, an⟩ ⟨bl, bn⟩ HN2.out).mono ?_
  rintro e w3 ⟨abl, abh, e1, rfl, m3, hab⟩
  have HN3 := Lib.hid ((HN2.out).trans m3)
  have HC1 := Lib.hid (HB1.out.keep m3)
  have HC2 := Lib.hid (HB2.out.keep m3)
  have HC3 := Lib.hid (HB3.out.keep m3)
  have HC4 := Lib.hid (HB4.out.keep m3)
  have Aab := Lib.hid hab
  clear c0 c1 c2 x0 x1 y0 y1 m3 hab HB1 HB2 HB3 HB4
  have c0 := HC1.out.cell (i := 0) rfl
  have c1 := HC1.out.cell (i := 1) rfl
  have c2 := HC1.out.cell (i := 2) rfl
  have x0 := HC3.out.cell (i := 0) rfl
  have x1 := HC3.out.cell (i := 1) rfl
  have y0 := HC4.out.cell (i := 0) rfl
  have y1 := HC4.out.cell (i := 1) rfl
  have q1 := HC1.out.lt
  have q2 := HC2.out.lt
  have q3 := HC3.out.lt
  have q4 := HC4.out.lt
  go_wp2_with fail
  refine (HRL.out _ ⟨bl, bn⟩ ⟨rl, rn⟩ (HN3.out.alloc _)).mono ?_
  rintro e w4 ⟨bcl, bch, e2, rfl, m4, hbc⟩
  have HN4 := Lib.hid (((HN3.out.alloc _)).trans m4)
  have HB1 := Lib.hid (HC1.out.keep (((New.refl _).alloc _).trans m4))
  have HB2 := Lib.hid (HC2.out.keep (((New.refl _).alloc _).trans m4))
  have HB3 := Lib.hid (HC3.out.keep (((New.refl _).alloc _).trans m4))
  have HB4 := Lib.hid (HC4.out.keep (((New.refl _).alloc _).trans m4))
  have Hab4 := Lib.hid ((RowIs.new w3 55 [.int .i64 abl, .int .i64 abh]).keep m4)
  have Abc := Lib.hid hbc
  clear c0 c1 c2 x0 x1 y0 y1 q1 q2 q3 q4 m4 hbc HC1 HC2 HC3 HC4
  have c0 := HB1.out.cell (i := 0) rfl
  have c1 := HB1.out.cell (i := 1) rfl
  have c2 := HB1.out.cell (i := 2) rfl
  have x0 := HB2.out.cell (i := 0) rfl
  have x1 := HB2.out.cell (i := 1) rfl
  have y0 := HB4.out.cell (i := 0) rfl
  have y1 := HB4.out.cell (i := 1) rfl
  have q1 := HB1.out.lt
  have q2 := HB2.out.lt
  have q3 := HB3.out.lt
  have q4 := HB4.out.lt
  go_wp2_with fail
  refine (HRL.out _ ⟨al, an⟩ ⟨rl, rn⟩ (HN4.out.alloc _)).mono ?_
  rintro e w5 ⟨acl, ach, e3, rfl, m5, hac⟩
  have HN5 := Lib.hid (((HN4.out.alloc _)).trans m5)
  have HC1 := Lib.hid (HB1.out.keep (((New.refl _).alloc _).trans m5))
  have HC2 := Lib.hid (HB2.out.keep (((New.refl _).alloc _).trans m5))
  have HC3 := Lib.hid (HB3.out.keep (((New.refl _).alloc _).trans m5))
  have HC4 := Lib.hid (HB4.out.keep (((New.refl _).alloc _).trans m5))
  have Hab5 := Lib.hid (Hab4.out.keep (((New.refl _).alloc _).trans m5))
  have Hbc5 := Lib.hid ((RowIs.new w4 55 [.int .i64 bcl, .int .i64 bch]).keep m5)
  have Aac := Lib.hid hac
  clear c0 c1 c2 x0 x1 y0 y1 q1 q2 q3 q4 m5 hac HB1 HB2 HB3 HB4 Hab4
  have c0 := HC1.out.cell (i := 0) rfl
  have c1 := HC1.out.cell (i := 1) rfl
  have c2 := HC1.out.cell (i := 2) rfl
  have x0 := HC3.out.cell (i := 0) rfl
  have x1 := HC3.out.cell (i := 1) rfl
  have y0 := HC2.out.cell (i := 0) rfl
  have y1 := HC2.out.cell (i := 1) rfl
  have q1 := HC1.out.lt
  have q2 := HC2.out.lt
  have q3 := HC3.out.lt
  have q4 := HC4.out.lt
  go_wp2_with fail
  refine (HRL.out _ ⟨bl, bn⟩ ⟨al, an⟩ (HN5.out.alloc _)).mono ?_
  rintro e w6 ⟨bal, bah, e4, rfl, m6, hba⟩
  have HN6 := Lib.hid (((HN5.out.alloc _)).trans m6)
  have HB1 := Lib.hid (HC1.out.keep (((New.refl _).alloc _).trans m6))
  have HB2 := Lib.hid (HC2.out.keep (((New.refl _).alloc _).trans m6))
  have HB3 := Lib.hid (HC3.out.keep (((New.refl _).alloc _).trans m6))
  have HB4 := Lib.hid (HC4.out.keep (((New.refl _).alloc _).trans m6))
  have Hab6 := Lib.hid (Hab5.out.keep (((New.refl _).alloc _).trans m6))
  have Hbc6 := Lib.hid (Hbc5.out.keep (((New.refl _).alloc _).trans m6))
  have Hac6 := Lib.hid ((RowIs.new w5 55 [.int .i64 acl, .int .i64 ach]).keep m6)
  have Aba := Lib.hid hba
  clear c0 c1 c2 x0 x1 y0 y1 q1 q2 q3 q4 m6 hba HC1 HC2 HC3 HC4 Hab5 Hbc5
  have c0 := HB1.out.cell (i := 0) rfl
  have c1 := HB1.out.cell (i := 1) rfl
  have c2 := HB1.out.cell (i := 2) rfl
  have x0 := HB2.out.cell (i := 0) rfl
  have x1 := HB2.out.cell (i := 1) rfl
  have q1 := HB1.out.lt
  have q2 := HB2.out.lt
  have q3 := HB3.out.lt
  have q4 := HB4.out.lt
  go_wp2_with fail
  refine (HIV.out _ ⟨al, an⟩ (HN6.out.alloc _)).mono ?_
  rintro e w7 ⟨xl, xh, e5, rfl, m7, hx⟩
  have HN7 := Lib.hid (((HN6.out.alloc _)).trans m7)
  have HC1 := Lib.hid (HB1.out.keep (((New.refl _).alloc _).trans m7))
  have HC2 := Lib.hid (HB2.out.keep (((New.refl _).alloc _).trans m7))
  have HC3 := Lib.hid (HB3.out.keep (((New.refl _).alloc _).trans m7))
  have HC4 := Lib.hid (HB4.out.keep (((New.refl _).alloc _).trans m7))
  have Hab7 := Lib.hid (Hab6.out.keep (((New.refl _).alloc _).trans m7))
  have Hbc7 := Lib.hid (Hbc6.out.keep (((New.refl _).alloc _).trans m7))
  have Hac7 := Lib.hid (Hac6.out.keep (((New.refl _).alloc _).trans m7))
  have Hba7 := Lib.hid ((RowIs.new w6 55 [.int .i64 bal, .int .i64 bah]).keep m7)
  have Ax := Lib.hid hx
  clear c0 c1 c2 x0 x1 q1 q2 q3 q4 m7 hx HB1 HB2 HB3 HB4 Hab6 Hbc6 Hac6
  have c0 := HC1.out.cell (i := 0) rfl
  have c1 := HC1.out.cell (i := 1) rfl
  have c2 := HC1.out.cell (i := 2) rfl
  have x0 := HC3.out.cell (i := 0) rfl
  have x1 := HC3.out.cell (i := 1) rfl
  have q1 := HC1.out.lt
  have q2 := HC2.out.lt
  have q3 := HC3.out.lt
  have q4 := HC4.out.lt
  go_wp2_with fail
  refine (HIV.out _ ⟨bl, bn⟩ (HN7.out.alloc _)).mono ?_
  rintro e w8 ⟨yl, yh, e6, rfl, m8, hy⟩
  have HN8 := Lib.hid (((HN7.out.alloc _)).trans m8)
  have HB1 := Lib.hid (HC1.out.keep (((New.refl _).alloc _).trans m8))
  have HB2 := Lib.hid (HC2.out.keep (((New.refl _).alloc _).trans m8))
  have HB3 := Lib.hid (HC3.out.keep (((New.refl _).alloc _).trans m8))
  have HB4 := Lib.hid (HC4.out.keep (((New.refl _).alloc _).trans m8))
  have Hab8 := Lib.hid (Hab7.out.keep (((New.refl _).alloc _).trans m8))
  have Hbc8 := Lib.hid (Hbc7.out.keep (((New.refl _).alloc _).trans m8))
  have Hac8 := Lib.hid (Hac7.out.keep (((New.refl _).alloc _).trans m8))
  have Hba8 := Lib.hid (Hba7.out.keep (((New.refl _).alloc _).trans m8))
  have Hx8 := Lib.hid ((RowIs.new w7 55 [.int .i64 xl, .int .i64 xh]).keep m8)
  have Ay := Lib.hid hy
  clear c0 c1 c2 x0 x1 q1 q2 q3 q4 m8 hy HC1 HC2 HC3 HC4 Hab7 Hbc7 Hac7 Hba7
  have E4 : e4 = e1 := ErrP.unique Aba.out.1 (by rw [ErrP, linesE_comm]; exact Aab.out.1)
  subst e4
  by_cases hz : e1 = 0 ∧ e2 = 0 ∧ e3 = 0
  · obtain ⟨rfl, rfl, rfl⟩ := hz
    obtain ⟨k1, k2⟩ := Aab.out.1.zero
    obtain ⟨k3, k4⟩ := linesE_ok.1 k1
    obtain rfl := Ax.out.1.of_zero (linesE_ok.2 ⟨k3, fun r hr => k4 r (by simp at hr; simp [hr])⟩) k2
    obtain rfl := Ay.out.1.of_zero (linesE_ok.2 ⟨k3, fun r hr => k4 r (by simp at hr; simp [hr])⟩) k2
    have HSO := Lib.hid k3
    have HCL := Lib.hid k2
    obtain ⟨-, b1, p1⟩ := Aab.out
    obtain ⟨-, b2, p2⟩ := Abc.out
    obtain ⟨-, b3, p3⟩ := Aac.out
    obtain ⟨-, b4, p4⟩ := Aba.out
    obtain ⟨-, b5, p5⟩ := Ax.out
    obtain ⟨-, b6, p6⟩ := Ay.out
    obtain ⟨p1, q1⟩ := p1 rfl
    obtain ⟨p2, q2⟩ := p2 rfl
    obtain ⟨p3, q3⟩ := p3 rfl
    obtain ⟨p4, q4⟩ := p4 rfl
    obtain ⟨p5, q5⟩ := p5 rfl
    obtain ⟨p6, q6⟩ := p6 rfl
    have i1 := p1.unique q4
    have i2 := p4.unique q1
    have i3 := q2.tri q1 q3
    have i4 := p1.tri p2 p3
    have i5 := p1.round k2 q1
    have i6 := q6.tri p5 q1
    have i7 := q5.tri p6 p1
    have i8 := p6.tri q1 p5
    have i9 := p1.tri q6 q5
    obtain rfl : bal = -abh := by omega
    obtain rfl : bah = -abl := by omega
    have o1 : IntKind.i64.wrap (0 - abh) = -abh := by rw [IntWalk.i64_in _ (by omega)]; omega
    have o2 : IntKind.i64.wrap (0 - abl) = -abl := by rw [IntWalk.i64_in _ (by omega)]; omega
    have o1' : IntKind.i64.wrap (-abh) = -abh := IntWalk.i64_in _ (by omega)
    have o2' : IntKind.i64.wrap (-abl) = -abl := IntWalk.i64_in _ (by omega)
    have o3 : IntKind.i64.wrap (abl + bcl) = abl + bcl := IntWalk.i64_in _ (by omega)
    have o4 : IntKind.i64.wrap (abh + bch) = abh + bch := IntWalk.i64_in _ (by omega)
    have o5 : IntKind.i64.wrap (yl - xh) = yl - xh := IntWalk.i64_in _ (by omega)
    have o6 : IntKind.i64.wrap (yh - xl) = yh - xl := IntWalk.i64_in _ (by omega)
    have o7 : IntKind.i64.wrap (xh + abl) = xh + abl := IntWalk.i64_in _ (by omega)
    have o8 : IntKind.i64.wrap (xl + abh) = xl + abh := IntWalk.i64_in _ (by omega)
    have u3 : decide (acl < abl + bcl) = false := by simp; omega
    have u4 : decide (abh + bch < ach) = false := by simp; omega
    have u5 : decide (abh < abl) = false := by simp; omega
    have u6 : decide (abl < yl - xh) = false := by simp; omega
    have u7 : decide (yh - xl < abh) = false := by simp; omega
    have u8 : decide (yh < xh + abl) = false := by simp; omega
    have u9 : decide (xl + abh < yl) = false := by simp; omega
    clear k1 k2 k3 k4 b1 b2 b3 b4 b5 b6 p1 p2 p3 p4 p5 p6 q1 q2 q3 q4 q5 q6 i1 i2 i3 i4 i5 i6 i7 i8 i9 Aab Abc Aac Aba Ax Ay
    have G1 := Lib.hid (HB1.out.keep ((New.refl w8).alloc (.cells #[.int .i64 yl, .int .i64 yh] 55)))
    have G2 := Lib.hid (HB2.out.keep ((New.refl w8).alloc (.cells #[.int .i64 yl, .int .i64 yh] 55)))
    have G3 := Lib.hid (HB3.out.keep ((New.refl w8).alloc (.cells #[.int .i64 yl, .int .i64 yh] 55)))
    have G4 := Lib.hid (HB4.out.keep ((New.refl w8).alloc (.cells #[.int .i64 yl, .int .i64 yh] 55)))
    have Gab := Lib.hid (Hab8.out.keep ((New.refl w8).alloc (.cells #[.int .i64 yl, .int .i64 yh] 55)))
    have Gbc := Lib.hid (Hbc8.out.keep ((New.refl w8).alloc (.cells #[.int .i64 yl, .int .i64 yh] 55)))
    have Gac := Lib.hid (Hac8.out.keep ((New.refl w8).alloc (.cells #[.int .i64 yl, .int .i64 yh] 55)))
    have Gba := Lib.hid (Hba8.out.keep ((New.refl w8).alloc (.cells #[.int .i64 yl, .int .i64 yh] 55)))
    have Gx := Lib.hid (Hx8.out.keep ((New.refl w8).alloc (.cells #[.int .i64 yl, .int .i64 yh] 55)))
    have Gy := Lib.hid (RowIs.new w8 55 [.int .i64 yl, .int .i64 yh])
    have HN9 := Lib.hid (HN8.out.alloc (.cells #[.int .i64 yl, .int .i64 yh] 55))
    have gab0 := Gab.out.cell (i := 0) rfl
    have gab1 := Gab.out.cell (i := 1) rfl
    have gbc0 := Gbc.out.cell (i := 0) rfl
    have gbc1 := Gbc.out.cell (i := 1) rfl
    have gac0 := Gac.out.cell (i := 0) rfl
    have gac1 := Gac.out.cell (i := 1) rfl
    have gba0 := Gba.out.cell (i := 0) rfl
    have gba1 := Gba.out.cell (i := 1) rfl
    have gx0 := Gx.out.cell (i := 0) rfl
    have gx1 := Gx.out.cell (i := 1) rfl
    have gy0 := Gy.out.cell (i := 0) rfl
    have gy1 := Gy.out.cell (i := 1) rfl
    go_wp2_with fail
    clear gab0 gab1 gbc0 gbc1 gac0 gac1 gba0 gba1 gx0 gx1 gy0 gy1 Gab Gbc Gac Gba Gx Gy G2 G3 G4 o1 o2 o1' o2' o3 o4 o5 o6 o7 o8 u3 u4 u5 u6 u7 u8 u9 HRL HIV
    generalize w8.alloc (.cells #[.int .i64 yl, .int .i64 yh] 55) = W9 at *
    go_loopw [22] (fun i wr => ∃ k : Nat, k ≤ s.ties.length ∧ i = .int .i64 k ∧ New W9 wr) (fun i _ => s.ties.length - (intOf i).toNat)
    case atStart => exact ⟨0, Nat.zero_le _, rfl, New.refl _⟩
    case round =>
      obtain ⟨k, hk, rfl, hn⟩ := hrel
      have HNW := Lib.hid hn
      have HG1 := Lib.hid (G1.out.keep hn)
      clear hn
      have z1 := HG1.out.cell (i := 1) rfl
      have hlen := HM.out.2.1
      by_cases hlt : k < s.ties.length
      · have ik : (k : Int) < (s.ties.length : Int) := by omega
        have HMU : Hid (∀ w', New w w' → _) := Lib.hid fun w' h => ck_MustTie s HSO.out HCL.out A D c d w' (HM.out.keep h) ⟨h.cellOf HB.out.1, h.cellOf HB.out.2⟩ k hlt
        obtain ⟨tb, to, hD, hblk, hc⟩ := (HM.out.keep (HN9.out.trans HNW.out)).2.2 (by omega)
        subst hD
        have hcc := hc k hlt
        change TiC wr tb (to + k * 4) (tiAt s k) at hcc
        clear hc
        generalize tiAt s k = t at *
        obtain ⟨⟨tl, tn⟩, ⟨sl, sn⟩⟩ := t
        have HSD : Hid (∀ w', New wr w' → (w'.cell? ⟨w.heap.size, 0, none⟩ = some (.slice A s.tracks.length c) ∧ w'.cell? ⟨w.heap.size, 1, none⟩ = some (.slice (some ⟨tb, to, none⟩) s.ties.length d) ∧ w'.cell? ⟨w.heap.size, 2, none⟩ = some (.int .i64 s.window)) ∧ w'.cell? ⟨tb, to + k * 4, none⟩ = some (.int .i64 tl) ∧ w'.cell? ⟨tb, to + k * 4 + 1, none⟩ = some (.int .i64 tn) ∧ w'.cell? ⟨tb, to + k * 4 + 2, none⟩ = some (.int .i64 sl) ∧ w'.cell? ⟨tb, to + k * 4 + 3, none⟩ = some (.int .i64 sn)) := Lib.hid fun w' h => ⟨⟨(HG1.out.keep h).cell rfl, (HG1.out.keep h).cell rfl, (HG1.out.keep h).cell rfl⟩, (hcc.keep h).1, (hcc.keep h).2.1, (hcc.keep h).2.2.1, (hcc.keep h).2.2.2⟩
        clear hcc hblk
        go_wp2_with fail
        clear z1
        try dsimp only at HMU
        refine region_plain (by kernel_rfl) (wpAny_of_held (S := fun w' => (w'.cell? ⟨w.heap.size, 0, none⟩ = some (.slice A s.tracks.length c) ∧ w'.cell? ⟨w.heap.size, 1, none⟩ = some (.slice (some ⟨tb, to, none⟩) s.ties.length d) ∧ w'.cell? ⟨w.heap.size, 2, none⟩ = some (.int .i64 s.window)) ∧ w'.cell? ⟨tb, to + k * 4, none⟩ = some (.int .i64 tl) ∧ w'.cell? ⟨tb, to + k * 4 + 1, none⟩ = some (.int .i64 tn) ∧ w'.cell? ⟨tb, to + k * 4 + 2, none⟩ = some (.int .i64 sl) ∧ w'.cell? ⟨tb, to + k * 4 + 3, none⟩ = some (.int .i64 sn)) _ _ _ _ ?_)
        change wpAnyH _ _ _ _ _ _ _ _ wr.drew
        have hS := HSD.out wr.drew (New.refl wr).drew
        refine wpAnyH_take (i := 0) (v := ?_) rfl (by kernel_rfl) (by kernel_rfl) (by kernel_rfl) (fun _ _ _ h => h) (Or.inl ⟨by rfl, fun w' hS' => ?_⟩) hS ?_
        rotate_left
        · obtain ⟨⟨s0, s1, s2⟩, s3, s4, s5, s6⟩ := hS'
          go_simp
          try rfl
        try simp only [List.getElem_toArray, List.getElem_cons_zero, Act.put, List.setIfInBounds_toArray, List.set_cons_zero, List.set_cons_succ]
        refine wpAnyH_take (i := 1) (v := ?_) rfl (by kernel_rfl) (by kernel_rfl) (by kernel_rfl) (fun _ _ _ h => h) (Or.inl ⟨by rfl, fun w' hS' => ?_⟩) hS ?_
        rotate_left
        · obtain ⟨⟨s0, s1, s2⟩, s3, s4, s5, s6⟩ := hS'
          go_simp
          try rfl
        try simp only [List.getElem_toArray, List.getElem_cons_zero, List.getElem_cons_succ, Act.put, List.setIfInBounds_toArray, List.set_cons_zero, List.set_cons_succ]
        refine wpAnyH_take (i := 2) (v := ?_) rfl (by kernel_rfl) (by kernel_rfl) (by kernel_rfl) (fun _ _ _ h => h) (Or.inl ⟨by rfl, fun w' hS' => ?_⟩) hS ?_
        rotate_left
        · obtain ⟨⟨s0, s1, s2⟩, s3, s4, s5, s6⟩ := hS'
          go_simp
          try rfl
        try simp only [List.getElem_toArray, List.getElem_cons_zero, List.getElem_cons_succ, Act.put, List.setIfInBounds_toArray, List.set_cons_zero, List.set_cons_succ]
        refine wpAnyH_take (i := 3) (v := ?_) rfl (by kernel_rfl) (by kernel_rfl) (by kernel_rfl) (fun _ _ _ h => h) (Or.inl ⟨by rfl, fun w' hS' => ?_⟩) hS ?_
        rotate_left
        · obtain ⟨⟨s0, s1, s2⟩, s3, s4, s5, s6⟩ := hS'
          go_simp
          try rfl
        try simp only [List.getElem_toArray, List.getElem_cons_zero, List.getElem_cons_succ, Act.put, List.setIfInBounds_toArray, List.set_cons_zero, List.set_cons_succ]
        refine wpAnyH_take (i := 4) (v := ?_) rfl (by kernel_rfl) (by kernel_rfl) (by kernel_rfl) (fun _ _ _ h => h) (Or.inl ⟨by rfl, fun w' hS' => ?_⟩) hS ?_
        rotate_left
        · obtain ⟨⟨s0, s1, s2⟩, s3, s4, s5, s6⟩ := hS'
          go_simp
          try rfl
        try simp only [List.getElem_toArray, List.getElem_cons_zero, List.getElem_cons_succ, Act.put, List.setIfInBounds_toArray, List.set_cons_zero, List.set_cons_succ]
        refine wpAnyH_take (i := 5) (v := ?_) rfl (by kernel_rfl) (by kernel_rfl) (by kernel_rfl) (fun _ _ _ h => h) (Or.inl ⟨by rfl, fun w' hS' => ?_⟩) hS ?_
        rotate_left
        · obtain ⟨⟨s0, s1, s2⟩, s3, s4, s5, s6⟩ := hS'
          go_simp
          try rfl
        try simp only [List.getElem_toArray, List.getElem_cons_zero, List.getElem_cons_succ, Act.put, List.setIfInBounds_toArray, List.set_cons_zero, List.set_cons_succ]
        refine wpAnyH_take (i := 6) (v := ?_) rfl (by kernel_rfl) (by kernel_rfl) (by kernel_rfl) (fun _ _ _ h => h) (Or.inl ⟨by rfl, fun w' hS' => ?_⟩) hS ?_
        rotate_left
        · obtain ⟨⟨s0, s1, s2⟩, s3, s4, s5, s6⟩ := hS'
          go_simp
          try rfl
        try simp only [List.getElem_toArray, List.getElem_cons_zero, List.getElem_cons_succ, Act.put, List.setIfInBounds_toArray, List.set_cons_zero, List.set_cons_succ]
        refine wpAnyH_take (i := 7) (v := ?_) rfl (by kernel_rfl) (by kernel_rfl) (by kernel_rfl) (fun _ _ _ h => h) (Or.inl ⟨by rfl, fun w' hS' => ?_⟩) hS ?_
        rotate_left
        · obtain ⟨⟨s0, s1, s2⟩, s3, s4, s5, s6⟩ := hS'
          go_simp
          try rfl
        try simp only [List.getElem_toArray, List.getElem_cons_zero, List.getElem_cons_succ, Act.put, List.setIfInBounds_toArray, List.set_cons_zero, List.set_cons_succ]
        refine wpAnyH_take (i := 8) (v := ?_) rfl (by kernel_rfl) (by kernel_rfl) (by kernel_rfl) (fun _ _ _ h => h) (Or.inl ⟨by rfl, fun w' hS' => ?_⟩) hS ?_
        rotate_left
        · obtain ⟨⟨s0, s1, s2⟩, s3, s4, s5, s6⟩ := hS'
          go_simp
          try rfl
        try simp only [List.getElem_toArray, List.getElem_cons_zero, List.getElem_cons_succ, Act.put, List.setIfInBounds_toArray, List.set_cons_zero, List.set_cons_succ]
        refine wpAnyH_take (i := 9) (v := ?_) rfl (by kernel_rfl) (by kernel_rfl) (by kernel_rfl) (fun _ _ _ h => h) (Or.inl ⟨by rfl, fun w' hS' => ?_⟩) hS ?_
        rotate_left
        · obtain ⟨⟨s0, s1, s2⟩, s3, s4, s5, s6⟩ := hS'
          go_simp
          try rfl
        try simp only [List.getElem_toArray, List.getElem_cons_zero, List.getElem_cons_succ, Act.put, List.setIfInBounds_toArray, List.set_cons_zero, List.set_cons_succ]
        refine wpAnyH_take (i := 10) (v := ?_) rfl (by kernel_rfl) (by kernel_rfl) (by kernel_rfl) (fun _ _ _ h => h) (Or.inl ⟨by rfl, fun w' hS' => ?_⟩) hS ?_
        rotate_left
        · obtain ⟨⟨s0, s1, s2⟩, s3, s4, s5, s6⟩ := hS'
          go_simp
          try rfl
        try simp only [List.getElem_toArray, List.getElem_cons_zero, List.getElem_cons_succ, Act.put, List.setIfInBounds_toArray, List.set_cons_zero, List.set_cons_succ]
        refine wpAnyH_take (i := 11) (v := ?_) rfl (by kernel_rfl) (by kernel_rfl) (by kernel_rfl) (fun _ _ _ h => h) (Or.inl ⟨by rfl, fun w' hS' => ?_⟩) hS ?_
        rotate_left
        · obtain ⟨⟨s0, s1, s2⟩, s3, s4, s5, s6⟩ := hS'
          go_simp
          try rfl
        try simp only [List.getElem_toArray, List.getElem_cons_zero, List.getElem_cons_succ, Act.put, List.setIfInBounds_toArray, List.set_cons_zero, List.set_cons_succ]
        refine wpAnyH_take (i := 12) (v := ?_) rfl (by kernel_rfl) (by kernel_rfl) (by kernel_rfl) (fun _ _ _ h => h) (Or.inl ⟨by rfl, fun w' hS' => ?_⟩) hS ?_
        rotate_left
        · obtain ⟨⟨s0, s1, s2⟩, s3, s4, s5, s6⟩ := hS'
          go_simp
          try rfl
        try simp only [List.getElem_toArray, List.getElem_cons_zero, List.getElem_cons_succ, Act.put, List.setIfInBounds_toArray, List.set_cons_zero, List.set_cons_succ]
        refine wpAnyH_ready (rs := [13]) (by kernel_rfl) (by simp) ?_
        refine AllReadyH.cons rfl (fun K hK => ?_) AllReadyH.nil
        go_simp
        refine (HMU.out _ (HN9.out.trans (HNW.out.trans (New.refl wr).drew))).mono ?_
        rintro e w2 ⟨rfl, m2⟩
        refine hK.out _ _ (HSD.out w2 ((New.refl wr).drew.trans m2)) (fun hS => ?_)
        clear hK K
        try simp only [List.getElem_toArray, List.getElem_cons_zero, List.getElem_cons_succ, Act.put, List.setIfInBounds_toArray, List.set_cons_zero, List.set_cons_succ]
        refine wpAnyH_take (i := 14) (v := ?_) rfl (by kernel_rfl) (by kernel_rfl) (by kernel_rfl) (fun _ _ _ h => h) (Or.inl ⟨by rfl, fun w' hS' => ?_⟩) hS ?_
        rotate_left
        · obtain ⟨⟨s0, s1, s2⟩, s3, s4, s5, s6⟩ := hS'
          go_simp
          try rfl
        try simp only [List.getElem_toArray, List.getElem_cons_zero, List.getElem_cons_succ, Act.put, List.setIfInBounds_toArray, List.set_cons_zero, List.set_cons_succ]
        refine wpAnyH_take (i := 15) (v := ?_) rfl (by kernel_rfl) (by kernel_rfl) (by kernel_rfl) (fun _ _ _ h => h) (Or.inl ⟨by rfl, fun w' hS' => ?_⟩) hS ?_
        rotate_left
        · obtain ⟨⟨s0, s1, s2⟩, s3, s4, s5, s6⟩ := hS'
          go_simp
          try rfl
        try simp only [List.getElem_toArray, List.getElem_cons_zero, List.getElem_cons_succ, Act.put, List.setIfInBounds_toArray, List.set_cons_zero, List.set_cons_succ]
        refine wpAnyH_take (i := 16) (v := ?_) rfl (by kernel_rfl) (by kernel_rfl) (by kernel_rfl) (fun _ _ _ h => h) (Or.inl ⟨by rfl, fun w' hS' => ?_⟩) hS ?_
        rotate_left
        · obtain ⟨⟨s0, s1, s2⟩, s3, s4, s5, s6⟩ := hS'
          go_simp
          try rfl
        try simp only [List.getElem_toArray, List.getElem_cons_zero, List.getElem_cons_succ, Act.put, List.setIfInBounds_toArray, List.set_cons_zero, List.set_cons_succ]
        refine wpAnyH_take (i := 17) (v := ?_) rfl (by kernel_rfl) (by kernel_rfl) (by kernel_rfl) (fun _ _ _ h => h) (Or.inl ⟨by rfl, fun w' hS' => ?_⟩) hS ?_
        rotate_left
        · obtain ⟨⟨s0, s1, s2⟩, s3, s4, s5, s6⟩ := hS'
          go_simp
          try rfl
        try simp only [List.getElem_toArray, List.getElem_cons_zero, List.getElem_cons_succ, Act.put, List.setIfInBounds_toArray, List.set_cons_zero, List.set_cons_succ]
        refine wpAnyH_take (i := 18) (v := ?_) rfl (by kernel_rfl) (by kernel_rfl) (by kernel_rfl) (fun _ _ _ h => h) (Or.inl ⟨by rfl, fun w' hS' => ?_⟩) hS ?_
        rotate_left
        · obtain ⟨⟨s0, s1, s2⟩, s3, s4, s5, s6⟩ := hS'
          go_simp
          try rfl
        try simp only [List.getElem_toArray, List.getElem_cons_zero, List.getElem_cons_succ, Act.put, List.setIfInBounds_toArray, List.set_cons_zero, List.set_cons_succ]
        refine wpAnyH_done (by kernel_rfl) ?_ _
        unfold NormQ
        dsimp only [Exit.then]
        have HN2 := Lib.hid (HNW.out.trans ((New.refl wr).drew.trans m2))
        clear hS m2 HSD HMU
        go_wp2_with fail
        go_roundw
        case rel => exact ⟨k + 1, by omega, by go_num, HN2.out⟩
        case measure => simp [intOf]; omega
      · go_wp2_with fail
        go_ret
        exact ⟨rfl, HN9.out.trans HNW.out⟩
  have hx : e1 = 0 → e5 = 0 ∧ e6 = 0 := fun h => by
    subst h
    obtain ⟨k1, k2⟩ := Aab.out.1.zero
    obtain ⟨k3, k4⟩ := linesE_ok.1 k1
    exact ⟨Ax.out.1.of_zero (linesE_ok.2 ⟨k3, fun r hr => k4 r (by simp at hr; simp [hr])⟩) k2, Ay.out.1.of_zero (linesE_ok.2 ⟨k3, fun r hr => k4 r (by simp at hr; simp [hr])⟩) k2⟩
  by_cases g1 : e1 = 0
  · obtain ⟨rfl, rfl⟩ := hx g1
    subst g1
    by_cases g2 : e2 = 0
    · subst g2
      have g3 : (e3 != 0) = true := by simpa using hz
      go_wp2_with fail
      go_ret
      exact ⟨rfl, HN8.out.alloc _⟩
    · have g3 : (e2 != 0) = true := by simpa using g2
      go_wp2_with fail
      go_ret
      exact ⟨rfl, HN8.out.alloc _⟩
  · have g3 : (e1 != 0) = true := by simpa using g1
    go_wp2_with fail
    go_ret
    exact ⟨rfl, HN8.out.alloc _⟩
namespace LawTriangle
theorem reads : ∀ t ∈ Tryd.f10.params.toList, Tryd.prog.readableRec t = true ∧ t < Tryd.prog.types.size := by
  rw [Tryd.params10]
  intro t ht
  have ht : t = 25 ∨ t = 53 := by simpa using ht
  rcases ht with rfl | rfl
  · exact ⟨by kernel_rfl, of_decide_eq_true (by kernel_rfl)⟩
  · exact ⟨by kernel_rfl, of_decide_eq_true (by kernel_rfl)⟩
set_option maxRecDepth 100000 in
set_option maxHeartbeats 2000000 in
theorem contract (H : Type) (enc : TypeId × Value → H) (W : World) (base : Nat) (args : Array Value) (ds gs : List (DataW H)) (before : List MemPlace)
    (hval : ∀ (j : Nat) t v, Tryd.f10.params[j]? = some t → args[j]? = some v → Value.okWide Tryd.prog W .any base t v)
    (hW : DataW.Whole enc Tryd.prog Tryd.f10.params.toList Rows.clocksTriangleSpec.vars false W args.toList ds gs before) (_ : W.ShapedOpen Tryd.prog) (hlaid : laidMetH Tryd.prog Rows.clocksTriangleRow.laid W) :
    Calls Tryd.prog 10 args W fun e W' => ∃ v, e = .returned v ∧ Rows.clocksTriangleSpec.post enc Tryd.prog Tryd.f10 false true false false W args v W' := by
  have hW' := hW
  obtain ⟨p, q, hA0, hV, rfl, hfz, hnd⟩ := hW
  have hA : DataW.TrodAll enc Tryd.prog W 0 (fun _ => true) true Tryd.f10.params.toList args.toList ds p := hA0
  rw [Tryd.params10] at hA hval
  obtain ⟨v0, vs0, d0, ds0, p0, q0, hargs, rfl, rfl, h0, r0⟩ := trodAll_cons hA
  obtain ⟨v1, vs1, d1, ds1, p1, q1, rfl, rfl, rfl, h1, r1⟩ := trodAll_cons r0
  obtain ⟨v2, vs2, d2, ds2, p2, q2, rfl, rfl, rfl, h2, r2⟩ := trodAll_cons r1
  obtain ⟨v3, vs3, d3, ds3, p3, q3, rfl, rfl, rfl, h3, r3⟩ := trodAll_cons r2
  obtain ⟨rfl, rfl, rfl⟩ := trodAll_nil r3
  obtain rfl : args = #[v0, v1, v2, v3] := by cases args; simp_all
  obtain ⟨rfl, rfl⟩ := trodVars_none hV
  have hv0 := hval 0 25 v0 rfl rfl
  have hv1 := hval 1 53 v1 rfl rfl
  have hv2 := hval 2 53 v2 rfl rfl
  have hv3 := hval 3 53 v3 rfl rfl
  clear hval
  obtain ⟨s0, A0, D0, c0, e0, rfl, hM0⟩ := open_sys hv0 h0
  obtain ⟨R1, rfl⟩ := open_ref hv1 h1
  obtain ⟨R2, rfl⟩ := open_ref hv2 h2
  obtain ⟨R3, rfl⟩ := open_ref hv3 h3
  have hbeg : BegA W := beg_of_laid hlaid
  refine (law_triangle s0 A0 D0 c0 e0 R1 R2 R3 W hM0 hbeg).mono fun e W' ⟨he, hb⟩ => ?_
  subst he
  exact ⟨_, rfl, post_true hW' rfl (by kernel_rfl) ⟨rfl, rfl, rfl⟩ reads hb⟩
theorem laid_met (os : Os) : laidMet Tryd.prog Rows.clocksTriangleRow.laid ((laidWorld os).forCall (fun _ _ => 0) ⟨#[], #[.agg #[.slice none 0 0, .slice none 0 0, .int .i64 0], .agg #[.int .i64 0, .int .i64 0], .agg #[.int .i64 0, .int .i64 0], .agg #[.int .i64 0, .int .i64 0]], []⟩).memory :=
  laidMet_of_run' 8 (by kernel_rfl) (by kernel_rfl)
theorem reads_w (os : Os) {H : Type} (enc : TypeId × Value → H) : ∃ places, DataW.whole enc Tryd.prog ((laidWorld os).forCall (fun _ _ => 0) ⟨#[], #[.agg #[.slice none 0 0, .slice none 0 0, .int .i64 0], .agg #[.int .i64 0, .int .i64 0], .agg #[.int .i64 0, .int .i64 0], .agg #[.int .i64 0, .int .i64 0]], []⟩).memory Tryd.f10.params.toList Rows.clocksTriangleSpec.vars false #[Value.agg #[.slice none 0 0, .slice none 0 0, .int .i64 0], .agg #[.int .i64 0, .int .i64 0], .agg #[.int .i64 0, .int .i64 0], .agg #[.int .i64 0, .int .i64 0]].toList 8 = some ([.agg [.nil, .nil, .lit (.int .i64 0)], .agg [.lit (.int .i64 0), .lit (.int .i64 0)], .agg [.lit (.int .i64 0), .lit (.int .i64 0)], .agg [.lit (.int .i64 0), .lit (.int .i64 0)]], [], places) :=
  ⟨[], by kernel_rfl⟩
set_option maxRecDepth 100000 in
theorem lifted (os : Os) (started : os.Started) (H : Type) (enc : TypeId × Value → H) (F : Stop.Interp) :
    ReturnsInHanded {} Tryd.checked os 10 .any ((OpenSpec.ofChange Rows.clocksTriangleSpec).preRow enc Tryd.prog Tryd.f10 Rows.clocksTriangleRow.domain false Rows.clocksTriangleRow.laid) (((OpenSpec.ofChange Rows.clocksTriangleSpec).at F).post enc Tryd.prog Tryd.f10 false true false false) := by
  obtain ⟨places, hx⟩ := reads_w os enc
  refine returnsInHanded_of_row (C := Tryd.checked) (s := OpenSpec.ofChange Rows.clocksTriangleSpec) row_own started (by kernel_rfl) Tryd.func10
    (witness_row_at (enc := enc) (C := Tryd.checked) false (laidWorld os) #[.agg #[.slice none 0 0, .slice none 0 0, .int .i64 0], .agg #[.int .i64 0, .int .i64 0], .agg #[.int .i64 0, .int .i64 0], .agg #[.int .i64 0, .int .i64 0]] rfl (by kernel_rfl) (by kernel_rfl) (by kernel_rfl)
      (OpenSpec.preRow_of_cond 8 hx (by kernel_rfl) (fun k hk => by cases hk) (by kernel_rfl) (laid_met os))) ?_
  intro W base args ds gs before hval hW _ _ _ hlaid hS _
  exact contract H enc W base args ds gs before hval hW hS hlaid
theorem said : Rows.ClocksTriangleSaid :=
  OpenClaim.holds_of_cond 10 Tryd.f10 rfl rfl rfl rfl rfl rfl rfl ⟨rfl, rfl, rfl, rfl, rfl⟩ rfl rfl rfl rfl rfl (by kernel_rfl) Tryd.func10 (by kernel_rfl)
    (of_decide_eq_true (by kernel_rfl)) (by unfold Func.isWrapper; first | (rw [if_pos (by decide +kernel)]; kernel_rfl) | (rw [if_neg (by decide +kernel)]; exact ⟨rfl, rfl⟩))
    (fun os started H enc _ F => by rw [OpenClaim.pre_eq_preRow]; exact lifted os started H enc F)
theorem plain (f : FuncId) (fn : Func) (hf : Tryd.pinned.checked.prog.funcNamed "pileup/pileuplaw03.ClocksTriangle" = some f) (hfn : Tryd.pinned.checked.prog.funcs[f]? = some fn) :
    true = Tryd.pinned.checked.prog.looks [] ∧ ∀ (j : Nat) t, fn.params[j]? = some t → Tryd.pinned.checked.prog.wantsStandIn t = false := by
  obtain rfl : f = 10 := Option.some.inj ((show Tryd.prog.funcNamed "pileup/pileuplaw03.ClocksTriangle" = some 10 by kernel_rfl).symm.trans hf) |>.symm
  obtain rfl : fn = Tryd.f10 := (Option.some.inj (Tryd.func10.symm.trans hfn)).symm
  refine ⟨by kernel_rfl, fun j t ht => ?_⟩
  rw [Tryd.params10] at ht
  have ht : t = 25 ∨ t = 53 := by simpa using Array.mem_of_getElem? ht
  rcases ht with rfl | rfl
  · exact (show Tryd.prog.wantsStandIn 25 = false by kernel_rfl)
  · exact (show Tryd.prog.wantsStandIn 53 = false by kernel_rfl)
theorem card : Rows.ClocksTriangleCardSaid :=
  Claim7.holds_tied_plain_at .later [] _ _ _ _ said (fun _ h => by cases h) (by kernel_rfl) (fun _ h => by cases h) clocksTriangle_row_tie rfl ⟨rfl, rfl⟩ (by kernel_rfl) rfl plain (by kernel_rfl)
end LawTriangle
end Go.Proofs.YtlhdhfhfdkldjaaDoor
