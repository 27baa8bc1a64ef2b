/-
  Before and Offset of the program, at a system that closes and lines of it. Condition: the system lies in memory.
-/
import Derived.Test.YtlhdhfhfdkldjaaDoorCkInterval
namespace Go.Proofs.YtlhdhfhfdkldjaaDoor
open Go Go.RowKit Go.Shelf
attribute [local go_sem] Oper.semAt_some
set_option maxRecDepth 100000 in
set_option maxHeartbeats 8000000 in
theorem ck_Before (s : Sy) (hs : Ok s) (A D : Option Addr) (c d : Nat) (w : World) (hM : SysM w A D s) (hbeg : BegA w) (hcl : Closes (egs s)) (a b : Rf) (ha : lineB s a = true) (hb : lineB s b = true) :
    Calls Tryd.prog 46 #[.agg #[.slice A s.tracks.length c, .slice D s.ties.length d, .int .i64 s.window], .agg #[.int .i64 a.log, .int .i64 a.line], .agg #[.int .i64 b.log, .int .i64 b.line]] w fun e w' => ∃ db, e = .returned (.tuple #[.bool (decide (0 < -db (plc s b))), .int .i64 0]) ∧ New w w' ∧ Dist (turnE (egs s)) (nPl s) (plc s a) 22001 db := by
  have n3 := (((New.refl w).alloc (.cells #[.slice A s.tracks.length c, .slice D s.ties.length d, .int .i64 s.window] 25)).alloc (.cells #[.int .i64 a.log, .int .i64 a.line] 53)).alloc (.cells #[.int .i64 b.log, .int .i64 b.line] 53)
  have HRL : Hid (Calls Tryd.prog 40 #[.agg #[.slice A s.tracks.length c, .slice D s.ties.length d, .int .i64 s.window], .agg #[.int .i64 a.log, .int .i64 a.line], .agg #[.int .i64 b.log, .int .i64 b.line]] (((w.alloc (.cells #[.slice A s.tracks.length c, .slice D s.ties.length d, .int .i64 s.window] 25)).alloc (.cells #[.int .i64 a.log, .int .i64 a.line] 53)).alloc (.cells #[.int .i64 b.log, .int .i64 b.line] 53)) fun e w' => ∃ dd db, e = .returned (.tuple #[.agg #[.int .i64 (-db (plc s b)), .int .i64 (dd (plc s b))], .int .i64 0]) ∧ New (((w.alloc (.cells #[.slice A s.tracks.length c, .slice D s.ties.length d, .int .i64 s.window] 25)).alloc (.cells #[.int .i64 a.log, .int .i64 a.line] 53)).alloc (.cells #[.int .i64 b.log, .int .i64 b.line] 53)) w' ∧ Dist (egs s) (nPl s) (plc s a) 22001 dd ∧ Dist (turnE (egs s)) (nPl s) (plc s a) 22001 db) := Lib.hid (ck_Relation s hs A D c d _ (hM.keep n3) ⟨n3.cellOf hbeg.1, n3.cellOf hbeg.2⟩ hcl a b ha hb)
  have HN3 := Lib.hid n3
  clear n3 hs hM hbeg hcl ha hb
  go_enter Tryd.func46, Tryd.ntmps46
  go_wp2_with fail
  refine HRL.out.mono ?_
  rintro e w1 ⟨dd, db, rfl, m1, d1, d2⟩
  have HD := Lib.hid d2
  have HM1 := Lib.hid (HN3.out.trans m1)
  clear HRL HN3 m1 d1 d2
  generalize hx : -db (plc s b) = x at *
  go_wp2_with fail
  go_ret2
  subst hx
  exact ⟨db, rfl, HM1.out.alloc _, HD.out⟩
set_option maxRecDepth 100000 in
set_option maxHeartbeats 8000000 in
theorem ck_Offset (s : Sy) (hs : Ok s) (A D : Option Addr) (c d : Nat) (w : World) (hM : SysM w A D s) (hbeg : BegA w) (hcl : Closes (egs s)) (i j : Nat) (hi : i < s.tracks.length) (hj : j < (tkAt s i).times.length) :
    Calls Tryd.prog 38 #[.agg #[.slice A s.tracks.length c, .slice D s.ties.length d, .int .i64 s.window], .agg #[.int .i64 i, .int .i64 j]] w fun e w' => ∃ dd db, e = .returned (.tuple #[.agg #[.int .i64 (tmAt (tkAt s i) j - dd (plc s ⟨i, j⟩)), .int .i64 (tmAt (tkAt s i) j - -db (plc s ⟨i, j⟩))], .int .i64 0]) ∧ New w w' ∧ Dist (egs s) (nPl s) 0 22001 dd ∧ Dist (turnE (egs s)) (nPl s) 0 22001 db := by
  have hl := line_mk hi hj
  have htk := (trackB_facts (hs.track hi)).1 j hj
  have hpl := plc_lt (.inr hl)
  have hnp := nPl_le hs
  have n3 := (((New.refl w).alloc (.cells #[.slice A s.tracks.length c, .slice D s.ties.length d, .int .i64 s.window] 25)).alloc (.cells #[.int .i64 i, .int .i64 j] 53)).alloc (.cells #[.int .i64 0, .int .i64 0] 55)
  have HIN : Hid (Calls Tryd.prog 36 #[.agg #[.slice A s.tracks.length c, .slice D s.ties.length d, .int .i64 s.window], .agg #[.int .i64 i, .int .i64 j]] (((w.alloc (.cells #[.slice A s.tracks.length c, .slice D s.ties.length d, .int .i64 s.window] 25)).alloc (.cells #[.int .i64 i, .int .i64 j] 53)).alloc (.cells #[.int .i64 0, .int .i64 0] 55)) fun e w' => ∃ dd db, e = .returned (.tuple #[.agg #[.int .i64 (-db (plc s ⟨i, j⟩)), .int .i64 (dd (plc s ⟨i, j⟩))], .int .i64 0]) ∧ New (((w.alloc (.cells #[.slice A s.tracks.length c, .slice D s.ties.length d, .int .i64 s.window] 25)).alloc (.cells #[.int .i64 i, .int .i64 j] 53)).alloc (.cells #[.int .i64 0, .int .i64 0] 55)) w' ∧ Dist (egs s) (nPl s) 0 22001 dd ∧ Dist (turnE (egs s)) (nPl s) 0 22001 db) := Lib.hid (ck_Interval s hs A D c d _ (hM.keep n3) ⟨n3.cellOf hbeg.1, n3.cellOf hbeg.2⟩ hcl ⟨i, j⟩ hl)
  have r1 := RowIs.new w 25 [.slice A s.tracks.length c, .slice D s.ties.length d, .int .i64 s.window]
  have r2 := RowIs.new (w.alloc (.cells #[.slice A s.tracks.length c, .slice D s.ties.length d, .int .i64 s.window] 25)) 53 [.int .i64 i, .int .i64 j]
  have r3 := RowIs.new ((w.alloc (.cells #[.slice A s.tracks.length c, .slice D s.ties.length d, .int .i64 s.window] 25)).alloc (.cells #[.int .i64 i, .int .i64 j] 53)) 55 [.int .i64 0, .int .i64 0]
  have m23 := (New.refl ((w.alloc (.cells #[.slice A s.tracks.length c, .slice D s.ties.length d, .int .i64 s.window] 25)).alloc (.cells #[.int .i64 i, .int .i64 j] 53))).alloc (.cells #[.int .i64 0, .int .i64 0] 55)
  have m13 := ((New.refl (w.alloc (.cells #[.slice A s.tracks.length c, .slice D s.ties.length d, .int .i64 s.window] 25))).alloc (.cells #[.int .i64 i, .int .i64 j] 53)).trans m23
  replace r1 := r1.keep m13
  replace r2 := r2.keep m23
  simp only [World.size_alloc] at r2 r3
  have HR1 := Lib.hid r1
  have HR2 := Lib.hid r2
  have HR3 := Lib.hid r3
  have HN3 := Lib.hid n3
  obtain ⟨b, off, rfl, -, hc⟩ := hM.1.2 (by omega)
  obtain ⟨JA, jc, TA, tc, -, -, -, z3, -, hT⟩ := hc i hi
  have et : s.tracks[i]?.getD default = tkAt s i := rfl
  rw [et] at z3 hT
  obtain ⟨tb, to, rfl, -, hcT⟩ := hT.2 (by omega)
  have zt := hcT j hj
  have e2 : (tkAt s i).times[j]?.getD 0 = tmAt (tkAt s i) j := rfl
  rw [e2] at zt
  clear n3 hs hM hbeg hcl r1 r2 r3 m23 m13 hc hT hcT et e2 hl
  generalize tmAt (tkAt s i) j = sh at *
  generalize hlen : (tkAt s i).times.length = tl at *
  have i1 : (i : Int) < (s.tracks.length : Int) := by omega
  have i2 : (j : Int) < (tl : Int) := by omega
  go_enter Tryd.func38, Tryd.ntmps38
  go_wp2_with fail
  refine HIN.out.mono ?_
  rintro e w1 ⟨dd, db, rfl, m1, d1, d2⟩
  have HD1 := Lib.hid d1
  have HD2 := Lib.hid d2
  have hb1 : -1099511627776 ≤ dd (plc s ⟨i, j⟩) ∧ dd (plc s ⟨i, j⟩) ≤ 1099511627776 := by
    have h1 := d1.lo _ hpl
    by_cases hb : dd (plc s ⟨i, j⟩) = NB
    · rw [hb]; unfold NB; omega
    · have h3 := d1.hi _ hpl hb
      omega
  have hb2 : -1099511627776 ≤ db (plc s ⟨i, j⟩) ∧ db (plc s ⟨i, j⟩) ≤ 1099511627776 := by
    have h1 := d2.lo _ hpl
    by_cases hb : db (plc s ⟨i, j⟩) = NB
    · rw [hb]; unfold NB; omega
    · have h3 := d2.hi _ hpl hb
      omega
  clear d1 d2
  generalize hx : dd (plc s ⟨i, j⟩) = x at *
  generalize hy : db (plc s ⟨i, j⟩) = y at *
  have HM1 := Lib.hid (HN3.out.trans m1)
  have m2 := m1.alloc (.cells #[.int .i64 (-y), .int .i64 x] 55)
  have HA := Lib.hid (HR1.out.keep m2)
  have HB := Lib.hid (HR2.out.keep m2)
  have HC := Lib.hid (HR3.out.keep m2)
  have HX := Lib.hid (RowIs.new w1 55 [.int .i64 (-y), .int .i64 x])
  have HM2 := Lib.hid (HN3.out.trans m2)
  have y0 := HA.out.cell (i := 0) rfl
  have y1 := HB.out.cell (i := 0) rfl
  have y2 := HB.out.cell (i := 1) rfl
  have y3 := HM2.out.cellOf z3
  have y4 := HM2.out.cellOf zt
  have w1e : IntKind.i64.wrap (sh - x) = sh - x := IntWalk.i64_in _ (by omega)
  have w2e : IntKind.i64.wrap (sh - -y) = sh - -y := IntWalk.i64_in _ (by omega)
  clear m1 m2 HIN HR1 HR2 HR3 z3 zt
  go_wp2_with fail
  go_quiet (fail)
  have hk := (New.refl (w1.alloc (.cells #[.int .i64 (-y), .int .i64 x] 55))).drewN nq
  have HC2 := Lib.hid (HC.out.keep hk)
  have HX2 := Lib.hid (HX.out.keep hk)
  have HM3 := Lib.hid (HM2.out.trans hk)
  clear hk y0 y1 y2 y3 y4 HC HX HM2 HA HB
  generalize (w1.alloc (.cells #[.int .i64 (-y), .int .i64 x] 55)).drewN nq = W4 at *
  have g0 := HC2.out.cell (i := 0) rfl
  have g1 := HC2.out.cell (i := 1) rfl
  have f0 := HC2.out.free 0
  have f1 := HC2.out.free 1
  have x0 := HX2.out.cell (i := 0) rfl
  have x1 := HX2.out.cell (i := 1) rfl
  go_wp2_with fail
  have HR4 := (HC2.out.put 0 (.int .i64 (sh - x))).put 1 (.int .i64 (sh + y))
  have e0 := HR4.cell (i := 0) rfl
  have e1 := HR4.cell (i := 1) rfl
  subst hx
  subst hy
  refine ⟨rfl, .tuple #[.agg #[.int .i64 (sh - dd (plc s ⟨i, j⟩)), .int .i64 (sh + db (plc s ⟨i, j⟩))], .int .i64 0], ?_, dd, db, by rw [Int.sub_neg], (HM3.out.setCell (by show w.heap.size ≤ w.heap.size + 1 + 1; omega) _).setCell (by show w.heap.size ≤ w.heap.size + 1 + 1; omega) _, HD1.out, HD2.out⟩
  clear HC2 HX2 HM3 HD1 HD2 HR4
  simp [results, Tryd.results38, go_sem, e0, e1]
end Go.Proofs.YtlhdhfhfdkldjaaDoor
