/-
  Offset, May, Must, Before of both, told by functions. Condition: the system lies in memory.
-/
import Derived.Test.YtodmbcoobjcooaaDoorCkRfI
namespace Go.Proofs.YtodmbcoobjcooaaDoor
open Go Go.RowKit Go.Shelf
attribute [local go_sem] Oper.semAt_some
noncomputable def mayB (s : Sy) (a b : Rf) : Bool := decide (askE s [a, b] = 0) && (decide (rlLo s a b ≤ s.window) && decide (-s.window ≤ rlHi s a b))
noncomputable def mustB (s : Sy) (a b : Rf) : Bool := decide (askE s [a, b] = 0) && (decide (-s.window ≤ rlLo s a b) && decide (rlHi s a b ≤ s.window))
noncomputable def befB (s : Sy) (a b : Rf) : Bool := decide (askE s [a, b] = 0) && decide (0 < rlLo s a b)
noncomputable def offLo (s : Sy) (r : Rf) : Int := if askE s [r] = 0 then tmAt (tkAt s r.log.toNat) r.line.toNat - ivHi s r else 0
noncomputable def offHi (s : Sy) (r : Rf) : Int := if askE s [r] = 0 then tmAt (tkAt s r.log.toNat) r.line.toNat - ivLo s r else 0
theorem ask_win {s : Sy} {l : List Rf} (h : askE s l = 0) : 0 ≤ s.window ∧ s.window ≤ 120 := (checkE_ok (linesE_ok.1 (askE_zero h).1).1).2.2.2.2
set_option maxRecDepth 100000 in
set_option maxHeartbeats 4000000 in
theorem pk_May (s : Sy) (A D : Option Addr) (c d : Nat) (w : World) (hM : SysM w A D s) (hbeg : BegA w) (a b : Rf) :
    Calls Tryd.prog 42 #[.agg #[.slice A s.tracks.length c, .slice D s.ties.length d, .int .i64 s.window], .agg #[.int .i64 a.log, .int .i64 a.line], .agg #[.int .i64 b.log, .int .i64 b.line]] w fun e w' => e = .returned (.tuple #[.bool (mayB s a b), .int .i64 (askE s [a, b])]) ∧ New w w' := by
  have HRL : Hid (∀ w', New w w' → _) := Lib.hid fun w' h => pk_Relation s A D c d w' (hM.keep h) ⟨h.cellOf hbeg.1, h.cellOf hbeg.2⟩ a b
  have HW : Hid (askE s [a, b] = 0 → 0 ≤ s.window ∧ s.window ≤ 120) := Lib.hid ask_win
  have hbd := rl_in s a b
  have HB : Hid (mayB s a b = (decide (askE s [a, b] = 0) && (decide (rlLo s a b ≤ s.window) && decide (-s.window ≤ rlHi s a b)))) := Lib.hid rfl
  generalize mayB s a b = bb at *
  generalize rlLo s a b = lo at *
  generalize rlHi s a b = hi at *
  generalize askE s [a, b] = er at *
  obtain ⟨al, an⟩ := a
  obtain ⟨bl, bn⟩ := b
  dsimp only at HRL ⊢
  have s0 := (New.refl w).alloc (.cells #[.slice A s.tracks.length c, .slice D s.ties.length d, .int .i64 s.window] 25)
  have s1 := (New.refl (w.alloc (.cells #[.slice A s.tracks.length c, .slice D s.ties.length d, .int .i64 s.window] 25))).alloc (.cells #[.int .i64 al, .int .i64 an] 53)
  have s2 := (New.refl ((w.alloc (.cells #[.slice A s.tracks.length c, .slice D s.ties.length d, .int .i64 s.window] 25)).alloc (.cells #[.int .i64 al, .int .i64 an] 53))).alloc (.cells #[.int .i64 bl, .int .i64 bn] 53)
  have nA := ((s0.trans s1).trans s2)
  have r0 := (RowIs.new w 25 [.slice A s.tracks.length c, .slice D s.ties.length d, .int .i64 s.window]).keep (s1.trans s2)
  have r1 := (RowIs.new (w.alloc (.cells #[.slice A s.tracks.length c, .slice D s.ties.length d, .int .i64 s.window] 25)) 53 [.int .i64 al, .int .i64 an]).keep s2
  have r2 := (RowIs.new ((w.alloc (.cells #[.slice A s.tracks.length c, .slice D s.ties.length d, .int .i64 s.window] 25)).alloc (.cells #[.int .i64 al, .int .i64 an] 53)) 53 [.int .i64 bl, .int .i64 bn])
  simp only [World.size_alloc] at r1 r2
  have HN3 := Lib.hid nA
  have HR1 := Lib.hid r0
  clear s0 s1 s2 nA r0 r1 r2 hM hbeg
  go_enter Tryd.func42, Tryd.ntmps42
  go_wp2_with fail
  refine (HRL.out _ HN3.out).mono ?_
  rintro e w1 ⟨rfl, m1⟩
  have c2 := (HR1.out.keep m1).cell (i := 2) rfl
  have HM1 := Lib.hid (HN3.out.trans m1)
  have hbl : w.heap.size < w1.heap.size := by have := HM1.out.size; have := (HR1.out.keep m1).lt; omega
  clear m1 HR1 HRL
  by_cases he : er = 0
  · have hw := HW.out he
    subst he
    have hwr : IntKind.i64.wrap (-s.window) = -s.window := IntWalk.i64_in _ (by omega)
    have hwr0 : IntKind.i64.wrap (0 - s.window) = -s.window := by rw [IntWalk.i64_in _ (by omega)]; omega
    by_cases q1 : lo ≤ s.window
    · by_cases q2 : -s.window ≤ hi
      · have d1 : decide (lo ≤ s.window) = true := by simpa using q1
        have d2 : decide (-s.window ≤ hi) = true := by simpa using q2
        have HV : Hid (bb = true) := Lib.hid (by rw [HB.out]; simp [q1, q2])
        clear HB
        go_wp2_with fail
        go_ret2
        exact ⟨by rw [HV.out]; try rfl, HM1.out.alloc _⟩
      · have d1 : decide (lo ≤ s.window) = true := by simpa using q1
        have d2 : decide (-s.window ≤ hi) = false := by simpa using q2
        have HV : Hid (bb = false) := Lib.hid (by rw [HB.out]; simp [q1, q2])
        clear HB
        go_wp2_with fail
        go_ret2
        exact ⟨by rw [HV.out]; try rfl, HM1.out.alloc _⟩
    · have d1 : decide (lo ≤ s.window) = false := by simpa using q1
      have HV : Hid (bb = false) := Lib.hid (by rw [HB.out]; simp [q1])
      clear HB
      go_wp2_with fail
      go_ret2
      exact ⟨by rw [HV.out]; try rfl, HM1.out.alloc _⟩
  · have d0 : (er == 0) = false := by simpa using he
    have HV : Hid (bb = false) := Lib.hid (by rw [HB.out]; simp [he])
    clear HB
    go_wp2_with fail
    go_ret2
    exact ⟨by rw [HV.out]; try rfl, HM1.out.alloc _⟩
set_option maxRecDepth 100000 in
set_option maxHeartbeats 4000000 in
theorem pk_Must (s : Sy) (A D : Option Addr) (c d : Nat) (w : World) (hM : SysM w A D s) (hbeg : BegA w) (a b : Rf) :
    Calls Tryd.prog 44 #[.agg #[.slice A s.tracks.length c, .slice D s.ties.length d, .int .i64 s.window], .agg #[.int .i64 a.log, .int .i64 a.line], .agg #[.int .i64 b.log, .int .i64 b.line]] w fun e w' => e = .returned (.tuple #[.bool (mustB s a b), .int .i64 (askE s [a, b])]) ∧ New w w' := by
  have HRL : Hid (∀ w', New w w' → _) := Lib.hid fun w' h => pk_Relation s A D c d w' (hM.keep h) ⟨h.cellOf hbeg.1, h.cellOf hbeg.2⟩ a b
  have HW : Hid (askE s [a, b] = 0 → 0 ≤ s.window ∧ s.window ≤ 120) := Lib.hid ask_win
  have hbd := rl_in s a b
  have HB : Hid (mustB s a b = (decide (askE s [a, b] = 0) && (decide (-s.window ≤ rlLo s a b) && decide (rlHi s a b ≤ s.window)))) := Lib.hid rfl
  generalize mustB s a b = bb at *
  generalize rlLo s a b = lo at *
  generalize rlHi s a b = hi at *
  generalize askE s [a, b] = er at *
  obtain ⟨al, an⟩ := a
  obtain ⟨bl, bn⟩ := b
  dsimp only at HRL ⊢
  have s0 := (New.refl w).alloc (.cells #[.slice A s.tracks.length c, .slice D s.ties.length d, .int .i64 s.window] 25)
  have s1 := (New.refl (w.alloc (.cells #[.slice A s.tracks.length c, .slice D s.ties.length d, .int .i64 s.window] 25))).alloc (.cells #[.int .i64 al, .int .i64 an] 53)
  have s2 := (New.refl ((w.alloc (.cells #[.slice A s.tracks.length c, .slice D s.ties.length d, .int .i64 s.window] 25)).alloc (.cells #[.int .i64 al, .int .i64 an] 53))).alloc (.cells #[.int .i64 bl, .int .i64 bn] 53)
  have nA := ((s0.trans s1).trans s2)
  have r0 := (RowIs.new w 25 [.slice A s.tracks.length c, .slice D s.ties.length d, .int .i64 s.window]).keep (s1.trans s2)
  have r1 := (RowIs.new (w.alloc (.cells #[.slice A s.tracks.length c, .slice D s.ties.length d, .int .i64 s.window] 25)) 53 [.int .i64 al, .int .i64 an]).keep s2
  have r2 := (RowIs.new ((w.alloc (.cells #[.slice A s.tracks.length c, .slice D s.ties.length d, .int .i64 s.window] 25)).alloc (.cells #[.int .i64 al, .int .i64 an] 53)) 53 [.int .i64 bl, .int .i64 bn])
  simp only [World.size_alloc] at r1 r2
  have HN3 := Lib.hid nA
  have HR1 := Lib.hid r0
  clear s0 s1 s2 nA r0 r1 r2 hM hbeg
  go_enter Tryd.func44, Tryd.ntmps44
  go_wp2_with fail
  refine (HRL.out _ HN3.out).mono ?_
  rintro e w1 ⟨rfl, m1⟩
  have c2 := (HR1.out.keep m1).cell (i := 2) rfl
  have HM1 := Lib.hid (HN3.out.trans m1)
  have hbl : w.heap.size < w1.heap.size := by have := HM1.out.size; have := (HR1.out.keep m1).lt; omega
  clear m1 HR1 HRL
  by_cases he : er = 0
  · have hw := HW.out he
    subst he
    have hwr : IntKind.i64.wrap (-s.window) = -s.window := IntWalk.i64_in _ (by omega)
    have hwr0 : IntKind.i64.wrap (0 - s.window) = -s.window := by rw [IntWalk.i64_in _ (by omega)]; omega
    by_cases q1 : -s.window ≤ lo
    · by_cases q2 : hi ≤ s.window
      · have d1 : decide (-s.window ≤ lo) = true := by simpa using q1
        have d2 : decide (hi ≤ s.window) = true := by simpa using q2
        have HV : Hid (bb = true) := Lib.hid (by rw [HB.out]; simp [q1, q2])
        clear HB
        go_wp2_with fail
        go_ret2
        exact ⟨by rw [HV.out]; try rfl, HM1.out.alloc _⟩
      · have d1 : decide (-s.window ≤ lo) = true := by simpa using q1
        have d2 : decide (hi ≤ s.window) = false := by simpa using q2
        have HV : Hid (bb = false) := Lib.hid (by rw [HB.out]; simp [q1, q2])
        clear HB
        go_wp2_with fail
        go_ret2
        exact ⟨by rw [HV.out]; try rfl, HM1.out.alloc _⟩
    · have d1 : decide (-s.window ≤ lo) = false := by simpa using q1
      have HV : Hid (bb = false) := Lib.hid (by rw [HB.out]; simp [q1])
      clear HB
      go_wp2_with fail
      go_ret2
      exact ⟨by rw [HV.out]; try rfl, HM1.out.alloc _⟩
  · have d0 : (er == 0) = false := by simpa using he
    have HV : Hid (bb = false) := Lib.hid (by rw [HB.out]; simp [he])
    clear HB
    go_wp2_with fail
    go_ret2
    exact ⟨by rw [HV.out]; try rfl, HM1.out.alloc _⟩
set_option maxRecDepth 100000 in
set_option maxHeartbeats 4000000 in
theorem pk_Before (s : Sy) (A D : Option Addr) (c d : Nat) (w : World) (hM : SysM w A D s) (hbeg : BegA w) (a b : Rf) :
    Calls Tryd.prog 46 #[.agg #[.slice A s.tracks.length c, .slice D s.ties.length d, .int .i64 s.window], .agg #[.int .i64 a.log, .int .i64 a.line], .agg #[.int .i64 b.log, .int .i64 b.line]] w fun e w' => e = .returned (.tuple #[.bool (befB s a b), .int .i64 (askE s [a, b])]) ∧ New w w' := by
  have HRL : Hid (∀ w', New w w' → _) := Lib.hid fun w' h => pk_Relation s A D c d w' (hM.keep h) ⟨h.cellOf hbeg.1, h.cellOf hbeg.2⟩ a b
  have HW : Hid (askE s [a, b] = 0 → 0 ≤ s.window ∧ s.window ≤ 120) := Lib.hid ask_win
  have hbd := rl_in s a b
  have HB : Hid (befB s a b = (decide (askE s [a, b] = 0) && decide (0 < rlLo s a b))) := Lib.hid rfl
  generalize befB s a b = bb at *
  generalize rlLo s a b = lo at *
  generalize rlHi s a b = hi at *
  generalize askE s [a, b] = er at *
  obtain ⟨al, an⟩ := a
  obtain ⟨bl, bn⟩ := b
  dsimp only at HRL ⊢
  have s0 := (New.refl w).alloc (.cells #[.slice A s.tracks.length c, .slice D s.ties.length d, .int .i64 s.window] 25)
  have s1 := (New.refl (w.alloc (.cells #[.slice A s.tracks.length c, .slice D s.ties.length d, .int .i64 s.window] 25))).alloc (.cells #[.int .i64 al, .int .i64 an] 53)
  have s2 := (New.refl ((w.alloc (.cells #[.slice A s.tracks.length c, .slice D s.ties.length d, .int .i64 s.window] 25)).alloc (.cells #[.int .i64 al, .int .i64 an] 53))).alloc (.cells #[.int .i64 bl, .int .i64 bn] 53)
  have nA := ((s0.trans s1).trans s2)
  have r0 := (RowIs.new w 25 [.slice A s.tracks.length c, .slice D s.ties.length d, .int .i64 s.window]).keep (s1.trans s2)
  have r1 := (RowIs.new (w.alloc (.cells #[.slice A s.tracks.length c, .slice D s.ties.length d, .int .i64 s.window] 25)) 53 [.int .i64 al, .int .i64 an]).keep s2
  have r2 := (RowIs.new ((w.alloc (.cells #[.slice A s.tracks.length c, .slice D s.ties.length d, .int .i64 s.window] 25)).alloc (.cells #[.int .i64 al, .int .i64 an] 53)) 53 [.int .i64 bl, .int .i64 bn])
  simp only [World.size_alloc] at r1 r2
  have HN3 := Lib.hid nA
  have HR1 := Lib.hid r0
  clear s0 s1 s2 nA r0 r1 r2 hM hbeg
  go_enter Tryd.func46, Tryd.ntmps46
  go_wp2_with fail
  refine (HRL.out _ HN3.out).mono ?_
  rintro e w1 ⟨rfl, m1⟩
  have c2 := (HR1.out.keep m1).cell (i := 2) rfl
  have HM1 := Lib.hid (HN3.out.trans m1)
  have hbl : w.heap.size < w1.heap.size := by have := HM1.out.size; have := (HR1.out.keep m1).lt; omega
  clear m1 HR1 HRL
  by_cases he : er = 0
  · have hw := HW.out he
    subst he
    have hwr : IntKind.i64.wrap (-s.window) = -s.window := IntWalk.i64_in _ (by omega)
    have hwr0 : IntKind.i64.wrap (0 - s.window) = -s.window := by rw [IntWalk.i64_in _ (by omega)]; omega
    by_cases q1 : 0 < lo
    · have d1 : decide (0 < lo) = true := by simpa using q1
      have HV : Hid (bb = true) := Lib.hid (by rw [HB.out]; simp [q1])
      clear HB
      go_wp2_with fail
      go_ret2
      exact ⟨by rw [HV.out]; try rfl, HM1.out.alloc _⟩
    · have d1 : decide (0 < lo) = false := by simpa using q1
      have HV : Hid (bb = false) := Lib.hid (by rw [HB.out]; simp [q1])
      clear HB
      go_wp2_with fail
      go_ret2
      exact ⟨by rw [HV.out]; try rfl, HM1.out.alloc _⟩
  · have d0 : (er == 0) = false := by simpa using he
    have HV : Hid (bb = false) := Lib.hid (by rw [HB.out]; simp [he])
    clear HB
    go_wp2_with fail
    go_ret2
    exact ⟨by rw [HV.out]; try rfl, HM1.out.alloc _⟩
set_option maxRecDepth 100000 in
set_option maxHeartbeats 4000000 in
theorem rf_May (s : Sy) (A D : Option Addr) (c d : Nat) (w : World) (hM : SysM w A D s) (a b : Rf) :
    Calls Tryd.prog 43 #[.agg #[.slice A s.tracks.length c, .slice D s.ties.length d, .int .i64 s.window], .agg #[.int .i64 a.log, .int .i64 a.line], .agg #[.int .i64 b.log, .int .i64 b.line]] w fun e w' => e = .returned (.tuple #[.bool (mayB s a b), .int .i64 (askE s [a, b])]) ∧ New w w' := by
  have HRL : Hid (∀ w', New w w' → _) := Lib.hid fun w' h => rf_Relation s A D c d w' (hM.keep h) a b
  have HW : Hid (askE s [a, b] = 0 → 0 ≤ s.window ∧ s.window ≤ 120) := Lib.hid ask_win
  have hbd := rl_in s a b
  have HB : Hid (mayB s a b = (decide (askE s [a, b] = 0) && (decide (rlLo s a b ≤ s.window) && decide (-s.window ≤ rlHi s a b)))) := Lib.hid rfl
  generalize mayB s a b = bb at *
  generalize rlLo s a b = lo at *
  generalize rlHi s a b = hi at *
  generalize askE s [a, b] = er at *
  obtain ⟨al, an⟩ := a
  obtain ⟨bl, bn⟩ := b
  dsimp only at HRL ⊢
  have s0 := (New.refl w).alloc (.cells #[.slice A s.tracks.length c, .slice D s.ties.length d, .int .i64 s.window] 25)
  have s1 := (New.refl (w.alloc (.cells #[.slice A s.tracks.length c, .slice D s.ties.length d, .int .i64 s.window] 25))).alloc (.cells #[.int .i64 al, .int .i64 an] 53)
  have s2 := (New.refl ((w.alloc (.cells #[.slice A s.tracks.length c, .slice D s.ties.length d, .int .i64 s.window] 25)).alloc (.cells #[.int .i64 al, .int .i64 an] 53))).alloc (.cells #[.int .i64 bl, .int .i64 bn] 53)
  have nA := ((s0.trans s1).trans s2)
  have r0 := (RowIs.new w 25 [.slice A s.tracks.length c, .slice D s.ties.length d, .int .i64 s.window]).keep (s1.trans s2)
  have r1 := (RowIs.new (w.alloc (.cells #[.slice A s.tracks.length c, .slice D s.ties.length d, .int .i64 s.window] 25)) 53 [.int .i64 al, .int .i64 an]).keep s2
  have r2 := (RowIs.new ((w.alloc (.cells #[.slice A s.tracks.length c, .slice D s.ties.length d, .int .i64 s.window] 25)).alloc (.cells #[.int .i64 al, .int .i64 an] 53)) 53 [.int .i64 bl, .int .i64 bn])
  simp only [World.size_alloc] at r1 r2
  have HN3 := Lib.hid nA
  have HR1 := Lib.hid r0
  clear s0 s1 s2 nA r0 r1 r2 hM
  go_enter Tryd.func43, Tryd.ntmps43
  go_wp2_with fail
  refine (HRL.out _ HN3.out).mono ?_
  rintro e w1 ⟨rfl, m1⟩
  have c2 := (HR1.out.keep m1).cell (i := 2) rfl
  have HM1 := Lib.hid (HN3.out.trans m1)
  have hbl : w.heap.size < w1.heap.size := by have := HM1.out.size; have := (HR1.out.keep m1).lt; omega
  clear m1 HR1 HRL
  by_cases he : er = 0
  · have hw := HW.out he
    subst he
    have hwr : IntKind.i64.wrap (-s.window) = -s.window := IntWalk.i64_in _ (by omega)
    have hwr0 : IntKind.i64.wrap (0 - s.window) = -s.window := by rw [IntWalk.i64_in _ (by omega)]; omega
    by_cases q1 : lo ≤ s.window
    · by_cases q2 : -s.window ≤ hi
      · have d1 : decide (lo ≤ s.window) = true := by simpa using q1
        have d2 : decide (-s.window ≤ hi) = true := by simpa using q2
        have HV : Hid (bb = true) := Lib.hid (by rw [HB.out]; simp [q1, q2])
        clear HB
        go_wp2_with fail
        go_ret2
        exact ⟨by rw [HV.out]; try rfl, HM1.out.alloc _⟩
      · have d1 : decide (lo ≤ s.window) = true := by simpa using q1
        have d2 : decide (-s.window ≤ hi) = false := by simpa using q2
        have HV : Hid (bb = false) := Lib.hid (by rw [HB.out]; simp [q1, q2])
        clear HB
        go_wp2_with fail
        go_ret2
        exact ⟨by rw [HV.out]; try rfl, HM1.out.alloc _⟩
    · have d1 : decide (lo ≤ s.window) = false := by simpa using q1
      have HV : Hid (bb = false) := Lib.hid (by rw [HB.out]; simp [q1])
      clear HB
      go_wp2_with fail
      go_ret2
      exact ⟨by rw [HV.out]; try rfl, HM1.out.alloc _⟩
  · have d0 : (er == 0) = false := by simpa using he
    have HV : Hid (bb = false) := Lib.hid (by rw [HB.out]; simp [he])
    clear HB
    go_wp2_with fail
    go_ret2
    exact ⟨by rw [HV.out]; try rfl, HM1.out.alloc _⟩
set_option maxRecDepth 100000 in
set_option maxHeartbeats 4000000 in
theorem rf_Must (s : Sy) (A D : Option Addr) (c d : Nat) (w : World) (hM : SysM w A D s) (a b : Rf) :
    Calls Tryd.prog 45 #[.agg #[.slice A s.tracks.length c, .slice D s.ties.length d, .int .i64 s.window], .agg #[.int .i64 a.log, .int .i64 a.line], .agg #[.int .i64 b.log, .int .i64 b.line]] w fun e w' => e = .returned (.tuple #[.bool (mustB s a b), .int .i64 (askE s [a, b])]) ∧ New w w' := by
  have HRL : Hid (∀ w', New w w' → _) := Lib.hid fun w' h => rf_Relation s A D c d w' (hM.keep h) a b
  have HW : Hid (askE s [a, b] = 0 → 0 ≤ s.window ∧ s.window ≤ 120) := Lib.hid ask_win
  have hbd := rl_in s a b
  have HB : Hid (mustB s a b = (decide (askE s [a, b] = 0) && (decide (-s.window ≤ rlLo s a b) && decide (rlHi s a b ≤ s.window)))) := Lib.hid rfl
  generalize mustB s a b = bb at *
  generalize rlLo s a b = lo at *
  generalize rlHi s a b = hi at *
  generalize askE s [a, b] = er at *
  obtain ⟨al, an⟩ := a
  obtain ⟨bl, bn⟩ := b
  dsimp only at HRL ⊢
  have s0 := (New.refl w).alloc (.cells #[.slice A s.tracks.length c, .slice D s.ties.length d, .int .i64 s.window] 25)
  have s1 := (New.refl (w.alloc (.cells #[.slice A s.tracks.length c, .slice D s.ties.length d, .int .i64 s.window] 25))).alloc (.cells #[.int .i64 al, .int .i64 an] 53)
  have s2 := (New.refl ((w.alloc (.cells #[.slice A s.tracks.length c, .slice D s.ties.length d, .int .i64 s.window] 25)).alloc (.cells #[.int .i64 al, .int .i64 an] 53))).alloc (.cells #[.int .i64 bl, .int .i64 bn] 53)
  have nA := ((s0.trans s1).trans s2)
  have r0 := (RowIs.new w 25 [.slice A s.tracks.length c, .slice D s.ties.length d, .int .i64 s.window]).keep (s1.trans s2)
  have r1 := (RowIs.new (w.alloc (.cells #[.slice A s.tracks.length c, .slice D s.ties.length d, .int .i64 s.window] 25)) 53 [.int .i64 al, .int .i64 an]).keep s2
  have r2 := (RowIs.new ((w.alloc (.cells #[.slice A s.tracks.length c, .slice D s.ties.length d, .int .i64 s.window] 25)).alloc (.cells #[.int .i64 al, .int .i64 an] 53)) 53 [.int .i64 bl, .int .i64 bn])
  simp only [World.size_alloc] at r1 r2
  have HN3 := Lib.hid nA
  have HR1 := Lib.hid r0
  clear s0 s1 s2 nA r0 r1 r2 hM
  go_enter Tryd.func45, Tryd.ntmps45
  go_wp2_with fail
  refine (HRL.out _ HN3.out).mono ?_
  rintro e w1 ⟨rfl, m1⟩
  have c2 := (HR1.out.keep m1).cell (i := 2) rfl
  have HM1 := Lib.hid (HN3.out.trans m1)
  have hbl : w.heap.size < w1.heap.size := by have := HM1.out.size; have := (HR1.out.keep m1).lt; omega
  clear m1 HR1 HRL
  by_cases he : er = 0
  · have hw := HW.out he
    subst he
    have hwr : IntKind.i64.wrap (-s.window) = -s.window := IntWalk.i64_in _ (by omega)
    have hwr0 : IntKind.i64.wrap (0 - s.window) = -s.window := by rw [IntWalk.i64_in _ (by omega)]; omega
    by_cases q1 : -s.window ≤ lo
    · by_cases q2 : hi ≤ s.window
      · have d1 : decide (-s.window ≤ lo) = true := by simpa using q1
        have d2 : decide (hi ≤ s.window) = true := by simpa using q2
        have HV : Hid (bb = true) := Lib.hid (by rw [HB.out]; simp [q1, q2])
        clear HB
        go_wp2_with fail
        go_ret2
        exact ⟨by rw [HV.out]; try rfl, HM1.out.alloc _⟩
      · have d1 : decide (-s.window ≤ lo) = true := by simpa using q1
        have d2 : decide (hi ≤ s.window) = false := by simpa using q2
        have HV : Hid (bb = false) := Lib.hid (by rw [HB.out]; simp [q1, q2])
        clear HB
        go_wp2_with fail
        go_ret2
        exact ⟨by rw [HV.out]; try rfl, HM1.out.alloc _⟩
    · have d1 : decide (-s.window ≤ lo) = false := by simpa using q1
      have HV : Hid (bb = false) := Lib.hid (by rw [HB.out]; simp [q1])
      clear HB
      go_wp2_with fail
      go_ret2
      exact ⟨by rw [HV.out]; try rfl, HM1.out.alloc _⟩
  · have d0 : (er == 0) = false := by simpa using he
    have HV : Hid (bb = false) := Lib.hid (by rw [HB.out]; simp [he])
    clear HB
    go_wp2_with fail
    go_ret2
    exact ⟨by rw [HV.out]; try rfl, HM1.out.alloc _⟩
set_option maxRecDepth 100000 in
set_option maxHeartbeats 4000000 in
theorem rf_Before (s : Sy) (A D : Option Addr) (c d : Nat) (w : World) (hM : SysM w A D s) (a b : Rf) :
    Calls Tryd.prog 47 #[.agg #[.slice A s.tracks.length c, .slice D s.ties.length d, .int .i64 s.window], .agg #[.int .i64 a.log, .int .i64 a.line], .agg #[.int .i64 b.log, .int .i64 b.line]] w fun e w' => e = .returned (.tuple #[.bool (befB s a b), .int .i64 (askE s [a, b])]) ∧ New w w' := by
  have HRL : Hid (∀ w', New w w' → _) := Lib.hid fun w' h => rf_Relation s A D c d w' (hM.keep h) a b
  have HW : Hid (askE s [a, b] = 0 → 0 ≤ s.window ∧ s.window ≤ 120) := Lib.hid ask_win
  have hbd := rl_in s a b
  have HB : Hid (befB s a b = (decide (askE s [a, b] = 0) && decide (0 < rlLo s a b))) := Lib.hid rfl
  generalize befB s a b = bb at *
  generalize rlLo s a b = lo at *
  generalize rlHi s a b = hi at *
  generalize askE s [a, b] = er at *
  obtain ⟨al, an⟩ := a
  obtain ⟨bl, bn⟩ := b
  dsimp only at HRL ⊢
  have s0 := (New.refl w).alloc (.cells #[.slice A s.tracks.length c, .slice D s.ties.length d, .int .i64 s.window] 25)
  have s1 := (New.refl (w.alloc (.cells #[.slice A s.tracks.length c, .slice D s.ties.length d, .int .i64 s.window] 25))).alloc (.cells #[.int .i64 al, .int .i64 an] 53)
  have s2 := (New.refl ((w.alloc (.cells #[.slice A s.tracks.length c, .slice D s.ties.length d, .int .i64 s.window] 25)).alloc (.cells #[.int .i64 al, .int .i64 an] 53))).alloc (.cells #[.int .i64 bl, .int .i64 bn] 53)
  have nA := ((s0.trans s1).trans s2)
  have r0 := (RowIs.new w 25 [.slice A s.tracks.length c, .slice D s.ties.length d, .int .i64 s.window]).keep (s1.trans s2)
  have r1 := (RowIs.new (w.alloc (.cells #[.slice A s.tracks.length c, .slice D s.ties.length d, .int .i64 s.window] 25)) 53 [.int .i64 al, .int .i64 an]).keep s2
  have r2 := (RowIs.new ((w.alloc (.cells #[.slice A s.tracks.length c, .slice D s.ties.length d, .int .i64 s.window] 25)).alloc (.cells #[.int .i64 al, .int .i64 an] 53)) 53 [.int .i64 bl, .int .i64 bn])
  simp only [World.size_alloc] at r1 r2
  have HN3 := Lib.hid nA
  have HR1 := Lib.hid r0
  clear s0 s1 s2 nA r0 r1 r2 hM
  go_enter Tryd.func47, Tryd.ntmps47
  go_wp2_with fail
  refine (HRL.out _ HN3.out).mono ?_
  rintro e w1 ⟨rfl, m1⟩
  have c2 := (HR1.out.keep m1).cell (i := 2) rfl
  have HM1 := Lib.hid (HN3.out.trans m1)
  have hbl : w.heap.size < w1.heap.size := by have := HM1.out.size; have := (HR1.out.keep m1).lt; omega
  clear m1 HR1 HRL
  by_cases he : er = 0
  · have hw := HW.out he
    subst he
    have hwr : IntKind.i64.wrap (-s.window) = -s.window := IntWalk.i64_in _ (by omega)
    have hwr0 : IntKind.i64.wrap (0 - s.window) = -s.window := by rw [IntWalk.i64_in _ (by omega)]; omega
    by_cases q1 : 0 < lo
    · have d1 : decide (0 < lo) = true := by simpa using q1
      have HV : Hid (bb = true) := Lib.hid (by rw [HB.out]; simp [q1])
      clear HB
      go_wp2_with fail
      go_ret2
      exact ⟨by rw [HV.out]; try rfl, HM1.out.alloc _⟩
    · have d1 : decide (0 < lo) = false := by simpa using q1
      have HV : Hid (bb = false) := Lib.hid (by rw [HB.out]; simp [q1])
      clear HB
      go_wp2_with fail
      go_ret2
      exact ⟨by rw [HV.out]; try rfl, HM1.out.alloc _⟩
  · have d0 : (er == 0) = false := by simpa using he
    have HV : Hid (bb = false) := Lib.hid (by rw [HB.out]; simp [he])
    clear HB
    go_wp2_with fail
    go_ret2
    exact ⟨by rw [HV.out]; try rfl, HM1.out.alloc _⟩
theorem pk_Offset (s : Sy) (A D : Option Addr) (c d : Nat) (w : World) (hM : SysM w A D s) (hbeg : BegA w) (r : Rf) :
    Calls Tryd.prog 38 #[.agg #[.slice A s.tracks.length c, .slice D s.ties.length d, .int .i64 s.window], .agg #[.int .i64 r.log, .int .i64 r.line]] w fun e w' => e = .returned (.tuple #[.agg #[.int .i64 (offLo s r), .int .i64 (offHi s r)], .int .i64 (askE s [r])]) ∧ New w w' := by
  by_cases he : askE s [r] = 0
  · obtain ⟨h1, hc⟩ := askE_zero he
    obtain ⟨hs, hl⟩ := linesE_ok.1 h1
    have hr := hl r (by simp)
    obtain ⟨-, -, -, a1, a2, a3, a4⟩ := plc_line hr
    have er : r = ⟨(r.log.toNat : Nat), (r.line.toNat : Nat)⟩ := by
      cases r
      simp at a3 a4 ⊢
      omega
    have ho := ck_Offset s hs A D c d w hM hbeg hc r.log.toNat r.line.toNat a1 a2
    rw [← er] at ho
    have e1 : ((r.log.toNat : Nat) : Int) = r.log := by omega
    have e2 : ((r.line.toNat : Nat) : Int) = r.line := by omega
    rw [e1, e2] at ho
    refine ho.mono ?_
    rintro e w' ⟨dd, db, rfl, hn, h3, h4⟩
    obtain ⟨g1, g2⟩ := dist_lohi hs h3 h4 (plc_lt (.inr hr : RefOk s r))
    refine ⟨?_, hn⟩
    rw [offLo, offHi, if_pos he, if_pos he, ivLo, ivHi, if_pos he, if_pos he, he, g1, g2]
  · refine (ck_OffsetE s A D c d w hM hbeg r (fun h => he ?_)).mono ?_
    · exact ((askE_P s [r]).unique h)
    · rintro e w' ⟨er, rfl, hn, h1, -⟩
      refine ⟨?_, hn⟩
      rw [offLo, offHi, if_neg he, if_neg he, askE_eq h1]
set_option maxRecDepth 100000 in
set_option maxHeartbeats 8000000 in
theorem rf_Offset (s : Sy) (A D : Option Addr) (c d : Nat) (w : World) (hM : SysM w A D s) (r : Rf) :
    Calls Tryd.prog 39 #[.agg #[.slice A s.tracks.length c, .slice D s.ties.length d, .int .i64 s.window], .agg #[.int .i64 r.log, .int .i64 r.line]] w fun e w' => e = .returned (.tuple #[.agg #[.int .i64 (offLo s r), .int .i64 (offHi s r)], .int .i64 (askE s [r])]) ∧ New w w' := by
  have HIV : Hid (∀ w', New w w' → _) := Lib.hid fun w' h => rf_Interval s A D c d w' (hM.keep h) r
  have hbd := iv_in s r
  have HLO : Hid (offLo s r = if askE s [r] = 0 then tmAt (tkAt s r.log.toNat) r.line.toNat - ivHi s r else 0) := Lib.hid rfl
  have HHI : Hid (offHi s r = if askE s [r] = 0 then tmAt (tkAt s r.log.toNat) r.line.toNat - ivLo s r else 0) := Lib.hid rfl
  generalize offLo s r = gl at *
  generalize offHi s r = gh at *
  have HLN : Hid (askE s [r] = 0 → lineB s r = true ∧ Ok s) := Lib.hid fun h => by
    obtain ⟨hs, hl⟩ := linesE_ok.1 (askE_zero h).1
    exact ⟨hl r (by simp), hs⟩
  generalize ivLo s r = lo at *
  generalize ivHi s r = hi at *
  generalize askE s [r] = er at *
  obtain ⟨rl, rn⟩ := r
  dsimp only at HIV HLO HHI HLN ⊢
  have s0 := (New.refl w).alloc (.cells #[.slice A s.tracks.length c, .slice D s.ties.length d, .int .i64 s.window] 25)
  have s1 := (New.refl (w.alloc (.cells #[.slice A s.tracks.length c, .slice D s.ties.length d, .int .i64 s.window] 25))).alloc (.cells #[.int .i64 rl, .int .i64 rn] 53)
  have s2 := (New.refl ((w.alloc (.cells #[.slice A s.tracks.length c, .slice D s.ties.length d, .int .i64 s.window] 25)).alloc (.cells #[.int .i64 rl, .int .i64 rn] 53))).alloc (.cells #[.int .i64 0, .int .i64 0] 55)
  have nA := ((s0.trans s1).trans s2)
  have r0 := (RowIs.new w 25 [.slice A s.tracks.length c, .slice D s.ties.length d, .int .i64 s.window]).keep (s1.trans s2)
  have r1 := (RowIs.new (w.alloc (.cells #[.slice A s.tracks.length c, .slice D s.ties.length d, .int .i64 s.window] 25)) 53 [.int .i64 rl, .int .i64 rn]).keep s2
  have r2 := (RowIs.new ((w.alloc (.cells #[.slice A s.tracks.length c, .slice D s.ties.length d, .int .i64 s.window] 25)).alloc (.cells #[.int .i64 rl, .int .i64 rn] 53)) 55 [.int .i64 0, .int .i64 0])
  simp only [World.size_alloc] at r1 r2
  have HM := Lib.hid hM
  have HR0 := Lib.hid r0
  have HR1 := Lib.hid r1
  have HR2 := Lib.hid r2
  have HN := Lib.hid nA
  have c0 := r0.cell (i := 0) rfl
  have c1 := r0.cell (i := 1) rfl
  have c2 := r0.cell (i := 2) rfl
  have d0 := r1.cell (i := 0) rfl
  have d1 := r1.cell (i := 1) rfl
  clear s0 s1 s2 nA r0 r1 r2 hM
  go_enter Tryd.func39, Tryd.ntmps39
  go_wp2_with fail
  refine (HIV.out _ HN.out).mono ?_
  rintro e w1 ⟨rfl, m1⟩
  have na := (New.refl w1).alloc (.cells #[.int .i64 lo, .int .i64 hi] 55)
  have HN1 := Lib.hid (HN.out.trans (m1.trans na))
  have HX0 := Lib.hid (HR0.out.keep (m1.trans na))
  have HX1 := Lib.hid (HR1.out.keep (m1.trans na))
  have HX2 := Lib.hid (HR2.out.keep (m1.trans na))
  have HX3 := Lib.hid (RowIs.new w1 55 [.int .i64 lo, .int .i64 hi])
  have hq : w.heap.size + 1 + 1 ≠ w1.heap.size := by have := (HR2.out.keep m1).lt; omega
  clear c0 c1 c2 d0 d1 m1 na HR0 HR1 HR2 HIV HN
  by_cases he : er = 0
  · obtain ⟨hr, hs⟩ := HLN.out he
    obtain ⟨-, -, -, a1, a2, a3, a4⟩ := plc_line hr
    rw [if_pos he] at HLO HHI
    dsimp only at a1 a2 a3 a4 HLO HHI
    obtain ⟨i, rfl⟩ : ∃ i : Nat, rl = i := ⟨rl.toNat, by omega⟩
    obtain ⟨j, rfl⟩ : ∃ j : Nat, rn = j := ⟨rn.toNat, by omega⟩
    simp only [Int.toNat_natCast] at a1 a2 HLO HHI
    have hft := (trackB_facts (hs.track a1)).1 j a2
    obtain ⟨tb, to, rfl, -, htk⟩ := (HM.out.1.keep HN1.out).2 (by omega)
    obtain ⟨JA, jc, TA, tc, z0, z1, z2, z3, -, hTA⟩ := htk i a1
    have et : s.tracks[i]?.getD default = tkAt s i := rfl
    rw [et] at z0 z1 z2 z3 hTA
    obtain ⟨ub, uo, rfl, -, hum⟩ := hTA.2 (by omega)
    have v0 := hum j a2
    have ev : (tkAt s i).times[j]?.getD 0 = tmAt (tkAt s i) j := rfl
    rw [ev] at v0
    have ik : (i : Int) < (s.tracks.length : Int) := by omega
    have ij : (j : Int) < ((tkAt s i).times.length : Int) := by omega
    have HTL := hTA.1
    generalize tmAt (tkAt s i) j = t at *
    generalize (tkAt s i).times.length = tl at *
    have hw1 : IntKind.i64.wrap (t - hi) = t - hi := IntWalk.i64_in _ (by omega)
    have hw2 : IntKind.i64.wrap (t - lo) = t - lo := IntWalk.i64_in _ (by omega)
    have c0 := HX0.out.cell (i := 0) rfl
    have d0 := HX1.out.cell (i := 0) rfl
    have d1 := HX1.out.cell (i := 1) rfl
    have HEZ := Lib.hid he
    subst he
    clear z0 z1 z2 hs hr et ev hum htk a1 a2 a3 a4 hft hTA HLN
    go_wp2_with fail
    go_quiet (fail)
    dsimp only [Exit.then]
    have HNQ := Lib.hid ((New.refl (w1.alloc (.cells #[.int .i64 lo, .int .i64 hi] 55))).drewN nq)
    have HY2 := Lib.hid (HX2.out.keep HNQ.out)
    have HY3 := Lib.hid (HX3.out.keep HNQ.out)
    have HN2 := Lib.hid (HN1.out.trans HNQ.out)
    clear c0 d0 d1 z3 v0 HX0 HX1 HX2 HX3 HN1 HNQ
    generalize (w1.alloc (.cells #[.int .i64 lo, .int .i64 hi] 55)).drewN nq = W at *
    generalize w1.heap.size = X at *
    have x0 := HY3.out.cell (i := 0) rfl
    have x1 := HY3.out.cell (i := 1) rfl
    have y0 := HY2.out.cell (i := 0) rfl
    have y1 := HY2.out.cell (i := 1) rfl
    have f0 := HY2.out.free 0
    have f1 := HY2.out.free 1
    have HZ2 := Lib.hid ((HY2.out.put 0 (.int .i64 (t - hi))).put 1 (.int .i64 (t - lo)))
    have HNZ := Lib.hid ((HN2.out.setCell (p := ⟨w.heap.size + 1 + 1, 0, none⟩) (by show w.heap.size ≤ w.heap.size + 1 + 1; omega) (.int .i64 (t - hi))).setCell (p := ⟨w.heap.size + 1 + 1, 1, none⟩) (by show w.heap.size ≤ w.heap.size + 1 + 1; omega) (.int .i64 (t - lo)))
    go_wp2_with fail
    clear x0 x1 y0 y1 f0 f1
    have e0 := HZ2.out.cell (i := 0) rfl
    have e1 := HZ2.out.cell (i := 1) rfl
    generalize (W.setCell ⟨w.heap.size + 1 + 1, 0, none⟩ (.int .i64 (t - hi))).setCell ⟨w.heap.size + 1 + 1, 1, none⟩ (.int .i64 (t - lo)) = W9 at *
    refine bodyPost_ret (v := .tuple #[.agg #[.int .i64 (t - hi), .int .i64 (t - lo)], .int .i64 0]) (by simp [results, Tryd.results39]; go_simp) rfl ?_
    exact ⟨by rw [HLO.out, HHI.out], HNZ.out⟩
  · have hne : (er != 0) = true := by simp [he]
    rw [if_neg he] at HLO HHI
    have z0 := HX2.out.cell (i := 0) rfl
    have z1 := HX2.out.cell (i := 1) rfl
    have f0 := HX2.out.free 0
    have f1 := HX2.out.free 1
    have HZ2 := Lib.hid ((HX2.out.put 0 (.int .i64 0)).put 1 (.int .i64 0))
    have HNZ := Lib.hid ((HN1.out.setCell (p := ⟨w.heap.size + 1 + 1, 0, none⟩) (by show w.heap.size ≤ w.heap.size + 1 + 1; omega) (.int .i64 0)).setCell (p := ⟨w.heap.size + 1 + 1, 1, none⟩) (by show w.heap.size ≤ w.heap.size + 1 + 1; omega) (.int .i64 0))
    clear he
    go_wp2_with fail
    clear z0 z1 f0 f1
    have e0 := HZ2.out.cell (i := 0) rfl
    have e1 := HZ2.out.cell (i := 1) rfl
    generalize ((w1.alloc (.cells #[.int .i64 lo, .int .i64 hi] 55)).setCell ⟨w.heap.size + 1 + 1, 0, none⟩ (.int .i64 0)).setCell ⟨w.heap.size + 1 + 1, 1, none⟩ (.int .i64 0) = W9 at *
    refine bodyPost_ret (v := .tuple #[.agg #[.int .i64 0, .int .i64 0], .int .i64 er]) (by simp [results, Tryd.results39]; go_simp) rfl ?_
    exact ⟨by rw [HLO.out, HHI.out], HNZ.out⟩
end Go.Proofs.YtodmbcoobjcooaaDoor
