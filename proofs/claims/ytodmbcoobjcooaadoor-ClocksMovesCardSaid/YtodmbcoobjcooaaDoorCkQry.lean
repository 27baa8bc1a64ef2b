/-
  Before, Offset and Times of the program where the system is not valid, a ref is no line, or nothing closes; Before at all systems. Condition: the system lies in memory.
-/
import Derived.Test.YtodmbcoobjcooaaDoorCkRel
import Derived.Test.YtodmbcoobjcooaaDoorCkSpanT
namespace Go.Proofs.YtodmbcoobjcooaaDoor
open Go Go.RowKit Go.Shelf
attribute [local go_sem] Oper.semAt_some
/-- What Before answers. -/
def BeforeP (s : Sy) (a b : Rf) (m : Bool) (er : Int) : Prop := ErrP s [a, b] er ∧ (er = 0 → ∃ lo, MinW (egs s) (plc s b) (plc s a) (-lo) ∧ (m = true ↔ 0 < lo))
set_option maxRecDepth 100000 in
set_option maxHeartbeats 4000000 in
theorem ck_BeforeG (s : Sy) (A D : Option Addr) (c d : Nat) (w : World) (hM : SysM w A D s) (hbeg : BegA w) (a b : Rf) :
    Calls Tryd.prog 46 #[.agg #[.slice A s.tracks.length c, .slice D s.ties.length d, .int .i64 s.window], .agg #[.int .i64 a.log, .int .i64 a.line], .agg #[.int .i64 b.log, .int .i64 b.line]] w fun e w' => ∃ m er, e = .returned (.tuple #[.bool m, .int .i64 er]) ∧ New w w' ∧ BeforeP s a b m er := by
  have HRL : Hid (∀ w', New w w' → _) := Lib.hid fun w' h => ck_RelationG s A D c d w' (hM.keep h) ⟨h.cellOf hbeg.1, h.cellOf hbeg.2⟩ a b
  have HP : Hid (∀ lo hi er m, AnsP s [a, b] (plc s a) (plc s b) lo hi er → (er = 0 → (m = true ↔ 0 < lo)) → BeforeP s a b m er) := Lib.hid fun lo hi er m h hm => ⟨h.1, fun h0 => ⟨lo, (h.2.2 h0).2, hm h0⟩⟩
  generalize hPP : BeforeP s a b = PP at *
  clear hPP
  obtain ⟨al, an⟩ := a
  obtain ⟨bl, bn⟩ := b
  have n3 := (((New.refl w).alloc (.cells #[.slice A s.tracks.length c, .slice D s.ties.length d, .int .i64 s.window] 25)).alloc (.cells #[.int .i64 al, .int .i64 an] 53)).alloc (.cells #[.int .i64 bl, .int .i64 bn] 53)
  have HN3 := Lib.hid n3
  clear n3 hM hbeg
  go_enter Tryd.func46, Tryd.ntmps46
  go_wp2_with fail
  refine (HRL.out _ HN3.out).mono ?_
  rintro e w1 ⟨lo, hi, er, rfl, m1, hans⟩
  have HM1 := Lib.hid (HN3.out.trans m1)
  have HA := Lib.hid hans
  clear hans m1 HRL
  by_cases he : er = 0
  · subst he
    by_cases q1 : 0 < lo
    · have d1 : decide (0 < lo) = true := by simpa using q1
      go_wp2_with fail
      go_ret2
      exact ⟨_, _, rfl, HM1.out.alloc _, HP.out lo hi 0 _ HA.out (fun _ => ⟨fun _ => q1, fun _ => rfl⟩)⟩
    · have d1 : decide (0 < lo) = false := by simpa using q1
      go_wp2_with fail
      go_ret2
      exact ⟨_, _, rfl, HM1.out.alloc _, HP.out lo hi 0 _ HA.out (fun _ => ⟨fun h => (by cases h), fun h => (by omega)⟩)⟩
  · have d0 : (er == 0) = false := by simpa using he
    go_wp2_with fail
    go_ret2
    exact ⟨_, _, rfl, HM1.out.alloc _, HP.out lo hi er _ HA.out (fun h => absurd h he)⟩
set_option maxRecDepth 100000 in
set_option maxHeartbeats 4000000 in
/-- Offset where Interval has an error. -/
theorem ck_OffsetE (s : Sy) (A D : Option Addr) (c d : Nat) (w : World) (hM : SysM w A D s) (hbeg : BegA w) (r : Rf) (hno : ¬ErrP s [r] 0) :
    Calls Tryd.prog 38 #[.agg #[.slice A s.tracks.length c, .slice D s.ties.length d, .int .i64 s.window], .agg #[.int .i64 r.log, .int .i64 r.line]] w fun e w' => ∃ er, e = .returned (.tuple #[.agg #[.int .i64 0, .int .i64 0], .int .i64 er]) ∧ New w w' ∧ ErrP s [r] er ∧ er ≠ 0 := by
  have n3 := (((New.refl w).alloc (.cells #[.slice A s.tracks.length c, .slice D s.ties.length d, .int .i64 s.window] 25)).alloc (.cells #[.int .i64 r.log, .int .i64 r.line] 53)).alloc (.cells #[.int .i64 0, .int .i64 0] 55)
  have HIV := Lib.hid (ck_IntervalG s A D c d _ (hM.keep n3) ⟨n3.cellOf hbeg.1, n3.cellOf hbeg.2⟩ r)
  have r3 := RowIs.new ((w.alloc (.cells #[.slice A s.tracks.length c, .slice D s.ties.length d, .int .i64 s.window] 25)).alloc (.cells #[.int .i64 r.log, .int .i64 r.line] 53)) 55 [.int .i64 0, .int .i64 0]
  simp only [World.size_alloc] at r3
  have HR3 := Lib.hid r3
  have HN3 := Lib.hid n3
  have HNO := Lib.hid hno
  clear n3 r3 hM hbeg hno
  go_enter Tryd.func38, Tryd.ntmps38
  go_wp2_with fail
  refine HIV.out.mono ?_
  rintro e w1 ⟨lo, hi, er, rfl, m1, hans⟩
  have hne : er ≠ 0 := fun h => HNO.out (by rw [← h]; exact hans.1)
  have HE := Lib.hid hans.1
  have hne' : (er != 0) = true := by simpa using hne
  have m2 := m1.alloc (.cells #[.int .i64 lo, .int .i64 hi] 55)
  have HM2 := Lib.hid (HN3.out.trans m2)
  have R3 := HR3.out.keep m2
  have g0 := R3.cell (i := 0) rfl
  have g1 := R3.cell (i := 1) rfl
  have f0 := R3.free 0
  have f1 := R3.free 1
  clear hans m1 m2 HIV HR3
  go_wp2_with fail
  have HR4 := (R3.put 0 (.int .i64 0)).put 1 (.int .i64 0)
  have e0 := HR4.cell (i := 0) rfl
  have e1 := HR4.cell (i := 1) rfl
  refine ⟨rfl, .tuple #[.agg #[.int .i64 0, .int .i64 0], .int .i64 er], ?_, er, rfl, (HM2.out.setCell (by show w.heap.size ≤ w.heap.size + 1 + 1; omega) _).setCell (by show w.heap.size ≤ w.heap.size + 1 + 1; omega) _, HE.out, hne⟩
  clear HR4 R3
  simp [results, Tryd.results38, go_sem, e0, e1]
/-- The error of a question about all lines. -/
def allE (s : Sy) (er : Int) : Prop := (checkE s ≠ 0 ∧ er = checkE s) ∨ (checkE s = 0 ∧ ¬Closes (egs s) ∧ er = 31)
set_option maxRecDepth 100000 in
set_option maxHeartbeats 4000000 in
theorem ck_TimesOE (s : Sy) (A D : Option Addr) (c d : Nat) (w : World) (hM : SysM w A D s) (hbeg : BegA w) (hno : ¬(checkE s = 0 ∧ Closes (egs s))) :
    Calls Tryd.prog 73 #[.agg #[.slice A s.tracks.length c, .slice D s.ties.length d, .int .i64 s.window], .func (.func 74) #[] #[]] w fun e w' => ∃ er, e = .returned (.tuple #[.slice none 0 0, .int .i64 er]) ∧ New w w' ∧ allE s er ∧ er ≠ 0 := by
  have n1 := (New.refl w).alloc (.cells #[.slice A s.tracks.length c, .slice D s.ties.length d, .int .i64 s.window] 25)
  have HCK := Lib.hid (ck_Check s A D c d _ (hM.keep n1))
  have HVF : Hid (∀ w', New w w' → checkE s = 0 → _) := Lib.hid fun w' h h0 => ck_viewFromNo s h0 A D c d w' (hM.keep h) ⟨h.cellOf hbeg.1, h.cellOf hbeg.2⟩ (fun hc => hno ⟨h0, hc⟩) beg (.inl rfl)
  have HAE : Hid (∀ er, (checkE s ≠ 0 ∧ er = checkE s) ∨ (checkE s = 0 ∧ er = 31) → allE s er) := Lib.hid fun er h => by
    rcases h with h | ⟨h1, h2⟩
    · exact .inl h
    · exact .inr ⟨h1, fun hc => hno ⟨h1, hc⟩, h2⟩
  have HR1 := Lib.hid (RowIs.new w 25 [.slice A s.tracks.length c, .slice D s.ties.length d, .int .i64 s.window])
  have HN1 := Lib.hid n1
  have HB := Lib.hid hbeg
  have z0 := HR1.out.cell (i := 0) rfl
  have z1 := HR1.out.cell (i := 1) rfl
  have z2 := HR1.out.cell (i := 2) rfl
  generalize checkE s = ce at *
  clear n1 hM hbeg hno
  go_enter Tryd.func73, Tryd.ntmps73
  go_wp2_with fail
  refine HCK.out.mono ?_
  rintro e w1 ⟨rfl, m1⟩
  clear z0 z1 z2
  by_cases hce : ce = 0
  · subst hce
    have z0 := (HR1.out.keep m1).cell (i := 0) rfl
    have z1 := (HR1.out.keep m1).cell (i := 1) rfl
    have z2 := (HR1.out.keep m1).cell (i := 2) rfl
    have z3 := (HN1.out.trans m1).cellOf HB.out.1
    have z4 := (HN1.out.trans m1).cellOf HB.out.2
    have HN2 := Lib.hid (HN1.out.trans m1)
    clear m1
    go_wp2_with fail
    refine (HVF.out _ HN2.out (by simp)).mono ?_
    rintro e w2 ⟨rfl, m2⟩
    go_wp2_with fail
    go_ret2
    exact ⟨31, rfl, HN2.out.trans m2, HAE.out 31 (by simp), by decide⟩
  · have hce' : (ce != 0) = true := by simpa using hce
    go_wp2_with fail
    go_ret2
    exact ⟨ce, rfl, HN1.out.trans m1, HAE.out ce (.inl ⟨hce, rfl⟩), hce⟩
set_option maxRecDepth 100000 in
set_option maxHeartbeats 4000000 in
theorem ck_TimesE (s : Sy) (A D : Option Addr) (c d : Nat) (w : World) (hM : SysM w A D s) (hbeg : BegA w) (hno : ¬(checkE s = 0 ∧ Closes (egs s))) :
    Calls Tryd.prog 28 #[.agg #[.slice A s.tracks.length c, .slice D s.ties.length d, .int .i64 s.window]] w fun e w' => ∃ er, e = .returned (.tuple #[.slice none 0 0, .int .i64 er]) ∧ New w w' ∧ allE s er ∧ er ≠ 0 := by
  have n1 := (New.refl w).alloc (.cells #[.slice A s.tracks.length c, .slice D s.ties.length d, .int .i64 s.window] 25)
  have HOF := Lib.hid (ck_TimesOE s A D c d _ (hM.keep n1) ⟨n1.cellOf hbeg.1, n1.cellOf hbeg.2⟩ hno)
  have HN1 := Lib.hid n1
  clear n1 hM hbeg hno
  go_enter Tryd.func28, Tryd.ntmps28
  go_wp2_with fail
  refine HOF.out.mono ?_
  rintro e w1 ⟨er, rfl, m1, h1, h2⟩
  have HA := Lib.hid h1
  clear h1 HOF
  go_wp2_with fail
  go_ret2
  exact ⟨er, rfl, HN1.out.trans m1, HA.out, h2⟩
set_option maxRecDepth 100000 in
set_option maxHeartbeats 4000000 in
theorem ck_EarliestOE (s : Sy) (A D : Option Addr) (c d : Nat) (w : World) (hM : SysM w A D s) (hbeg : BegA w) (hno : ¬(checkE s = 0 ∧ Closes (egs s))) :
    Calls Tryd.prog 80 #[.agg #[.slice A s.tracks.length c, .slice D s.ties.length d, .int .i64 s.window], .func (.func 81) #[] #[]] w fun e w' => ∃ er, e = .returned (.tuple #[.slice none 0 0, .int .i64 er]) ∧ New w w' ∧ allE s er ∧ er ≠ 0 := by
  have n1 := (New.refl w).alloc (.cells #[.slice A s.tracks.length c, .slice D s.ties.length d, .int .i64 s.window] 25)
  have HCK := Lib.hid (ck_Check s A D c d _ (hM.keep n1))
  have HVF : Hid (∀ w', New w w' → checkE s = 0 → _) := Lib.hid fun w' h h0 => ck_viewFromNo s h0 A D c d w' (hM.keep h) ⟨h.cellOf hbeg.1, h.cellOf hbeg.2⟩ (fun hc => hno ⟨h0, hc⟩) beg (.inl rfl)
  have HAE : Hid (∀ er, (checkE s ≠ 0 ∧ er = checkE s) ∨ (checkE s = 0 ∧ er = 31) → allE s er) := Lib.hid fun er h => by
    rcases h with h | ⟨h1, h2⟩
    · exact .inl h
    · exact .inr ⟨h1, fun hc => hno ⟨h1, hc⟩, h2⟩
  have HR1 := Lib.hid (RowIs.new w 25 [.slice A s.tracks.length c, .slice D s.ties.length d, .int .i64 s.window])
  have HN1 := Lib.hid n1
  have HB := Lib.hid hbeg
  have z0 := HR1.out.cell (i := 0) rfl
  have z1 := HR1.out.cell (i := 1) rfl
  have z2 := HR1.out.cell (i := 2) rfl
  generalize checkE s = ce at *
  clear n1 hM hbeg hno
  go_enter Tryd.func80, Tryd.ntmps80
  go_wp2_with fail
  refine HCK.out.mono ?_
  rintro e w1 ⟨rfl, m1⟩
  clear z0 z1 z2
  by_cases hce : ce = 0
  · subst hce
    have z0 := (HR1.out.keep m1).cell (i := 0) rfl
    have z1 := (HR1.out.keep m1).cell (i := 1) rfl
    have z2 := (HR1.out.keep m1).cell (i := 2) rfl
    have z3 := (HN1.out.trans m1).cellOf HB.out.1
    have z4 := (HN1.out.trans m1).cellOf HB.out.2
    have HN2 := Lib.hid (HN1.out.trans m1)
    clear m1
    go_wp2_with fail
    refine (HVF.out _ HN2.out (by simp)).mono ?_
    rintro e w2 ⟨rfl, m2⟩
    go_wp2_with fail
    go_ret2
    exact ⟨31, rfl, HN2.out.trans m2, HAE.out 31 (by simp), by decide⟩
  · have hce' : (ce != 0) = true := by simpa using hce
    go_wp2_with fail
    go_ret2
    exact ⟨ce, rfl, HN1.out.trans m1, HAE.out ce (.inl ⟨hce, rfl⟩), hce⟩
set_option maxRecDepth 100000 in
set_option maxHeartbeats 4000000 in
theorem ck_EarliestE (s : Sy) (A D : Option Addr) (c d : Nat) (w : World) (hM : SysM w A D s) (hbeg : BegA w) (hno : ¬(checkE s = 0 ∧ Closes (egs s))) :
    Calls Tryd.prog 30 #[.agg #[.slice A s.tracks.length c, .slice D s.ties.length d, .int .i64 s.window]] w fun e w' => ∃ er, e = .returned (.tuple #[.slice none 0 0, .int .i64 er]) ∧ New w w' ∧ allE s er ∧ er ≠ 0 := by
  have n1 := (New.refl w).alloc (.cells #[.slice A s.tracks.length c, .slice D s.ties.length d, .int .i64 s.window] 25)
  have HOF := Lib.hid (ck_EarliestOE s A D c d _ (hM.keep n1) ⟨n1.cellOf hbeg.1, n1.cellOf hbeg.2⟩ hno)
  have HN1 := Lib.hid n1
  clear n1 hM hbeg hno
  go_enter Tryd.func30, Tryd.ntmps30
  go_wp2_with fail
  refine HOF.out.mono ?_
  rintro e w1 ⟨er, rfl, m1, h1, h2⟩
  have HA := Lib.hid h1
  clear h1 HOF
  go_wp2_with fail
  go_ret2
  exact ⟨er, rfl, HN1.out.trans m1, HA.out, h2⟩
set_option maxRecDepth 100000 in
set_option maxHeartbeats 4000000 in
theorem ck_LatestOE (s : Sy) (A D : Option Addr) (c d : Nat) (w : World) (hM : SysM w A D s) (hbeg : BegA w) (hno : ¬(checkE s = 0 ∧ Closes (egs s))) :
    Calls Tryd.prog 80 #[.agg #[.slice A s.tracks.length c, .slice D s.ties.length d, .int .i64 s.window], .func (.func 83) #[] #[]] w fun e w' => ∃ er, e = .returned (.tuple #[.slice none 0 0, .int .i64 er]) ∧ New w w' ∧ allE s er ∧ er ≠ 0 := by
  have n1 := (New.refl w).alloc (.cells #[.slice A s.tracks.length c, .slice D s.ties.length d, .int .i64 s.window] 25)
  have HCK := Lib.hid (ck_Check s A D c d _ (hM.keep n1))
  have HVF : Hid (∀ w', New w w' → checkE s = 0 → _) := Lib.hid fun w' h h0 => ck_viewFromNo s h0 A D c d w' (hM.keep h) ⟨h.cellOf hbeg.1, h.cellOf hbeg.2⟩ (fun hc => hno ⟨h0, hc⟩) beg (.inl rfl)
  have HAE : Hid (∀ er, (checkE s ≠ 0 ∧ er = checkE s) ∨ (checkE s = 0 ∧ er = 31) → allE s er) := Lib.hid fun er h => by
    rcases h with h | ⟨h1, h2⟩
    · exact .inl h
    · exact .inr ⟨h1, fun hc => hno ⟨h1, hc⟩, h2⟩
  have HR1 := Lib.hid (RowIs.new w 25 [.slice A s.tracks.length c, .slice D s.ties.length d, .int .i64 s.window])
  have HN1 := Lib.hid n1
  have HB := Lib.hid hbeg
  have z0 := HR1.out.cell (i := 0) rfl
  have z1 := HR1.out.cell (i := 1) rfl
  have z2 := HR1.out.cell (i := 2) rfl
  generalize checkE s = ce at *
  clear n1 hM hbeg hno
  go_enter Tryd.func80, Tryd.ntmps80
  go_wp2_with fail
  refine HCK.out.mono ?_
  rintro e w1 ⟨rfl, m1⟩
  clear z0 z1 z2
  by_cases hce : ce = 0
  · subst hce
    have z0 := (HR1.out.keep m1).cell (i := 0) rfl
    have z1 := (HR1.out.keep m1).cell (i := 1) rfl
    have z2 := (HR1.out.keep m1).cell (i := 2) rfl
    have z3 := (HN1.out.trans m1).cellOf HB.out.1
    have z4 := (HN1.out.trans m1).cellOf HB.out.2
    have HN2 := Lib.hid (HN1.out.trans m1)
    clear m1
    go_wp2_with fail
    refine (HVF.out _ HN2.out (by simp)).mono ?_
    rintro e w2 ⟨rfl, m2⟩
    go_wp2_with fail
    go_ret2
    exact ⟨31, rfl, HN2.out.trans m2, HAE.out 31 (by simp), by decide⟩
  · have hce' : (ce != 0) = true := by simpa using hce
    go_wp2_with fail
    go_ret2
    exact ⟨ce, rfl, HN1.out.trans m1, HAE.out ce (.inl ⟨hce, rfl⟩), hce⟩
set_option maxRecDepth 100000 in
set_option maxHeartbeats 4000000 in
theorem ck_LatestE (s : Sy) (A D : Option Addr) (c d : Nat) (w : World) (hM : SysM w A D s) (hbeg : BegA w) (hno : ¬(checkE s = 0 ∧ Closes (egs s))) :
    Calls Tryd.prog 32 #[.agg #[.slice A s.tracks.length c, .slice D s.ties.length d, .int .i64 s.window]] w fun e w' => ∃ er, e = .returned (.tuple #[.slice none 0 0, .int .i64 er]) ∧ New w w' ∧ allE s er ∧ er ≠ 0 := by
  have n1 := (New.refl w).alloc (.cells #[.slice A s.tracks.length c, .slice D s.ties.length d, .int .i64 s.window] 25)
  have HOF := Lib.hid (ck_LatestOE s A D c d _ (hM.keep n1) ⟨n1.cellOf hbeg.1, n1.cellOf hbeg.2⟩ hno)
  have HN1 := Lib.hid n1
  clear n1 hM hbeg hno
  go_enter Tryd.func32, Tryd.ntmps32
  go_wp2_with fail
  refine HOF.out.mono ?_
  rintro e w1 ⟨er, rfl, m1, h1, h2⟩
  have HA := Lib.hid h1
  clear h1 HOF
  go_wp2_with fail
  go_ret2
  exact ⟨er, rfl, HN1.out.trans m1, HA.out, h2⟩
end Go.Proofs.YtodmbcoobjcooaaDoor
