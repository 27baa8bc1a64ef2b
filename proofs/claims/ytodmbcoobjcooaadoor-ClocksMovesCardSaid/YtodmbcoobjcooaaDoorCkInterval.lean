/-
  Interval, Relation, Offset and Before of the program, at a system that closes and lines of it. Condition: the system lies in memory.
-/
import Derived.Test.YtodmbcoobjcooaaDoorCkView
namespace Go.Proofs.YtodmbcoobjcooaaDoor
open Go Go.RowKit Go.Shelf
attribute [local go_sem] Oper.semAt_some
set_option maxRecDepth 100000 in
set_option maxHeartbeats 8000000 in
theorem ck_Interval (s : Sy) (hs : Ok s) (A D : Option Addr) (c d : Nat) (w : World) (hM : SysM w A D s) (hbeg : BegA w) (hcl : Closes (egs s)) (r : Rf) (hr : lineB s r = true) :
    Calls Tryd.prog 36 #[.agg #[.slice A s.tracks.length c, .slice D s.ties.length d, .int .i64 s.window], .agg #[.int .i64 r.log, .int .i64 r.line]] w fun e w' => ∃ dd db, e = .returned (.tuple #[.agg #[.int .i64 (-db (plc s r)), .int .i64 (dd (plc s r))], .int .i64 0]) ∧ New w w' ∧ Dist (egs s) (nPl s) 0 22001 dd ∧ Dist (turnE (egs s)) (nPl s) 0 22001 db := by
  have hce : checkE s = 0 := hs
  have hle : linesE s [r] = 0 := by unfold linesE; rw [hce]; simp [hr]
  have hro : RefOk s r := .inr hr
  have n1 := (New.refl w).alloc (.cells #[.slice A s.tracks.length c, .slice D s.ties.length d, .int .i64 s.window] 25)
  have n2 := n1.alloc (.cells #[.int .i64 r.log, .int .i64 r.line] 53)
  have n3 := n2.alloc (.cells #[.int .i64 0, .int .i64 0] 55)
  have n4 := n3.alloc (.cells #[.int .i64 r.log, .int .i64 r.line] 53)
  have r1 := RowIs.new w 25 [.slice A s.tracks.length c, .slice D s.ties.length d, .int .i64 s.window]
  have r2 := RowIs.new (w.alloc (.cells #[.slice A s.tracks.length c, .slice D s.ties.length d, .int .i64 s.window] 25)) 53 [.int .i64 r.log, .int .i64 r.line]
  have r3 := RowIs.new ((w.alloc (.cells #[.slice A s.tracks.length c, .slice D s.ties.length d, .int .i64 s.window] 25)).alloc (.cells #[.int .i64 r.log, .int .i64 r.line] 53)) 55 [.int .i64 0, .int .i64 0]
  have r4 := RowIs.new (((w.alloc (.cells #[.slice A s.tracks.length c, .slice D s.ties.length d, .int .i64 s.window] 25)).alloc (.cells #[.int .i64 r.log, .int .i64 r.line] 53)).alloc (.cells #[.int .i64 0, .int .i64 0] 55)) 53 [.int .i64 r.log, .int .i64 r.line]
  have m34 := (New.refl (((w.alloc (.cells #[.slice A s.tracks.length c, .slice D s.ties.length d, .int .i64 s.window] 25)).alloc (.cells #[.int .i64 r.log, .int .i64 r.line] 53)).alloc (.cells #[.int .i64 0, .int .i64 0] 55))).alloc (.cells #[.int .i64 r.log, .int .i64 r.line] 53)
  have m24 := ((New.refl ((w.alloc (.cells #[.slice A s.tracks.length c, .slice D s.ties.length d, .int .i64 s.window] 25)).alloc (.cells #[.int .i64 r.log, .int .i64 r.line] 53))).alloc (.cells #[.int .i64 0, .int .i64 0] 55)).trans m34
  have m14 := ((New.refl (w.alloc (.cells #[.slice A s.tracks.length c, .slice D s.ties.length d, .int .i64 s.window] 25))).alloc (.cells #[.int .i64 r.log, .int .i64 r.line] 53)).trans m24
  replace r1 := r1.keep m14
  replace r2 := r2.keep m24
  replace r3 := r3.keep m34
  simp only [World.size_alloc] at r2 r3 r4
  have HN4 := Lib.hid n4
  generalize hW0 : (((w.alloc (.cells #[.slice A s.tracks.length c, .slice D s.ties.length d, .int .i64 s.window] 25)).alloc (.cells #[.int .i64 r.log, .int .i64 r.line] 53)).alloc (.cells #[.int .i64 0, .int .i64 0] 55)).alloc (.cells #[.int .i64 r.log, .int .i64 r.line] 53) = W0 at *
  have HC : Hid (∀ w', New W0 w' → (w'.cell? ⟨w.heap.size, 0, none⟩ = some (.slice A s.tracks.length c) ∧ w'.cell? ⟨w.heap.size, 1, none⟩ = some (.slice D s.ties.length d) ∧ w'.cell? ⟨w.heap.size, 2, none⟩ = some (.int .i64 s.window)) ∧ (w'.cell? ⟨w.heap.size + 1, 0, none⟩ = some (.int .i64 r.log) ∧ w'.cell? ⟨w.heap.size + 1, 1, none⟩ = some (.int .i64 r.line)) ∧ RowIs w' (w.heap.size + 1 + 1) 55 [.int .i64 0, .int .i64 0] ∧ w'.cell? ⟨0, 0, none⟩ = some (.int .i64 (-1)) ∧ w'.cell? ⟨0, 1, none⟩ = some (.int .i64 0)) := Lib.hid fun w' h =>
    ⟨⟨(r1.keep h).cell rfl, (r1.keep h).cell rfl, (r1.keep h).cell rfl⟩, ⟨(r2.keep h).cell rfl, (r2.keep h).cell rfl⟩, r3.keep h, (HN4.out.trans h).cellOf hbeg.1, (HN4.out.trans h).cellOf hbeg.2⟩
  have HCK : Hid (Calls Tryd.prog 84 #[.agg #[.slice A s.tracks.length c, .slice D s.ties.length d, .int .i64 s.window], .slice (some ⟨w.heap.size + 1 + 1 + 1, 0, none⟩) 1 1] W0 fun e w' => e = .returned (.int .i64 0) ∧ New W0 w') := Lib.hid (by
    have := ck_checkLines s A D (some ⟨w.heap.size + 1 + 1 + 1, 0, none⟩) c d 1 [r] W0 (hM.keep HN4.out) (RfsA.row r4 (by simp))
    rw [hle] at this
    exact this)
  have HVF : Hid (∀ w', New W0 w' → Calls Tryd.prog 85 #[.agg #[.slice A s.tracks.length c, .slice D s.ties.length d, .int .i64 s.window], .agg #[.int .i64 (-1), .int .i64 0]] w' fun e w'' => ∃ v d db, e = .returned (.tuple #[.pointer (some ⟨v, 0, none⟩), .int .i64 0]) ∧ New w' w'' ∧ ViewA w'' v s d db ∧ Dist (egs s) (nPl s) 0 22001 d ∧ Dist (turnE (egs s)) (nPl s) 0 22001 db) := Lib.hid fun w' h =>
    ck_viewFrom s hs A D c d w' (hM.keep (HN4.out.trans h)) ⟨(HN4.out.trans h).cellOf hbeg.1, (HN4.out.trans h).cellOf hbeg.2⟩ hcl beg (.inl rfl)
  have HSN : Hid (∀ v dd db w', Dist (turnE (egs s)) (nPl s) 0 22001 db → ViewA w' v s dd db → Calls Tryd.prog 86 #[.pointer (some ⟨v, 0, none⟩), .agg #[.int .i64 r.log, .int .i64 r.line]] w' fun e w'' => e = .returned (.agg #[.int .i64 (-db (plc s r)), .int .i64 (dd (plc s r))]) ∧ New w' w'') := Lib.hid fun v dd db w' hd hv =>
    ck_span s hs v dd db w' hv r hro (by
      have h1 := hd.lo _ (plc_lt hro)
      have h2 := nPl_le hs
      by_cases hb : db (plc s r) = NB
      · rw [hb]; unfold NB; omega
      · have h3 := hd.hi _ (plc_lt hro) hb
        omega)
  clear n1 n2 n3 n4 r1 r2 r3 r4 m34 m24 m14 hce hle hbeg hM hs hcl
  go_enter Tryd.func36, Tryd.ntmps36
  go_wp2_with fail
  clear hW0
  refine HCK.out.mono ?_
  rintro e w1 ⟨rfl, m1⟩
  obtain ⟨⟨y0, y1, y2⟩, ⟨y3, y4⟩, -, y5, y6⟩ := HC.out w1 m1
  go_wp2_with (first
    | (go_at_call 85; refine (HVF.out _ m1).mono ?_; rintro e w2 ⟨v, dd, db, rfl, m2, hv, d1, d2⟩; have q3 := (HC.out _ (m1.trans m2)).2.1.1; have q4 := (HC.out _ (m1.trans m2)).2.1.2)
    | (go_at_call 86; refine (HSN.out _ _ _ _ (by assumption) (by assumption)).mono ?_; rintro e w3 ⟨rfl, m3⟩; have R3 := (HC.out _ ((m1.trans m2).trans m3)).2.2.1; have g0 := R3.cell (i := 0) rfl; have g1 := R3.cell (i := 1) rfl; have f0 := R3.free 0; have f1 := R3.free 1))
  have HR4 := (R3.put 0 (.int .i64 (-db (plc s r)))).put 1 (.int .i64 (dd (plc s r)))
  have e0 := HR4.cell (i := 0) rfl
  have e1 := HR4.cell (i := 1) rfl
  have nn := HN4.out.trans ((m1.trans m2).trans m3)
  refine ⟨rfl, .tuple #[.agg #[.int .i64 (-db (plc s r)), .int .i64 (dd (plc s r))], .int .i64 0], ?_, dd, db, rfl, (nn.setCell (by show w.heap.size ≤ w.heap.size + 1 + 1; omega) _).setCell (by show w.heap.size ≤ w.heap.size + 1 + 1; omega) _, d1, d2⟩
  clear HC HCK HVF HSN HR4
  simp [results, Tryd.results36, go_sem, e0, e1]
set_option maxRecDepth 100000 in
set_option maxHeartbeats 8000000 in
theorem ck_Relation (s : Sy) (hs : Ok s) (A D : Option Addr) (c d : Nat) (w : World) (hM : SysM w A D s) (hbeg : BegA w) (hcl : Closes (egs s)) (a b : Rf) (ha : lineB s a = true) (hb : lineB s b = true) :
    Calls Tryd.prog 40 #[.agg #[.slice A s.tracks.length c, .slice D s.ties.length d, .int .i64 s.window], .agg #[.int .i64 a.log, .int .i64 a.line], .agg #[.int .i64 b.log, .int .i64 b.line]] w fun e w' => ∃ dd db, e = .returned (.tuple #[.agg #[.int .i64 (-db (plc s b)), .int .i64 (dd (plc s b))], .int .i64 0]) ∧ New w w' ∧ Dist (egs s) (nPl s) (plc s a) 22001 dd ∧ Dist (turnE (egs s)) (nPl s) (plc s a) 22001 db := by
  have hce : checkE s = 0 := hs
  have hle : linesE s [a, b] = 0 := by unfold linesE; rw [hce]; simp [ha, hb]
  have hro : RefOk s b := .inr hb
  have n1 := (New.refl w).alloc (.cells #[.slice A s.tracks.length c, .slice D s.ties.length d, .int .i64 s.window] 25)
  have n2 := n1.alloc (.cells #[.int .i64 a.log, .int .i64 a.line] 53)
  have n3 := n2.alloc (.cells #[.int .i64 b.log, .int .i64 b.line] 53)
  have n4 := n3.alloc (.cells #[.int .i64 0, .int .i64 0] 55)
  have n5 := n4.alloc (.cells #[.int .i64 a.log, .int .i64 a.line, .int .i64 b.log, .int .i64 b.line] 53)
  have r1 := RowIs.new w 25 [.slice A s.tracks.length c, .slice D s.ties.length d, .int .i64 s.window]
  have r2 := RowIs.new (w.alloc (.cells #[.slice A s.tracks.length c, .slice D s.ties.length d, .int .i64 s.window] 25)) 53 [.int .i64 a.log, .int .i64 a.line]
  have r3 := RowIs.new ((w.alloc (.cells #[.slice A s.tracks.length c, .slice D s.ties.length d, .int .i64 s.window] 25)).alloc (.cells #[.int .i64 a.log, .int .i64 a.line] 53)) 53 [.int .i64 b.log, .int .i64 b.line]
  have r4 := RowIs.new (((w.alloc (.cells #[.slice A s.tracks.length c, .slice D s.ties.length d, .int .i64 s.window] 25)).alloc (.cells #[.int .i64 a.log, .int .i64 a.line] 53)).alloc (.cells #[.int .i64 b.log, .int .i64 b.line] 53)) 55 [.int .i64 0, .int .i64 0]
  have r5 := RowIs.new ((((w.alloc (.cells #[.slice A s.tracks.length c, .slice D s.ties.length d, .int .i64 s.window] 25)).alloc (.cells #[.int .i64 a.log, .int .i64 a.line] 53)).alloc (.cells #[.int .i64 b.log, .int .i64 b.line] 53)).alloc (.cells #[.int .i64 0, .int .i64 0] 55)) 53 [.int .i64 a.log, .int .i64 a.line, .int .i64 b.log, .int .i64 b.line]
  have m45 := (New.refl ((((w.alloc (.cells #[.slice A s.tracks.length c, .slice D s.ties.length d, .int .i64 s.window] 25)).alloc (.cells #[.int .i64 a.log, .int .i64 a.line] 53)).alloc (.cells #[.int .i64 b.log, .int .i64 b.line] 53)).alloc (.cells #[.int .i64 0, .int .i64 0] 55))).alloc (.cells #[.int .i64 a.log, .int .i64 a.line, .int .i64 b.log, .int .i64 b.line] 53)
  have m35 := ((New.refl (((w.alloc (.cells #[.slice A s.tracks.length c, .slice D s.ties.length d, .int .i64 s.window] 25)).alloc (.cells #[.int .i64 a.log, .int .i64 a.line] 53)).alloc (.cells #[.int .i64 b.log, .int .i64 b.line] 53))).alloc (.cells #[.int .i64 0, .int .i64 0] 55)).trans m45
  have m25 := ((New.refl ((w.alloc (.cells #[.slice A s.tracks.length c, .slice D s.ties.length d, .int .i64 s.window] 25)).alloc (.cells #[.int .i64 a.log, .int .i64 a.line] 53))).alloc (.cells #[.int .i64 b.log, .int .i64 b.line] 53)).trans m35
  have m15 := ((New.refl (w.alloc (.cells #[.slice A s.tracks.length c, .slice D s.ties.length d, .int .i64 s.window] 25))).alloc (.cells #[.int .i64 a.log, .int .i64 a.line] 53)).trans m25
  replace r1 := r1.keep m15
  replace r2 := r2.keep m25
  replace r3 := r3.keep m35
  replace r4 := r4.keep m45
  simp only [World.size_alloc] at r2 r3 r4 r5
  have HN4 := Lib.hid n5
  generalize hW0 : ((((w.alloc (.cells #[.slice A s.tracks.length c, .slice D s.ties.length d, .int .i64 s.window] 25)).alloc (.cells #[.int .i64 a.log, .int .i64 a.line] 53)).alloc (.cells #[.int .i64 b.log, .int .i64 b.line] 53)).alloc (.cells #[.int .i64 0, .int .i64 0] 55)).alloc (.cells #[.int .i64 a.log, .int .i64 a.line, .int .i64 b.log, .int .i64 b.line] 53) = W0 at *
  have HC : Hid (∀ w', New W0 w' → (w'.cell? ⟨w.heap.size, 0, none⟩ = some (.slice A s.tracks.length c) ∧ w'.cell? ⟨w.heap.size, 1, none⟩ = some (.slice D s.ties.length d) ∧ w'.cell? ⟨w.heap.size, 2, none⟩ = some (.int .i64 s.window)) ∧ (w'.cell? ⟨w.heap.size + 1, 0, none⟩ = some (.int .i64 a.log) ∧ w'.cell? ⟨w.heap.size + 1, 1, none⟩ = some (.int .i64 a.line)) ∧ (w'.cell? ⟨w.heap.size + 1 + 1, 0, none⟩ = some (.int .i64 b.log) ∧ w'.cell? ⟨w.heap.size + 1 + 1, 1, none⟩ = some (.int .i64 b.line)) ∧ RowIs w' (w.heap.size + 1 + 1 + 1) 55 [.int .i64 0, .int .i64 0]) := Lib.hid fun w' h =>
    ⟨⟨(r1.keep h).cell rfl, (r1.keep h).cell rfl, (r1.keep h).cell rfl⟩, ⟨(r2.keep h).cell rfl, (r2.keep h).cell rfl⟩, ⟨(r3.keep h).cell rfl, (r3.keep h).cell rfl⟩, r4.keep h⟩
  have HCK : Hid (Calls Tryd.prog 84 #[.agg #[.slice A s.tracks.length c, .slice D s.ties.length d, .int .i64 s.window], .slice (some ⟨w.heap.size + 1 + 1 + 1 + 1, 0, none⟩) 2 2] W0 fun e w' => e = .returned (.int .i64 0) ∧ New W0 w') := Lib.hid (by
    have := ck_checkLines s A D (some ⟨w.heap.size + 1 + 1 + 1 + 1, 0, none⟩) c d 2 [a, b] W0 (hM.keep HN4.out) (RfsA.row r5 (by simp))
    rw [hle] at this
    exact this)
  have HVF : Hid (∀ w', New W0 w' → Calls Tryd.prog 85 #[.agg #[.slice A s.tracks.length c, .slice D s.ties.length d, .int .i64 s.window], .agg #[.int .i64 a.log, .int .i64 a.line]] w' fun e w'' => ∃ v d db, e = .returned (.tuple #[.pointer (some ⟨v, 0, none⟩), .int .i64 0]) ∧ New w' w'' ∧ ViewA w'' v s d db ∧ Dist (egs s) (nPl s) (plc s a) 22001 d ∧ Dist (turnE (egs s)) (nPl s) (plc s a) 22001 db) := Lib.hid fun w' h =>
    ck_viewFrom s hs A D c d w' (hM.keep (HN4.out.trans h)) ⟨(HN4.out.trans h).cellOf hbeg.1, (HN4.out.trans h).cellOf hbeg.2⟩ hcl a (.inr ha)
  have HSN : Hid (∀ v dd db w', Dist (turnE (egs s)) (nPl s) (plc s a) 22001 db → ViewA w' v s dd db → Calls Tryd.prog 86 #[.pointer (some ⟨v, 0, none⟩), .agg #[.int .i64 b.log, .int .i64 b.line]] w' fun e w'' => e = .returned (.agg #[.int .i64 (-db (plc s b)), .int .i64 (dd (plc s b))]) ∧ New w' w'') := Lib.hid fun v dd db w' hd hv =>
    ck_span s hs v dd db w' hv b hro (by
      have h1 := hd.lo _ (plc_lt hro)
      have h2 := nPl_le hs
      by_cases hb : db (plc s b) = NB
      · rw [hb]; unfold NB; omega
      · have h3 := hd.hi _ (plc_lt hro) hb
        omega)
  clear n1 n2 n3 n4 n5 r1 r2 r3 r4 r5 m15 m25 m35 m45 hce hle hbeg hM hs hcl
  go_enter Tryd.func40, Tryd.ntmps40
  go_wp2_with fail
  clear hW0
  refine HCK.out.mono ?_
  rintro e w1 ⟨rfl, m1⟩
  obtain ⟨⟨y0, y1, y2⟩, ⟨y3, y4⟩, -, -⟩ := HC.out w1 m1
  go_wp2_with (first
    | (go_at_call 85; refine (HVF.out _ m1).mono ?_; rintro e w2 ⟨v, dd, db, rfl, m2, hv, d1, d2⟩; have q3 := (HC.out _ (m1.trans m2)).2.2.1.1; have q4 := (HC.out _ (m1.trans m2)).2.2.1.2)
    | (go_at_call 86; refine (HSN.out _ _ _ _ (by assumption) (by assumption)).mono ?_; rintro e w3 ⟨rfl, m3⟩; have R3 := (HC.out _ ((m1.trans m2).trans m3)).2.2.2; have g0 := R3.cell (i := 0) rfl; have g1 := R3.cell (i := 1) rfl; have f0 := R3.free 0; have f1 := R3.free 1))
  have HR4 := (R3.put 0 (.int .i64 (-db (plc s b)))).put 1 (.int .i64 (dd (plc s b)))
  have e0 := HR4.cell (i := 0) rfl
  have e1 := HR4.cell (i := 1) rfl
  have nn := HN4.out.trans ((m1.trans m2).trans m3)
  refine ⟨rfl, .tuple #[.agg #[.int .i64 (-db (plc s b)), .int .i64 (dd (plc s b))], .int .i64 0], ?_, dd, db, rfl, (nn.setCell (by show w.heap.size ≤ w.heap.size + 1 + 1 + 1; omega) _).setCell (by show w.heap.size ≤ w.heap.size + 1 + 1 + 1; omega) _, d1, d2⟩
  clear HC HCK HVF HSN HR4
  simp [results, Tryd.results40, go_sem, e0, e1]
end Go.Proofs.YtodmbcoobjcooaaDoor
