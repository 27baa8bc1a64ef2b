/-
  viewFrom, Interval, Relation of the program, where something is wrong: with the system, with a line, or there is a loop. Condition: the system lies in memory.
  Relation, Interval and Must of the program at all systems and lines: what they answer, as least sums of ways. Condition: the system lies in memory.
  Must and May of the program at all systems; a system with one tie more. Condition: the system lies in memory.
-/
import Derived.Test.YtodmbcoobjcooaaDoorCkSpreadG
import Derived.Test.YtodmbcoobjcooaaDoorCkInterval
namespace Go.Proofs.YtodmbcoobjcooaaDoor
open Go Go.RowKit Go.Shelf
attribute [local go_sem] Oper.semAt_some
/-- Each place is the beginning or that of a line. -/
theorem place_of {s : Sy} : ∀ k, k ≤ s.tracks.length → ∀ v, v < fstP s k → v = 0 ∨ ∃ i j : Nat, i < k ∧ j < (tkAt s i).times.length ∧ v = plc s ⟨i, j⟩
  | 0, _, v, hv => .inl (by rw [fstP_zero] at hv; omega)
  | k + 1, hk, v, hv => by
    by_cases h : v < fstP s k
    · rcases place_of k (by omega) v h with h1 | ⟨i, j, h1, h2, h3⟩
      · exact .inl h1
      · exact .inr ⟨i, j, by omega, h2, h3⟩
    · rw [fstP_succ] at hv
      refine .inr ⟨k, v - fstP s k, by omega, by omega, ?_⟩
      unfold plc
      rw [if_neg (by simp)]
      simp
      omega
theorem edge_to {s : Sy} {i j : Nat} (hi : i < s.tracks.length) (hj : j < (tkAt s i).times.length) : (∃ x, Wk (egs s) 0 (plc s ⟨i, j⟩) x) ∧ ∃ x, Wk (egs s) (plc s ⟨i, j⟩) 0 x :=
  ⟨⟨_, Wk.one (List.mem_map.2 ⟨_, mem_slip hi hj (.inl rfl), rfl⟩)⟩, ⟨_, Wk.one (List.mem_map.2 ⟨_, mem_slip hi hj (.inr rfl), rfl⟩)⟩⟩
/-- From each ref there is a way to each place. -/
theorem reach_all {s : Sy} {r : Rf} (hr : RefOk s r) {v : Nat} (hv : v < nPl s) : ∃ x, Wk (egs s) (plc s r) v x := by
  have h1 : ∃ x, Wk (egs s) (plc s r) 0 x := by
    rcases hr with rfl | hr
    · exact ⟨0, .nil _⟩
    · obtain ⟨-, -, -, a1, a2, a3, a4⟩ := plc_line hr
      have := (edge_to a1 a2).2
      have e : (⟨(r.log.toNat : Nat), (r.line.toNat : Nat)⟩ : Rf) = r := by
        cases r
        simp at a3 a4 ⊢
        omega
      rwa [e] at this
  have h2 : ∃ x, Wk (egs s) 0 v x := by
    rcases place_of s.tracks.length (Nat.le_refl _) v hv with rfl | ⟨i, j, hi, hj, rfl⟩
    · exact ⟨0, .nil _⟩
    · exact (edge_to hi hj).1
  obtain ⟨x, h1⟩ := h1
  obtain ⟨y, h2⟩ := h2
  exact ⟨x + y, h1.trans h2⟩
theorem calm_closes {s : Sy} (hs : Ok s) {r : Rf} (hr : RefOk s r) {d b : Nat → Int} (h : WI (egs s) (nPl s) (plc s r) d b) (hc : Calm (egs s) d) : Closes (egs s) := by
  have hE := egs_ok hs
  have hd := (h.dist (by decide) hE (plc_lt hr) hc).1
  refine ⟨d, fun e he => hc e he ?_⟩
  obtain ⟨x, hx⟩ := reach_all hr (hE.fst e he)
  exact (hd.reach hE (plc_lt hr) (nPl_NB hs) hx).2.1
/-- spread where nothing closes: a loop. -/
theorem ck_spreadNo (s : Sy) (hs : Ok s) (g : Nat) (w : World) (hN : NetAt w g s (egs s)) (hcl : ¬Closes (egs s)) (r : Rf) (hr : RefOk s r) :
    Calls Tryd.prog 98 #[.pointer (some ⟨g, 0, none⟩), .agg #[.int .i64 r.log, .int .i64 r.line]] w fun e w' => ∃ gw gl m c k v, e = .returned (.tuple #[.pointer (some ⟨gw, 0, none⟩), .slice (some ⟨gl, 0, none⟩) m c]) ∧ New w w' ∧ k ≠ [] ∧ Lead (egs s) v k v ∧ sumI (egs s) k < 0 ∧ w'.ownsRow w.heap.size 3 1 (.slice (some ⟨gl, 0, none⟩) m c) k.length (natV k) := by
  refine (ck_spreadG s hs g (egs s) w hN (egs_ok hs) (by have := bnds_len hs; unfold egs; rw [List.length_map]; exact this) r hr).mono ?_
  rintro e w' (⟨gw, sb, bb, EA, ec, d, b, rfl, h1, h2, h3⟩ | h)
  · exact absurd (calm_closes hs hr h2 h3) hcl
  · obtain ⟨gw, gl, m, c, k, v, a1, a2, a3, a4, a5, a6, -⟩ := h
    exact ⟨gw, gl, m, c, k, v, a1, a2, a3, a4, a5, a6⟩
set_option maxRecDepth 100000 in
set_option maxHeartbeats 8000000 in
theorem ck_viewFromNo (s : Sy) (hs : Ok s) (A D : Option Addr) (c d : Nat) (w : World) (hM : SysM w A D s) (hbeg : BegA w) (hcl : ¬Closes (egs s)) (r : Rf) (hr : RefOk s r) :
    Calls Tryd.prog 85 #[.agg #[.slice A s.tracks.length c, .slice D s.ties.length d, .int .i64 s.window], .agg #[.int .i64 r.log, .int .i64 r.line]] w fun e w' => e = .returned (.tuple #[.pointer none, .int .i64 31]) ∧ New w w' := by
  have hok := egs_ok hs
  have hel := bnds_len hs
  have hel2 : (egs s).length ≤ 200000 := by unfold egs; rw [List.length_map]; exact hel
  have hnp := nPl_le hs
  have n1 := (New.refl w).alloc (.cells #[.slice A s.tracks.length c, .slice D s.ties.length d, .int .i64 s.window] 25)
  have n2 := n1.alloc (.cells #[.int .i64 r.log, .int .i64 r.line] 53)
  have r1 := (RowIs.new w 25 [.slice A s.tracks.length c, .slice D s.ties.length d, .int .i64 s.window]).keep ((New.refl _).alloc (.cells #[.int .i64 r.log, .int .i64 r.line] 53))
  have r2 := RowIs.new (w.alloc (.cells #[.slice A s.tracks.length c, .slice D s.ties.length d, .int .i64 s.window] 25)) 53 [.int .i64 r.log, .int .i64 r.line]
  simp only [World.size_alloc] at r2
  have HR2 := Lib.hid r2
  have HN2 := Lib.hid n2
  have z0 := r1.cell (i := 0) rfl
  have z1 := r1.cell (i := 1) rfl
  have z2 := r1.cell (i := 2) rfl
  have HNN : Hid (∀ w', New w w' → Calls Tryd.prog 97 #[.agg #[.slice A s.tracks.length c, .slice D s.ties.length d, .int .i64 s.window]] w' fun e w'' => ∃ g, e = .returned (.pointer (some ⟨g, 0, none⟩)) ∧ NetAt w'' g s (egs s) ∧ w'.heap.size ≤ g ∧ New w' w'') := Lib.hid fun w' h => ck_newNet s hs A D c d w' (hM.keep h) ⟨h.cellOf hbeg.1, h.cellOf hbeg.2⟩
  have HSP : Hid (∀ g w', NetAt w' g s (egs s) → _) := Lib.hid fun g w' hn => ck_spreadNo s hs g w' hn hcl r hr
  have HOK := Lib.hid hok
  have HEL := Lib.hid hel2
  clear hs hM hbeg hcl hr hok hel hel2 hnp n1 n2 r1 r2
  go_enter Tryd.func85, Tryd.ntmps85
  go_wp2_with fail
  refine (HNN.out _ HN2.out).mono ?_
  rintro e w2 ⟨g, rfl, hnet, hgs, m2⟩
  have y0 := (HR2.out.keep m2).cell (i := 0) rfl
  have y1 := (HR2.out.keep m2).cell (i := 1) rfl
  go_wp2_with fail
  refine (HSP.out _ _ hnet).mono ?_
  rintro e w3 ⟨gw, gl, m, c', k, v, rfl, m3, -, -, -, -⟩
  go_wp2_with fail
  go_ret2
  exact ⟨rfl, HN2.out.trans (m2.trans m3)⟩
set_option maxRecDepth 100000 in
set_option maxHeartbeats 8000000 in
theorem ck_IntervalE1 (s : Sy) (A D : Option Addr) (c d : Nat) (w : World) (hM : SysM w A D s) (hbeg : BegA w) (r : Rf) (hle : linesE s [r] ≠ 0) :
    Calls Tryd.prog 36 #[.agg #[.slice A s.tracks.length c, .slice D s.ties.length d, .int .i64 s.window], .agg #[.int .i64 r.log, .int .i64 r.line]] w fun e w' => e = .returned (.tuple #[.agg #[.int .i64 0, .int .i64 0], .int .i64 (linesE s [r])]) ∧ New w w' := by
  have n1 := (New.refl w).alloc (.cells #[.slice A s.tracks.length c, .slice D s.ties.length d, .int .i64 s.window] 25)
  have n2 := n1.alloc (.cells #[.int .i64 r.log, .int .i64 r.line] 53)
  have n3 := n2.alloc (.cells #[.int .i64 0, .int .i64 0] 55)
  have n4 := n3.alloc (.cells #[.int .i64 r.log, .int .i64 r.line] 53)
  have r1 := RowIs.new w 25 [.slice A s.tracks.length c, .slice D s.ties.length d, .int .i64 s.window]
  have r2 := RowIs.new (w.alloc (.cells #[.slice A s.tracks.length c, .slice D s.ties.length d, .int .i64 s.window] 25)) 53 [.int .i64 r.log, .int .i64 r.line]
  have r3 := RowIs.new ((w.alloc (.cells #[.slice A s.tracks.length c, .slice D s.ties.length d, .int .i64 s.window] 25)).alloc (.cells #[.int .i64 r.log, .int .i64 r.line] 53)) 55 [.int .i64 0, .int .i64 0]
  have r4 := RowIs.new (((w.alloc (.cells #[.slice A s.tracks.length c, .slice D s.ties.length d, .int .i64 s.window] 25)).alloc (.cells #[.int .i64 r.log, .int .i64 r.line] 53)).alloc (.cells #[.int .i64 0, .int .i64 0] 55)) 53 [.int .i64 r.log, .int .i64 r.line]
  have m34 := (New.refl (((w.alloc (.cells #[.slice A s.tracks.length c, .slice D s.ties.length d, .int .i64 s.window] 25)).alloc (.cells #[.int .i64 r.log, .int .i64 r.line] 53)).alloc (.cells #[.int .i64 0, .int .i64 0] 55))).alloc (.cells #[.int .i64 r.log, .int .i64 r.line] 53)
  have m24 := ((New.refl ((w.alloc (.cells #[.slice A s.tracks.length c, .slice D s.ties.length d, .int .i64 s.window] 25)).alloc (.cells #[.int .i64 r.log, .int .i64 r.line] 53))).alloc (.cells #[.int .i64 0, .int .i64 0] 55)).trans m34
  have m14 := ((New.refl (w.alloc (.cells #[.slice A s.tracks.length c, .slice D s.ties.length d, .int .i64 s.window] 25))).alloc (.cells #[.int .i64 r.log, .int .i64 r.line] 53)).trans m24
  replace r1 := r1.keep m14
  replace r2 := r2.keep m24
  replace r3 := r3.keep m34
  simp only [World.size_alloc] at r2 r3 r4
  have HN4 := Lib.hid n4
  generalize hW0 : (((w.alloc (.cells #[.slice A s.tracks.length c, .slice D s.ties.length d, .int .i64 s.window] 25)).alloc (.cells #[.int .i64 r.log, .int .i64 r.line] 53)).alloc (.cells #[.int .i64 0, .int .i64 0] 55)).alloc (.cells #[.int .i64 r.log, .int .i64 r.line] 53) = W0 at *
  have HC : Hid (∀ w', New W0 w' → (w'.cell? ⟨w.heap.size, 0, none⟩ = some (.slice A s.tracks.length c) ∧ w'.cell? ⟨w.heap.size, 1, none⟩ = some (.slice D s.ties.length d) ∧ w'.cell? ⟨w.heap.size, 2, none⟩ = some (.int .i64 s.window)) ∧ (w'.cell? ⟨w.heap.size + 1, 0, none⟩ = some (.int .i64 r.log) ∧ w'.cell? ⟨w.heap.size + 1, 1, none⟩ = some (.int .i64 r.line)) ∧ RowIs w' (w.heap.size + 1 + 1) 55 [.int .i64 0, .int .i64 0] ∧ w'.cell? ⟨0, 0, none⟩ = some (.int .i64 (-1)) ∧ w'.cell? ⟨0, 1, none⟩ = some (.int .i64 0)) := Lib.hid fun w' h =>
    ⟨⟨(r1.keep h).cell rfl, (r1.keep h).cell rfl, (r1.keep h).cell rfl⟩, ⟨(r2.keep h).cell rfl, (r2.keep h).cell rfl⟩, r3.keep h, (HN4.out.trans h).cellOf hbeg.1, (HN4.out.trans h).cellOf hbeg.2⟩
  have HCK : Hid (Calls Tryd.prog 84 #[.agg #[.slice A s.tracks.length c, .slice D s.ties.length d, .int .i64 s.window], .slice (some ⟨w.heap.size + 1 + 1 + 1, 0, none⟩) 1 1] W0 fun e w' => e = .returned (.int .i64 (linesE s [r])) ∧ New W0 w') := Lib.hid (by
    have := ck_checkLines s A D (some ⟨w.heap.size + 1 + 1 + 1, 0, none⟩) c d 1 [r] W0 (hM.keep HN4.out) (RfsA.row r4 (by simp))
    exact this)
  clear n1 n2 n3 n4 r1 r2 r3 r4 hbeg hM
  generalize linesE s [r] = le at *
  have hne : (le != 0) = true := by simpa using hle
  go_enter Tryd.func36, Tryd.ntmps36
  go_wp2_with fail
  clear hW0
  refine HCK.out.mono ?_
  rintro e w1 ⟨rfl, m1⟩
  have mm := m1
  have R3 := (HC.out _ mm).2.2.1
  have g0 := R3.cell (i := 0) rfl
  have g1 := R3.cell (i := 1) rfl
  have f0 := R3.free 0
  have f1 := R3.free 1
  go_wp2_with fail
  have HR4 := (R3.put 0 (.int .i64 0)).put 1 (.int .i64 0)
  have e0 := HR4.cell (i := 0) rfl
  have e1 := HR4.cell (i := 1) rfl
  have nn := HN4.out.trans mm
  refine ⟨rfl, .tuple #[.agg #[.int .i64 0, .int .i64 0], .int .i64 le], ?_, rfl, (nn.setCell (by show w.heap.size ≤ w.heap.size + 1 + 1; omega) _).setCell (by show w.heap.size ≤ w.heap.size + 1 + 1; omega) _⟩
  clear HC HCK HR4
  simp [results, Tryd.results36, go_sem, e0, e1]
set_option maxRecDepth 100000 in
set_option maxHeartbeats 8000000 in
theorem ck_IntervalE2 (s : Sy) (hs : Ok s) (A D : Option Addr) (c d : Nat) (w : World) (hM : SysM w A D s) (hbeg : BegA w) (hcl : ¬Closes (egs s)) (r : Rf) (hr : lineB s r = true) :
    Calls Tryd.prog 36 #[.agg #[.slice A s.tracks.length c, .slice D s.ties.length d, .int .i64 s.window], .agg #[.int .i64 r.log, .int .i64 r.line]] w fun e w' => e = .returned (.tuple #[.agg #[.int .i64 0, .int .i64 0], .int .i64 31]) ∧ New w w' := by
  have hce : checkE s = 0 := hs
  have hle : linesE s [r] = 0 := by unfold linesE; rw [hce]; simp [hr]
  have n1 := (New.refl w).alloc (.cells #[.slice A s.tracks.length c, .slice D s.ties.length d, .int .i64 s.window] 25)
  have n2 := n1.alloc (.cells #[.int .i64 r.log, .int .i64 r.line] 53)
  have n3 := n2.alloc (.cells #[.int .i64 0, .int .i64 0] 55)
  have n4 := n3.alloc (.cells #[.int .i64 r.log, .int .i64 r.line] 53)
  have r1 := RowIs.new w 25 [.slice A s.tracks.length c, .slice D s.ties.length d, .int .i64 s.window]
  have r2 := RowIs.new (w.alloc (.cells #[.slice A s.tracks.length c, .slice D s.ties.length d, .int .i64 s.window] 25)) 53 [.int .i64 r.log, .int .i64 r.line]
  have r3 := RowIs.new ((w.alloc (.cells #[.slice A s.tracks.length c, .slice D s.ties.length d, .int .i64 s.window] 25)).alloc (.cells #[.int .i64 r.log, .int .i64 r.line] 53)) 55 [.int .i64 0, .int .i64 0]
  have r4 := RowIs.new (((w.alloc (.cells #[.slice A s.tracks.length c, .slice D s.ties.length d, .int .i64 s.window] 25)).alloc (.cells #[.int .i64 r.log, .int .i64 r.line] 53)).alloc (.cells #[.int .i64 0, .int .i64 0] 55)) 53 [.int .i64 r.log, .int .i64 r.line]
  have m34 := (New.refl (((w.alloc (.cells #[.slice A s.tracks.length c, .slice D s.ties.length d, .int .i64 s.window] 25)).alloc (.cells #[.int .i64 r.log, .int .i64 r.line] 53)).alloc (.cells #[.int .i64 0, .int .i64 0] 55))).alloc (.cells #[.int .i64 r.log, .int .i64 r.line] 53)
  have m24 := ((New.refl ((w.alloc (.cells #[.slice A s.tracks.length c, .slice D s.ties.length d, .int .i64 s.window] 25)).alloc (.cells #[.int .i64 r.log, .int .i64 r.line] 53))).alloc (.cells #[.int .i64 0, .int .i64 0] 55)).trans m34
  have m14 := ((New.refl (w.alloc (.cells #[.slice A s.tracks.length c, .slice D s.ties.length d, .int .i64 s.window] 25))).alloc (.cells #[.int .i64 r.log, .int .i64 r.line] 53)).trans m24
  replace r1 := r1.keep m14
  replace r2 := r2.keep m24
  replace r3 := r3.keep m34
  simp only [World.size_alloc] at r2 r3 r4
  have HN4 := Lib.hid n4
  generalize hW0 : (((w.alloc (.cells #[.slice A s.tracks.length c, .slice D s.ties.length d, .int .i64 s.window] 25)).alloc (.cells #[.int .i64 r.log, .int .i64 r.line] 53)).alloc (.cells #[.int .i64 0, .int .i64 0] 55)).alloc (.cells #[.int .i64 r.log, .int .i64 r.line] 53) = W0 at *
  have HC : Hid (∀ w', New W0 w' → (w'.cell? ⟨w.heap.size, 0, none⟩ = some (.slice A s.tracks.length c) ∧ w'.cell? ⟨w.heap.size, 1, none⟩ = some (.slice D s.ties.length d) ∧ w'.cell? ⟨w.heap.size, 2, none⟩ = some (.int .i64 s.window)) ∧ (w'.cell? ⟨w.heap.size + 1, 0, none⟩ = some (.int .i64 r.log) ∧ w'.cell? ⟨w.heap.size + 1, 1, none⟩ = some (.int .i64 r.line)) ∧ RowIs w' (w.heap.size + 1 + 1) 55 [.int .i64 0, .int .i64 0] ∧ w'.cell? ⟨0, 0, none⟩ = some (.int .i64 (-1)) ∧ w'.cell? ⟨0, 1, none⟩ = some (.int .i64 0)) := Lib.hid fun w' h =>
    ⟨⟨(r1.keep h).cell rfl, (r1.keep h).cell rfl, (r1.keep h).cell rfl⟩, ⟨(r2.keep h).cell rfl, (r2.keep h).cell rfl⟩, r3.keep h, (HN4.out.trans h).cellOf hbeg.1, (HN4.out.trans h).cellOf hbeg.2⟩
  have HCK : Hid (Calls Tryd.prog 84 #[.agg #[.slice A s.tracks.length c, .slice D s.ties.length d, .int .i64 s.window], .slice (some ⟨w.heap.size + 1 + 1 + 1, 0, none⟩) 1 1] W0 fun e w' => e = .returned (.int .i64 0) ∧ New W0 w') := Lib.hid (by
    have := ck_checkLines s A D (some ⟨w.heap.size + 1 + 1 + 1, 0, none⟩) c d 1 [r] W0 (hM.keep HN4.out) (RfsA.row r4 (by simp))
    rw [hle] at this
    exact this)
  have HVF : Hid (∀ w', New W0 w' → Calls Tryd.prog 85 #[.agg #[.slice A s.tracks.length c, .slice D s.ties.length d, .int .i64 s.window], .agg #[.int .i64 (-1), .int .i64 0]] w' fun e w'' => e = .returned (.tuple #[.pointer none, .int .i64 31]) ∧ New w' w'') := Lib.hid fun w' h =>
    ck_viewFromNo s hs A D c d w' (hM.keep (HN4.out.trans h)) ⟨(HN4.out.trans h).cellOf hbeg.1, (HN4.out.trans h).cellOf hbeg.2⟩ hcl beg (.inl rfl)
  clear n1 n2 n3 n4 r1 r2 r3 r4 hce hle hbeg hM hs hcl
  go_enter Tryd.func36, Tryd.ntmps36
  go_wp2_with fail
  clear hW0
  refine HCK.out.mono ?_
  rintro e w1 ⟨rfl, m1⟩
  obtain ⟨⟨y0, y1, y2⟩, y3⟩ := HC.out w1 m1
  obtain ⟨-, -, y5, y6⟩ := y3
  go_wp2_with fail
  refine (HVF.out _ m1).mono ?_
  rintro e w2 ⟨rfl, m2⟩
  have mm := m1.trans m2
  have R3 := (HC.out _ mm).2.2.1
  have g0 := R3.cell (i := 0) rfl
  have g1 := R3.cell (i := 1) rfl
  have f0 := R3.free 0
  have f1 := R3.free 1
  go_wp2_with fail
  have HR4 := (R3.put 0 (.int .i64 0)).put 1 (.int .i64 0)
  have e0 := HR4.cell (i := 0) rfl
  have e1 := HR4.cell (i := 1) rfl
  have nn := HN4.out.trans mm
  refine ⟨rfl, .tuple #[.agg #[.int .i64 0, .int .i64 0], .int .i64 31], ?_, rfl, (nn.setCell (by show w.heap.size ≤ w.heap.size + 1 + 1; omega) _).setCell (by show w.heap.size ≤ w.heap.size + 1 + 1; omega) _⟩
  clear HC HCK HR4 HVF
  simp [results, Tryd.results36, go_sem, e0, e1]
set_option maxRecDepth 100000 in
set_option maxHeartbeats 8000000 in
theorem ck_RelationE1 (s : Sy) (A D : Option Addr) (c d : Nat) (w : World) (hM : SysM w A D s) (a b : Rf) (hle : linesE s [a, b] ≠ 0) :
    Calls Tryd.prog 40 #[.agg #[.slice A s.tracks.length c, .slice D s.ties.length d, .int .i64 s.window], .agg #[.int .i64 a.log, .int .i64 a.line], .agg #[.int .i64 b.log, .int .i64 b.line]] w fun e w' => e = .returned (.tuple #[.agg #[.int .i64 0, .int .i64 0], .int .i64 (linesE s [a, b])]) ∧ New w w' := by
  have n1 := (New.refl w).alloc (.cells #[.slice A s.tracks.length c, .slice D s.ties.length d, .int .i64 s.window] 25)
  have n2 := n1.alloc (.cells #[.int .i64 a.log, .int .i64 a.line] 53)
  have n3 := n2.alloc (.cells #[.int .i64 b.log, .int .i64 b.line] 53)
  have n4 := n3.alloc (.cells #[.int .i64 0, .int .i64 0] 55)
  have n5 := n4.alloc (.cells #[.int .i64 a.log, .int .i64 a.line, .int .i64 b.log, .int .i64 b.line] 53)
  have r1 := RowIs.new w 25 [.slice A s.tracks.length c, .slice D s.ties.length d, .int .i64 s.window]
  have r2 := RowIs.new (w.alloc (.cells #[.slice A s.tracks.length c, .slice D s.ties.length d, .int .i64 s.window] 25)) 53 [.int .i64 a.log, .int .i64 a.line]
  have r3 := RowIs.new ((w.alloc (.cells #[.slice A s.tracks.length c, .slice D s.ties.length d, .int .i64 s.window] 25)).alloc (.cells #[.int .i64 a.log, .int .i64 a.line] 53)) 53 [.int .i64 b.log, .int .i64 b.line]
  have r4 := RowIs.new (((w.alloc (.cells #[.slice A s.tracks.length c, .slice D s.ties.length d, .int .i64 s.window] 25)).alloc (.cells #[.int .i64 a.log, .int .i64 a.line] 53)).alloc (.cells #[.int .i64 b.log, .int .i64 b.line] 53)) 55 [.int .i64 0, .int .i64 0]
  have r5 := RowIs.new ((((w.alloc (.cells #[.slice A s.tracks.length c, .slice D s.ties.length d, .int .i64 s.window] 25)).alloc (.cells #[.int .i64 a.log, .int .i64 a.line] 53)).alloc (.cells #[.int .i64 b.log, .int .i64 b.line] 53)).alloc (.cells #[.int .i64 0, .int .i64 0] 55)) 53 [.int .i64 a.log, .int .i64 a.line, .int .i64 b.log, .int .i64 b.line]
  have m45 := (New.refl ((((w.alloc (.cells #[.slice A s.tracks.length c, .slice D s.ties.length d, .int .i64 s.window] 25)).alloc (.cells #[.int .i64 a.log, .int .i64 a.line] 53)).alloc (.cells #[.int .i64 b.log, .int .i64 b.line] 53)).alloc (.cells #[.int .i64 0, .int .i64 0] 55))).alloc (.cells #[.int .i64 a.log, .int .i64 a.line, .int .i64 b.log, .int .i64 b.line] 53)
  have m35 := ((New.refl (((w.alloc (.cells #[.slice A s.tracks.length c, .slice D s.ties.length d, .int .i64 s.window] 25)).alloc (.cells #[.int .i64 a.log, .int .i64 a.line] 53)).alloc (.cells #[.int .i64 b.log, .int .i64 b.line] 53))).alloc (.cells #[.int .i64 0, .int .i64 0] 55)).trans m45
  have m25 := ((New.refl ((w.alloc (.cells #[.slice A s.tracks.length c, .slice D s.ties.length d, .int .i64 s.window] 25)).alloc (.cells #[.int .i64 a.log, .int .i64 a.line] 53))).alloc (.cells #[.int .i64 b.log, .int .i64 b.line] 53)).trans m35
  have m15 := ((New.refl (w.alloc (.cells #[.slice A s.tracks.length c, .slice D s.ties.length d, .int .i64 s.window] 25))).alloc (.cells #[.int .i64 a.log, .int .i64 a.line] 53)).trans m25
  replace r1 := r1.keep m15
  replace r2 := r2.keep m25
  replace r3 := r3.keep m35
  replace r4 := r4.keep m45
  simp only [World.size_alloc] at r2 r3 r4 r5
  have HN4 := Lib.hid n5
  generalize hW0 : ((((w.alloc (.cells #[.slice A s.tracks.length c, .slice D s.ties.length d, .int .i64 s.window] 25)).alloc (.cells #[.int .i64 a.log, .int .i64 a.line] 53)).alloc (.cells #[.int .i64 b.log, .int .i64 b.line] 53)).alloc (.cells #[.int .i64 0, .int .i64 0] 55)).alloc (.cells #[.int .i64 a.log, .int .i64 a.line, .int .i64 b.log, .int .i64 b.line] 53) = W0 at *
  have HC : Hid (∀ w', New W0 w' → (w'.cell? ⟨w.heap.size, 0, none⟩ = some (.slice A s.tracks.length c) ∧ w'.cell? ⟨w.heap.size, 1, none⟩ = some (.slice D s.ties.length d) ∧ w'.cell? ⟨w.heap.size, 2, none⟩ = some (.int .i64 s.window)) ∧ (w'.cell? ⟨w.heap.size + 1, 0, none⟩ = some (.int .i64 a.log) ∧ w'.cell? ⟨w.heap.size + 1, 1, none⟩ = some (.int .i64 a.line)) ∧ (w'.cell? ⟨w.heap.size + 1 + 1, 0, none⟩ = some (.int .i64 b.log) ∧ w'.cell? ⟨w.heap.size + 1 + 1, 1, none⟩ = some (.int .i64 b.line)) ∧ RowIs w' (w.heap.size + 1 + 1 + 1) 55 [.int .i64 0, .int .i64 0]) := Lib.hid fun w' h =>
    ⟨⟨(r1.keep h).cell rfl, (r1.keep h).cell rfl, (r1.keep h).cell rfl⟩, ⟨(r2.keep h).cell rfl, (r2.keep h).cell rfl⟩, ⟨(r3.keep h).cell rfl, (r3.keep h).cell rfl⟩, r4.keep h⟩
  have HCK : Hid (Calls Tryd.prog 84 #[.agg #[.slice A s.tracks.length c, .slice D s.ties.length d, .int .i64 s.window], .slice (some ⟨w.heap.size + 1 + 1 + 1 + 1, 0, none⟩) 2 2] W0 fun e w' => e = .returned (.int .i64 (linesE s [a, b])) ∧ New W0 w') := Lib.hid (by
    have := ck_checkLines s A D (some ⟨w.heap.size + 1 + 1 + 1 + 1, 0, none⟩) c d 2 [a, b] W0 (hM.keep HN4.out) (RfsA.row r5 (by simp))
    exact this)
  clear n1 n2 n3 n4 r1 r2 r3 r4 hM
  generalize linesE s [a, b] = le at *
  have hne : (le != 0) = true := by simpa using hle
  go_enter Tryd.func40, Tryd.ntmps40
  go_wp2_with fail
  clear hW0
  refine HCK.out.mono ?_
  rintro e w1 ⟨rfl, m1⟩
  have mm := m1
  have R3 := (HC.out _ mm).2.2.2
  have g0 := R3.cell (i := 0) rfl
  have g1 := R3.cell (i := 1) rfl
  have f0 := R3.free 0
  have f1 := R3.free 1
  go_wp2_with fail
  have HR4 := (R3.put 0 (.int .i64 0)).put 1 (.int .i64 0)
  have e0 := HR4.cell (i := 0) rfl
  have e1 := HR4.cell (i := 1) rfl
  have nn := HN4.out.trans mm
  refine ⟨rfl, .tuple #[.agg #[.int .i64 0, .int .i64 0], .int .i64 le], ?_, rfl, (nn.setCell (by show w.heap.size ≤ w.heap.size + 1 + 1 + 1; omega) _).setCell (by show w.heap.size ≤ w.heap.size + 1 + 1 + 1; omega) _⟩
  clear HC HCK HR4
  simp [results, Tryd.results40, go_sem, e0, e1]
set_option maxRecDepth 100000 in
set_option maxHeartbeats 8000000 in
theorem ck_RelationE2 (s : Sy) (hs : Ok s) (A D : Option Addr) (c d : Nat) (w : World) (hM : SysM w A D s) (hbeg : BegA w) (hcl : ¬Closes (egs s)) (a b : Rf) (ha : lineB s a = true) (hb : lineB s b = true) :
    Calls Tryd.prog 40 #[.agg #[.slice A s.tracks.length c, .slice D s.ties.length d, .int .i64 s.window], .agg #[.int .i64 a.log, .int .i64 a.line], .agg #[.int .i64 b.log, .int .i64 b.line]] w fun e w' => e = .returned (.tuple #[.agg #[.int .i64 0, .int .i64 0], .int .i64 31]) ∧ New w w' := by
  have hce : checkE s = 0 := hs
  have hle : linesE s [a, b] = 0 := by unfold linesE; rw [hce]; simp [ha, hb]
  have n1 := (New.refl w).alloc (.cells #[.slice A s.tracks.length c, .slice D s.ties.length d, .int .i64 s.window] 25)
  have n2 := n1.alloc (.cells #[.int .i64 a.log, .int .i64 a.line] 53)
  have n3 := n2.alloc (.cells #[.int .i64 b.log, .int .i64 b.line] 53)
  have n4 := n3.alloc (.cells #[.int .i64 0, .int .i64 0] 55)
  have n5 := n4.alloc (.cells #[.int .i64 a.log, .int .i64 a.line, .int .i64 b.log, .int .i64 b.line] 53)
  have r1 := RowIs.new w 25 [.slice A s.tracks.length c, .slice D s.ties.length d, .int .i64 s.window]
  have r2 := RowIs.new (w.alloc (.cells #[.slice A s.tracks.length c, .slice D s.ties.length d, .int .i64 s.window] 25)) 53 [.int .i64 a.log, .int .i64 a.line]
  have r3 := RowIs.new ((w.alloc (.cells #[.slice A s.tracks.length c, .slice D s.ties.length d, .int .i64 s.window] 25)).alloc (.cells #[.int .i64 a.log, .int .i64 a.line] 53)) 53 [.int .i64 b.log, .int .i64 b.line]
  have r4 := RowIs.new (((w.alloc (.cells #[.slice A s.tracks.length c, .slice D s.ties.length d, .int .i64 s.window] 25)).alloc (.cells #[.int .i64 a.log, .int .i64 a.line] 53)).alloc (.cells #[.int .i64 b.log, .int .i64 b.line] 53)) 55 [.int .i64 0, .int .i64 0]
  have r5 := RowIs.new ((((w.alloc (.cells #[.slice A s.tracks.length c, .slice D s.ties.length d, .int .i64 s.window] 25)).alloc (.cells #[.int .i64 a.log, .int .i64 a.line] 53)).alloc (.cells #[.int .i64 b.log, .int .i64 b.line] 53)).alloc (.cells #[.int .i64 0, .int .i64 0] 55)) 53 [.int .i64 a.log, .int .i64 a.line, .int .i64 b.log, .int .i64 b.line]
  have m45 := (New.refl ((((w.alloc (.cells #[.slice A s.tracks.length c, .slice D s.ties.length d, .int .i64 s.window] 25)).alloc (.cells #[.int .i64 a.log, .int .i64 a.line] 53)).alloc (.cells #[.int .i64 b.log, .int .i64 b.line] 53)).alloc (.cells #[.int .i64 0, .int .i64 0] 55))).alloc (.cells #[.int .i64 a.log, .int .i64 a.line, .int .i64 b.log, .int .i64 b.line] 53)
  have m35 := ((New.refl (((w.alloc (.cells #[.slice A s.tracks.length c, .slice D s.ties.length d, .int .i64 s.window] 25)).alloc (.cells #[.int .i64 a.log, .int .i64 a.line] 53)).alloc (.cells #[.int .i64 b.log, .int .i64 b.line] 53))).alloc (.cells #[.int .i64 0, .int .i64 0] 55)).trans m45
  have m25 := ((New.refl ((w.alloc (.cells #[.slice A s.tracks.length c, .slice D s.ties.length d, .int .i64 s.window] 25)).alloc (.cells #[.int .i64 a.log, .int .i64 a.line] 53))).alloc (.cells #[.int .i64 b.log, .int .i64 b.line] 53)).trans m35
  have m15 := ((New.refl (w.alloc (.cells #[.slice A s.tracks.length c, .slice D s.ties.length d, .int .i64 s.window] 25))).alloc (.cells #[.int .i64 a.log, .int .i64 a.line] 53)).trans m25
  replace r1 := r1.keep m15
  replace r2 := r2.keep m25
  replace r3 := r3.keep m35
  replace r4 := r4.keep m45
  simp only [World.size_alloc] at r2 r3 r4 r5
  have HN4 := Lib.hid n5
  generalize hW0 : ((((w.alloc (.cells #[.slice A s.tracks.length c, .slice D s.ties.length d, .int .i64 s.window] 25)).alloc (.cells #[.int .i64 a.log, .int .i64 a.line] 53)).alloc (.cells #[.int .i64 b.log, .int .i64 b.line] 53)).alloc (.cells #[.int .i64 0, .int .i64 0] 55)).alloc (.cells #[.int .i64 a.log, .int .i64 a.line, .int .i64 b.log, .int .i64 b.line] 53) = W0 at *
  have HC : Hid (∀ w', New W0 w' → (w'.cell? ⟨w.heap.size, 0, none⟩ = some (.slice A s.tracks.length c) ∧ w'.cell? ⟨w.heap.size, 1, none⟩ = some (.slice D s.ties.length d) ∧ w'.cell? ⟨w.heap.size, 2, none⟩ = some (.int .i64 s.window)) ∧ (w'.cell? ⟨w.heap.size + 1, 0, none⟩ = some (.int .i64 a.log) ∧ w'.cell? ⟨w.heap.size + 1, 1, none⟩ = some (.int .i64 a.line)) ∧ (w'.cell? ⟨w.heap.size + 1 + 1, 0, none⟩ = some (.int .i64 b.log) ∧ w'.cell? ⟨w.heap.size + 1 + 1, 1, none⟩ = some (.int .i64 b.line)) ∧ RowIs w' (w.heap.size + 1 + 1 + 1) 55 [.int .i64 0, .int .i64 0]) := Lib.hid fun w' h =>
    ⟨⟨(r1.keep h).cell rfl, (r1.keep h).cell rfl, (r1.keep h).cell rfl⟩, ⟨(r2.keep h).cell rfl, (r2.keep h).cell rfl⟩, ⟨(r3.keep h).cell rfl, (r3.keep h).cell rfl⟩, r4.keep h⟩
  have HCK : Hid (Calls Tryd.prog 84 #[.agg #[.slice A s.tracks.length c, .slice D s.ties.length d, .int .i64 s.window], .slice (some ⟨w.heap.size + 1 + 1 + 1 + 1, 0, none⟩) 2 2] W0 fun e w' => e = .returned (.int .i64 0) ∧ New W0 w') := Lib.hid (by
    have := ck_checkLines s A D (some ⟨w.heap.size + 1 + 1 + 1 + 1, 0, none⟩) c d 2 [a, b] W0 (hM.keep HN4.out) (RfsA.row r5 (by simp))
    rw [hle] at this
    exact this)
  have HVF : Hid (∀ w', New W0 w' → Calls Tryd.prog 85 #[.agg #[.slice A s.tracks.length c, .slice D s.ties.length d, .int .i64 s.window], .agg #[.int .i64 a.log, .int .i64 a.line]] w' fun e w'' => e = .returned (.tuple #[.pointer none, .int .i64 31]) ∧ New w' w'') := Lib.hid fun w' h =>
    ck_viewFromNo s hs A D c d w' (hM.keep (HN4.out.trans h)) ⟨(HN4.out.trans h).cellOf hbeg.1, (HN4.out.trans h).cellOf hbeg.2⟩ hcl a (.inr ha)
  clear n1 n2 n3 n4 r1 r2 r3 r4 hce hle hbeg hM hs hcl
  go_enter Tryd.func40, Tryd.ntmps40
  go_wp2_with fail
  clear hW0
  refine HCK.out.mono ?_
  rintro e w1 ⟨rfl, m1⟩
  obtain ⟨⟨y0, y1, y2⟩, y3⟩ := HC.out w1 m1
  obtain ⟨⟨y3, y4⟩, -⟩ := y3
  go_wp2_with fail
  refine (HVF.out _ m1).mono ?_
  rintro e w2 ⟨rfl, m2⟩
  have mm := m1.trans m2
  have R3 := (HC.out _ mm).2.2.2
  have g0 := R3.cell (i := 0) rfl
  have g1 := R3.cell (i := 1) rfl
  have f0 := R3.free 0
  have f1 := R3.free 1
  go_wp2_with fail
  have HR4 := (R3.put 0 (.int .i64 0)).put 1 (.int .i64 0)
  have e0 := HR4.cell (i := 0) rfl
  have e1 := HR4.cell (i := 1) rfl
  have nn := HN4.out.trans mm
  refine ⟨rfl, .tuple #[.agg #[.int .i64 0, .int .i64 0], .int .i64 31], ?_, rfl, (nn.setCell (by show w.heap.size ≤ w.heap.size + 1 + 1 + 1; omega) _).setCell (by show w.heap.size ≤ w.heap.size + 1 + 1 + 1; omega) _⟩
  clear HC HCK HR4 HVF
  simp [results, Tryd.results40, go_sem, e0, e1]
end Go.Proofs.YtodmbcoobjcooaaDoor

namespace Go.Proofs.YtodmbcoobjcooaaDoor
open Go Go.RowKit Go.Shelf
attribute [local go_sem] Oper.semAt_some
/-- The least sum of the ways from one place to another one. -/
def MinW (E : List Eg) (u v : Nat) (m : Int) : Prop := Wk E u v m ∧ ∀ x, Wk E u v x → m ≤ x
theorem MinW.unique {E : List Eg} {u v : Nat} {m k : Int} (h : MinW E u v m) (h2 : MinW E u v k) : m = k := by
  have := h.2 k h2.1
  have := h2.2 m h.1
  omega
theorem MinW.tri {E : List Eg} {u v x : Nat} {m k j : Int} (h : MinW E u v m) (h2 : MinW E v x k) (h3 : MinW E u x j) : j ≤ m + k := h3.2 _ (h.1.trans h2.1)
theorem MinW.round {E : List Eg} (hc : Closes E) {u v : Nat} {m k : Int} (h : MinW E u v m) (h2 : MinW E v u k) : 0 ≤ m + k := by
  obtain ⟨p, hp⟩ := hc
  have := (h.1.trans h2.1).keeps hp
  omega
theorem turn_turn (E : List Eg) : turnE (turnE E) = E := by
  unfold turnE
  rw [List.map_map]
  induction E with
  | nil => rfl
  | cons e l ih =>
    obtain ⟨a, b, c⟩ := e
    rw [List.map_cons, ih]
    rfl
theorem Wk.unturn {E : List Eg} {u v : Nat} {x : Int} (h : Wk (turnE E) u v x) : Wk E v u x := by
  have := h.turn
  rwa [turn_turn] at this
theorem Dist.minW {E : List Eg} {n src : Nat} {d : Nat → Int} (h : Dist E n src 22001 d) (hE : EOk E n 22001) (hs : src < n) (hb : (n : Int) * 22001 + 22001 < NB) {v : Nat} (hr : ∃ x, Wk E src v x) : MinW E src v (d v) ∧ -((n : Int) * 22001) ≤ d v ∧ d v ≤ n * 22001 := by
  obtain ⟨x, hx⟩ := hr
  obtain ⟨h1, h2, h3⟩ := h.reach hE hs hb hx
  exact ⟨⟨h.walk v h1 h2, fun y hy => (h.reach hE hs hb hy).2.2⟩, h.lo v h1, h.hi v h1 h2⟩
/-- The least sums that a view tells. -/
theorem view_min {s : Sy} (hs : Ok s) {a b : Rf} (ha : RefOk s a) (hb : RefOk s b) {dd db : Nat → Int} (h1 : Dist (egs s) (nPl s) (plc s a) 22001 dd) (h2 : Dist (turnE (egs s)) (nPl s) (plc s a) 22001 db) :
    (MinW (egs s) (plc s a) (plc s b) (dd (plc s b)) ∧ MinW (egs s) (plc s b) (plc s a) (db (plc s b))) ∧ (-600000000 ≤ dd (plc s b) ∧ dd (plc s b) ≤ 600000000) ∧ -600000000 ≤ db (plc s b) ∧ db (plc s b) ≤ 600000000 := by
  have hE := egs_ok hs
  have hn := nPl_le hs
  obtain ⟨a1, a2, a3⟩ := h1.minW hE (plc_lt ha) (nPl_NB hs) (reach_all ha (plc_lt hb))
  obtain ⟨x, hx⟩ := reach_all hb (plc_lt ha)
  obtain ⟨b1, b2, b3⟩ := h2.minW (turnE_ok hE) (plc_lt ha) (nPl_NB hs) ⟨x, hx.turn⟩
  refine ⟨⟨a1, b1.1.unturn, fun y hy => b1.2 y hy.turn⟩, by omega, by omega⟩
theorem linesE_ok {s : Sy} {l : List Rf} : linesE s l = 0 ↔ Ok s ∧ ∀ r ∈ l, lineB s r = true := by
  unfold linesE Ok
  by_cases h : checkE s = 0
  · rw [if_neg (by simp [h])]
    by_cases h2 : l.all (lineB s) = true
    · rw [if_pos h2]
      exact ⟨fun _ => ⟨h, List.all_eq_true.1 h2⟩, fun _ => rfl⟩
    · rw [if_neg h2]
      exact ⟨fun h3 => (by cases h3), fun h3 => absurd (List.all_eq_true.2 h3.2) h2⟩
  · rw [if_pos h]
    exact ⟨fun h3 => absurd h3 h, fun h3 => absurd h3.1 h⟩
theorem linesE_comm (s : Sy) (a b : Rf) : linesE s [a, b] = linesE s [b, a] := by
  unfold linesE
  have : [a, b].all (lineB s) = [b, a].all (lineB s) := by simp [Bool.and_comm]
  rw [this]
/-- The error of a question. -/
def ErrP (s : Sy) (l : List Rf) (er : Int) : Prop := (er = 0 ∧ linesE s l = 0 ∧ Closes (egs s)) ∨ (er ≠ 0 ∧ ((linesE s l ≠ 0 ∧ er = linesE s l) ∨ (linesE s l = 0 ∧ ¬Closes (egs s) ∧ er = 31)))
theorem ErrP.unique {s : Sy} {l : List Rf} {x y : Int} (h : ErrP s l x) (k : ErrP s l y) : x = y := by
  rcases h with ⟨h1, h2, h3⟩ | ⟨h1, ⟨h2, h3⟩ | ⟨h2, h3, h4⟩⟩
  · rcases k with ⟨k1, k2, k3⟩ | ⟨k1, ⟨k2, k3⟩ | ⟨k2, k3, k4⟩⟩
    · omega
    · exact absurd h2 k2
    · exact absurd h3 k3
  · rcases k with ⟨k1, k2, k3⟩ | ⟨k1, ⟨k2, k3⟩ | ⟨k2, k3, k4⟩⟩
    · exact absurd k2 h2
    · omega
    · exact absurd k2 h2
  · rcases k with ⟨k1, k2, k3⟩ | ⟨k1, ⟨k2, k3⟩ | ⟨k2, k3, k4⟩⟩
    · exact absurd k3 h3
    · exact absurd h2 k2
    · omega
theorem ErrP.zero {s : Sy} {l : List Rf} (h : ErrP s l 0) : linesE s l = 0 ∧ Closes (egs s) := by
  rcases h with ⟨_, h2, h3⟩ | ⟨h1, _⟩
  · exact ⟨h2, h3⟩
  · exact absurd rfl h1
theorem ErrP.of_zero {s : Sy} {l : List Rf} {er : Int} (h : ErrP s l er) (h1 : linesE s l = 0) (h2 : Closes (egs s)) : er = 0 := by
  rcases h with ⟨h3, _⟩ | ⟨_, ⟨h3, _⟩ | ⟨_, h3, _⟩⟩
  · exact h3
  · exact absurd h1 h3
  · exact absurd h2 h3
/-- What a question about a ref and a line answers. -/
def AnsP (s : Sy) (l : List Rf) (u v : Nat) (lo hi er : Int) : Prop := ErrP s l er ∧ ((-600000000 ≤ lo ∧ lo ≤ 600000000) ∧ -600000000 ≤ hi ∧ hi ≤ 600000000) ∧ (er = 0 → MinW (egs s) u v hi ∧ MinW (egs s) v u (-lo))
set_option maxHeartbeats 1000000 in
theorem ck_RelationG (s : Sy) (A D : Option Addr) (c d : Nat) (w : World) (hM : SysM w A D s) (hbeg : BegA w) (a b : Rf) :
    Calls Tryd.prog 40 #[.agg #[.slice A s.tracks.length c, .slice D s.ties.length d, .int .i64 s.window], .agg #[.int .i64 a.log, .int .i64 a.line], .agg #[.int .i64 b.log, .int .i64 b.line]] w fun e w' => ∃ lo hi er, e = .returned (.tuple #[.agg #[.int .i64 lo, .int .i64 hi], .int .i64 er]) ∧ New w w' ∧ AnsP s [a, b] (plc s a) (plc s b) lo hi er := by
  by_cases hl : linesE s [a, b] = 0
  · obtain ⟨hs, hal⟩ := linesE_ok.1 hl
    have ha := hal a (by simp)
    have hb := hal b (by simp)
    by_cases hc : Closes (egs s)
    · refine (ck_Relation s hs A D c d w hM hbeg hc a b ha hb).mono ?_
      rintro e w' ⟨dd, db, rfl, h1, h2, h3⟩
      obtain ⟨⟨m1, m2⟩, b1, b2⟩ := view_min hs (.inr ha) (.inr hb) h2 h3
      exact ⟨_, _, 0, rfl, h1, .inl ⟨rfl, hl, hc⟩, by omega, fun _ => ⟨m1, by rw [Int.neg_neg]; exact m2⟩⟩
    · refine (ck_RelationE2 s hs A D c d w hM hbeg hc a b ha hb).mono ?_
      rintro e w' ⟨rfl, h1⟩
      exact ⟨0, 0, 31, rfl, h1, .inr ⟨by decide, .inr ⟨hl, hc, rfl⟩⟩, by omega, fun h => absurd h (by decide)⟩
  · refine (ck_RelationE1 s A D c d w hM a b hl).mono ?_
    rintro e w' ⟨rfl, h1⟩
    exact ⟨0, 0, _, rfl, h1, .inr ⟨hl, .inl ⟨hl, rfl⟩⟩, by omega, fun h => absurd h hl⟩
set_option maxHeartbeats 1000000 in
theorem ck_IntervalG (s : Sy) (A D : Option Addr) (c d : Nat) (w : World) (hM : SysM w A D s) (hbeg : BegA w) (r : Rf) :
    Calls Tryd.prog 36 #[.agg #[.slice A s.tracks.length c, .slice D s.ties.length d, .int .i64 s.window], .agg #[.int .i64 r.log, .int .i64 r.line]] w fun e w' => ∃ lo hi er, e = .returned (.tuple #[.agg #[.int .i64 lo, .int .i64 hi], .int .i64 er]) ∧ New w w' ∧ AnsP s [r] 0 (plc s r) lo hi er := by
  by_cases hl : linesE s [r] = 0
  · obtain ⟨hs, hal⟩ := linesE_ok.1 hl
    have ha := hal r (by simp)
    by_cases hc : Closes (egs s)
    · refine (ck_Interval s hs A D c d w hM hbeg hc r ha).mono ?_
      rintro e w' ⟨dd, db, rfl, h1, h2, h3⟩
      obtain ⟨⟨m1, m2⟩, b1, b2⟩ := view_min hs (a := beg) (.inl rfl) (.inr ha) h2 h3
      exact ⟨_, _, 0, rfl, h1, .inl ⟨rfl, hl, hc⟩, by omega, fun _ => ⟨m1, by rw [Int.neg_neg]; exact m2⟩⟩
    · refine (ck_IntervalE2 s hs A D c d w hM hbeg hc r ha).mono ?_
      rintro e w' ⟨rfl, h1⟩
      exact ⟨0, 0, 31, rfl, h1, .inr ⟨by decide, .inr ⟨hl, hc, rfl⟩⟩, by omega, fun h => absurd h (by decide)⟩
  · refine (ck_IntervalE1 s A D c d w hM hbeg r hl).mono ?_
    rintro e w' ⟨rfl, h1⟩
    exact ⟨0, 0, _, rfl, h1, .inr ⟨hl, .inl ⟨hl, rfl⟩⟩, by omega, fun h => absurd h hl⟩
/-- The lines of a tie are together in a system that closes. -/
theorem tie_must {s : Sy} {i : Nat} (hi : i < s.ties.length) {lo hi' : Int} (h1 : MinW (egs s) (plc s (tiAt s i).a) (plc s (tiAt s i).b) hi') (h2 : MinW (egs s) (plc s (tiAt s i).b) (plc s (tiAt s i).a) (-lo)) : -s.window ≤ lo ∧ hi' ≤ s.window := by
  have e1 := h1.2 _ (Wk.one (List.mem_map.2 ⟨_, mem_tie hi (.inl rfl), rfl⟩))
  have e2 := h2.2 _ (Wk.one (List.mem_map.2 ⟨_, mem_tie hi (.inr rfl), rfl⟩))
  have f1 : (egOf s (thereB s i)).2.2 = s.window := rfl
  have f2 : (egOf s (backB s i)).2.2 = s.window := rfl
  rw [f1] at e1
  rw [f2] at e2
  omega
set_option maxRecDepth 100000 in
set_option maxHeartbeats 4000000 in
theorem ck_MustTie (s : Sy) (hs : Ok s) (hcl : Closes (egs s)) (A D : Option Addr) (c d : Nat) (w : World) (hM : SysM w A D s) (hbeg : BegA w) (i : Nat) (hi : i < s.ties.length) :
    Calls Tryd.prog 44 #[.agg #[.slice A s.tracks.length c, .slice D s.ties.length d, .int .i64 s.window], .agg #[.int .i64 (tiAt s i).a.log, .int .i64 (tiAt s i).a.line], .agg #[.int .i64 (tiAt s i).b.log, .int .i64 (tiAt s i).b.line]] w fun e w' => e = .returned (.tuple #[.bool true, .int .i64 0]) ∧ New w w' := by
  obtain ⟨l1, l2, -⟩ := hs.tie hi
  have hle : linesE s [(tiAt s i).a, (tiAt s i).b] = 0 := linesE_ok.2 ⟨hs, fun r hr => by simp at hr; rcases hr with rfl | rfl <;> assumption⟩
  have hw := (checkE_ok hs).2.2.2.2
  have HT : Hid (∀ lo hi', MinW (egs s) (plc s (tiAt s i).a) (plc s (tiAt s i).b) hi' → MinW (egs s) (plc s (tiAt s i).b) (plc s (tiAt s i).a) (-lo) → -s.window ≤ lo ∧ hi' ≤ s.window) := Lib.hid fun lo hi' h1 h2 => tie_must hi h1 h2
  have HZ : Hid (∀ er, ErrP s [(tiAt s i).a, (tiAt s i).b] er → er = 0) := Lib.hid fun er h => h.of_zero hle hcl
  have HRL : Hid (∀ w', New w w' → _) := Lib.hid fun w' h => ck_RelationG s A D c d w' (hM.keep h) ⟨h.cellOf hbeg.1, h.cellOf hbeg.2⟩ (tiAt s i).a (tiAt s i).b
  generalize tiAt s i = t at *
  obtain ⟨⟨al, an⟩, ⟨bl, bn⟩⟩ := t
  have n3 := (((New.refl w).alloc (.cells #[.slice A s.tracks.length c, .slice D s.ties.length d, .int .i64 s.window] 25)).alloc (.cells #[.int .i64 al, .int .i64 an] 53)).alloc (.cells #[.int .i64 bl, .int .i64 bn] 53)
  have r1 := (RowIs.new w 25 [.slice A s.tracks.length c, .slice D s.ties.length d, .int .i64 s.window]).keep (((New.refl _).alloc (.cells #[.int .i64 al, .int .i64 an] 53)).alloc (.cells #[.int .i64 bl, .int .i64 bn] 53))
  have HN3 := Lib.hid n3
  have HR1 := Lib.hid r1
  clear n3 r1 hs hcl hM hbeg hle l1 l2 hi
  go_enter Tryd.func44, Tryd.ntmps44
  go_wp2_with fail
  refine (HRL.out _ HN3.out).mono ?_
  rintro e w1 ⟨lo, hi, er, rfl, m1, hE, hbd, hmin⟩
  obtain rfl := HZ.out er hE
  obtain ⟨q1, q2⟩ := HT.out lo hi (hmin rfl).1 (hmin rfl).2
  have c2 := (HR1.out.keep m1).cell (i := 2) rfl
  have HM1 := Lib.hid (HN3.out.trans m1)
  have hbl : w.heap.size < w1.heap.size := by have := HM1.out.size; have := (HR1.out.keep m1).lt; omega
  have hwr : IntKind.i64.wrap (-s.window) = -s.window := IntWalk.i64_in _ (by omega)
  have d1 : decide (-s.window ≤ lo) = true := by simpa using q1
  have d2 : decide (hi ≤ s.window) = true := by simpa using q2
  clear HRL HT HZ hE hmin HR1 m1
  go_wp2_with fail
  go_ret2
  exact ⟨rfl, HM1.out.alloc _⟩
end Go.Proofs.YtodmbcoobjcooaaDoor

namespace Go.Proofs.YtodmbcoobjcooaaDoor
open Go Go.RowKit Go.Shelf
attribute [local go_sem] Oper.semAt_some
/-- A system with one tie more. -/
def moreS (s : Sy) (t : Ti) : Sy := ⟨s.tracks, s.ties ++ [t], s.window⟩
theorem more_ok {s : Sy} {t : Ti} (h : Ok (moreS s t)) : Ok s := by
  obtain ⟨h1, h2, h3, h4, h5, h6⟩ := checkE_ok h
  have h7 : s.ties.length + 1 ≤ 400 := by simpa [moreS] using h2
  have h8 : s.tracks.length ≤ 64 := h1
  have h9 : s.tracks.all trackB = true := List.all_eq_true.2 h3
  have ht : tiesE s s.ties = 0 := by
    have k : tiesE s (s.ties ++ [t]) = 0 := h4
    unfold tiesE at k ⊢
    by_cases c1 : s.ties.any (tieNone s) = true
    · rw [if_pos (by rw [List.any_append, c1]; rfl)] at k
      cases k
    · rw [if_neg c1]
      by_cases c2 : s.ties.any tieArg = true
      · by_cases c3 : (s.ties ++ [t]).any (tieNone s) = true
        · rw [if_pos c3] at k
          cases k
        · rw [if_neg c3, if_pos (by rw [List.any_append, c2]; rfl)] at k
          cases k
      · rw [if_neg c2]
  unfold Ok checkE
  have hw : wiB s.window 0 120 = true := by
    have a1 : 0 ≤ s.window := h5
    have a2 : s.window ≤ 120 := h6
    simp [wiB, a1, a2]
  rw [if_neg (by omega), if_neg (by simp [h9]), if_neg (by simp [ht]), if_neg (by simp [hw])]
theorem more_sub (s : Sy) (t : Ti) : ∀ e, e ∈ egs s → e ∈ egs (moreS s t) := by
  intro e he
  obtain ⟨b, hb, rfl⟩ := List.mem_map.1 he
  refine List.mem_map.2 ⟨b, ?_, rfl⟩
  unfold bnds at hb ⊢
  rcases List.mem_append.1 hb with h | h
  · exact List.mem_append.2 (.inl h)
  · refine List.mem_append.2 (.inr ?_)
    unfold tiesL at h ⊢
    obtain ⟨i, hi, hm⟩ := List.mem_flatMap.1 h
    have hi' : i < s.ties.length := List.mem_range.1 hi
    have e1 : tiAt (moreS s t) i = tiAt s i := by
      unfold tiAt moreS
      rw [List.getElem?_append_left hi']
    refine List.mem_flatMap.2 ⟨i, List.mem_range.2 (by simp [moreS]; omega), ?_⟩
    unfold thereB backB at hm ⊢
    rw [e1]
    exact hm
theorem more_closes {s : Sy} {t : Ti} (h : Closes (egs (moreS s t))) : Closes (egs s) := by
  obtain ⟨p, hp⟩ := h
  exact ⟨p, fun e he => hp e (more_sub s t e he)⟩
theorem more_err {s : Sy} {t : Ti} {l : List Rf} (h : ErrP (moreS s t) l 0) {e : Int} (k : ErrP s l e) : e = 0 := by
  obtain ⟨h1, h2⟩ := h.zero
  obtain ⟨h3, h4⟩ := linesE_ok.1 h1
  exact k.of_zero (linesE_ok.2 ⟨more_ok h3, h4⟩) (more_closes h2)
theorem more_min {s : Sy} {t : Ti} {u v : Nat} {m k : Int} (h : MinW (egs s) u v m) (h2 : MinW (egs (moreS s t)) u v k) : k ≤ m := h2.2 _ (h.1.sub (more_sub s t))
/-- What Must answers. -/
def MustP (s : Sy) (a b : Rf) (m : Bool) (er : Int) : Prop := ErrP s [a, b] er ∧ (er = 0 → ∃ lo hi, MinW (egs s) (plc s a) (plc s b) hi ∧ MinW (egs s) (plc s b) (plc s a) (-lo) ∧ (m = true ↔ -s.window ≤ lo ∧ hi ≤ s.window))
set_option maxRecDepth 100000 in
set_option maxHeartbeats 4000000 in
theorem ck_MustG (s : Sy) (A D : Option Addr) (c d : Nat) (w : World) (hM : SysM w A D s) (hbeg : BegA w) (a b : Rf) :
    Calls Tryd.prog 44 #[.agg #[.slice A s.tracks.length c, .slice D s.ties.length d, .int .i64 s.window], .agg #[.int .i64 a.log, .int .i64 a.line], .agg #[.int .i64 b.log, .int .i64 b.line]] w fun e w' => ∃ m er, e = .returned (.tuple #[.bool m, .int .i64 er]) ∧ New w w' ∧ MustP s a b m er := by
  have HW : Hid (∀ er, ErrP s [a, b] er → er = 0 → 0 ≤ s.window ∧ s.window ≤ 120) := Lib.hid fun er h h0 => by
    subst h0
    exact (checkE_ok (linesE_ok.1 h.zero.1).1).2.2.2.2
  have HRL : Hid (∀ w', New w w' → _) := Lib.hid fun w' h => ck_RelationG s A D c d w' (hM.keep h) ⟨h.cellOf hbeg.1, h.cellOf hbeg.2⟩ a b
  have HP : Hid (∀ lo hi er m, AnsP s [a, b] (plc s a) (plc s b) lo hi er → (er = 0 → (m = true ↔ -s.window ≤ lo ∧ hi ≤ s.window)) → MustP s a b m er) := Lib.hid fun lo hi er m h hm => ⟨h.1, fun h0 => ⟨lo, hi, (h.2.2 h0).1, (h.2.2 h0).2, hm h0⟩⟩
  generalize hPP : MustP s a b = PP at *
  clear hPP
  obtain ⟨al, an⟩ := a
  obtain ⟨bl, bn⟩ := b
  have n3 := (((New.refl w).alloc (.cells #[.slice A s.tracks.length c, .slice D s.ties.length d, .int .i64 s.window] 25)).alloc (.cells #[.int .i64 al, .int .i64 an] 53)).alloc (.cells #[.int .i64 bl, .int .i64 bn] 53)
  have r1 := (RowIs.new w 25 [.slice A s.tracks.length c, .slice D s.ties.length d, .int .i64 s.window]).keep (((New.refl _).alloc (.cells #[.int .i64 al, .int .i64 an] 53)).alloc (.cells #[.int .i64 bl, .int .i64 bn] 53))
  have HN3 := Lib.hid n3
  have HR1 := Lib.hid r1
  clear n3 r1 hM hbeg
  go_enter Tryd.func44, Tryd.ntmps44
  go_wp2_with fail
  refine (HRL.out _ HN3.out).mono ?_
  rintro e w1 ⟨lo, hi, er, rfl, m1, hans⟩
  have c2 := (HR1.out.keep m1).cell (i := 2) rfl
  have HM1 := Lib.hid (HN3.out.trans m1)
  have hbl : w.heap.size < w1.heap.size := by have := HM1.out.size; have := (HR1.out.keep m1).lt; omega
  have HA := Lib.hid hans
  have hb := hans.2.1
  clear hans m1 HR1 HRL
  by_cases he : er = 0
  · have hw := HW.out er HA.out.1 he
    subst he
    have hwr : IntKind.i64.wrap (-s.window) = -s.window := IntWalk.i64_in _ (by omega)
    by_cases q1 : -s.window ≤ lo
    · have d1 : decide (-s.window ≤ lo) = true := by simpa using q1
      by_cases q2 : hi ≤ s.window
      · have d2 : decide (hi ≤ s.window) = true := by simpa using q2
        go_wp2_with fail
        go_ret2
        exact ⟨_, _, rfl, HM1.out.alloc _, HP.out lo hi 0 _ HA.out (fun _ => ⟨fun _ => ⟨q1, q2⟩, fun _ => rfl⟩)⟩
      · have d2 : decide (hi ≤ s.window) = false := by simpa using q2
        go_wp2_with fail
        go_ret2
        exact ⟨_, _, rfl, HM1.out.alloc _, HP.out lo hi 0 _ HA.out (fun _ => ⟨fun h => (by cases h), fun h => (by have := h.2; omega)⟩)⟩
    · have d1 : decide (-s.window ≤ lo) = false := by simpa using q1
      go_wp2_with fail
      go_ret2
      exact ⟨_, _, rfl, HM1.out.alloc _, HP.out lo hi 0 _ HA.out (fun _ => ⟨fun h => (by cases h), fun h => (by have := h.1; omega)⟩)⟩
  · have d0 : (er == 0) = false := by simpa using he
    go_wp2_with fail
    go_ret2
    exact ⟨_, _, rfl, HM1.out.alloc _, HP.out lo hi er _ HA.out (fun h => absurd h he)⟩
/-- What May answers. -/
def MayP (s : Sy) (a b : Rf) (m : Bool) (er : Int) : Prop := ErrP s [a, b] er ∧ (er = 0 → ∃ lo hi, MinW (egs s) (plc s a) (plc s b) hi ∧ MinW (egs s) (plc s b) (plc s a) (-lo) ∧ (m = true ↔ lo ≤ s.window ∧ -s.window ≤ hi))
set_option maxRecDepth 100000 in
set_option maxHeartbeats 4000000 in
theorem ck_MayG (s : Sy) (A D : Option Addr) (c d : Nat) (w : World) (hM : SysM w A D s) (hbeg : BegA w) (a b : Rf) :
    Calls Tryd.prog 42 #[.agg #[.slice A s.tracks.length c, .slice D s.ties.length d, .int .i64 s.window], .agg #[.int .i64 a.log, .int .i64 a.line], .agg #[.int .i64 b.log, .int .i64 b.line]] w fun e w' => ∃ m er, e = .returned (.tuple #[.bool m, .int .i64 er]) ∧ New w w' ∧ MayP s a b m er := by
  have HW : Hid (∀ er, ErrP s [a, b] er → er = 0 → 0 ≤ s.window ∧ s.window ≤ 120) := Lib.hid fun er h h0 => by
    subst h0
    exact (checkE_ok (linesE_ok.1 h.zero.1).1).2.2.2.2
  have HRL : Hid (∀ w', New w w' → _) := Lib.hid fun w' h => ck_RelationG s A D c d w' (hM.keep h) ⟨h.cellOf hbeg.1, h.cellOf hbeg.2⟩ a b
  have HP : Hid (∀ lo hi er m, AnsP s [a, b] (plc s a) (plc s b) lo hi er → (er = 0 → (m = true ↔ lo ≤ s.window ∧ -s.window ≤ hi)) → MayP s a b m er) := Lib.hid fun lo hi er m h hm => ⟨h.1, fun h0 => ⟨lo, hi, (h.2.2 h0).1, (h.2.2 h0).2, hm h0⟩⟩
  generalize hPP : MayP s a b = PP at *
  clear hPP
  obtain ⟨al, an⟩ := a
  obtain ⟨bl, bn⟩ := b
  have n3 := (((New.refl w).alloc (.cells #[.slice A s.tracks.length c, .slice D s.ties.length d, .int .i64 s.window] 25)).alloc (.cells #[.int .i64 al, .int .i64 an] 53)).alloc (.cells #[.int .i64 bl, .int .i64 bn] 53)
  have r1 := (RowIs.new w 25 [.slice A s.tracks.length c, .slice D s.ties.length d, .int .i64 s.window]).keep (((New.refl _).alloc (.cells #[.int .i64 al, .int .i64 an] 53)).alloc (.cells #[.int .i64 bl, .int .i64 bn] 53))
  have HN3 := Lib.hid n3
  have HR1 := Lib.hid r1
  clear n3 r1 hM hbeg
  go_enter Tryd.func42, Tryd.ntmps42
  go_wp2_with fail
  refine (HRL.out _ HN3.out).mono ?_
  rintro e w1 ⟨lo, hi, er, rfl, m1, hans⟩
  have c2 := (HR1.out.keep m1).cell (i := 2) rfl
  have HM1 := Lib.hid (HN3.out.trans m1)
  have hbl : w.heap.size < w1.heap.size := by have := HM1.out.size; have := (HR1.out.keep m1).lt; omega
  have HA := Lib.hid hans
  have hb := hans.2.1
  clear hans m1 HR1 HRL
  by_cases he : er = 0
  · have hw := HW.out er HA.out.1 he
    subst he
    have hwr : IntKind.i64.wrap (-s.window) = -s.window := IntWalk.i64_in _ (by omega)
    by_cases q1 : lo ≤ s.window
    · have d1 : decide (lo ≤ s.window) = true := by simpa using q1
      by_cases q2 : -s.window ≤ hi
      · have d2 : decide (-s.window ≤ hi) = true := by simpa using q2
        go_wp2_with fail
        go_ret2
        exact ⟨_, _, rfl, HM1.out.alloc _, HP.out lo hi 0 _ HA.out (fun _ => ⟨fun _ => ⟨q1, q2⟩, fun _ => rfl⟩)⟩
      · have d2 : decide (-s.window ≤ hi) = false := by simpa using q2
        go_wp2_with fail
        go_ret2
        exact ⟨_, _, rfl, HM1.out.alloc _, HP.out lo hi 0 _ HA.out (fun _ => ⟨fun h => (by cases h), fun h => (by have := h.2; omega)⟩)⟩
    · have d1 : decide (lo ≤ s.window) = false := by simpa using q1
      go_wp2_with fail
      go_ret2
      exact ⟨_, _, rfl, HM1.out.alloc _, HP.out lo hi 0 _ HA.out (fun _ => ⟨fun h => (by cases h), fun h => (by have := h.1; omega)⟩)⟩
  · have d0 : (er == 0) = false := by simpa using he
    go_wp2_with fail
    go_ret2
    exact ⟨_, _, rfl, HM1.out.alloc _, HP.out lo hi er _ HA.out (fun h => absurd h he)⟩
end Go.Proofs.YtodmbcoobjcooaaDoor
