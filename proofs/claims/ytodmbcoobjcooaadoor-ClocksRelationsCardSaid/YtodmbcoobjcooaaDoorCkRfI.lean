/-
  The specification: Interval, Relation. Condition: the system lies in memory.
-/
import Derived.Test.YtodmbcoobjcooaaDoorCkRfQ
namespace Go.Proofs.YtodmbcoobjcooaaDoor
open Go Go.RowKit Go.Shelf
attribute [local go_sem] Oper.semAt_some
set_option maxRecDepth 100000 in
set_option maxHeartbeats 8000000 in
theorem rf_Interval (s : Sy) (A D : Option Addr) (c d : Nat) (w : World) (hM : SysM w A D s) (r : Rf) :
    Calls Tryd.prog 37 #[.agg #[.slice A s.tracks.length c, .slice D s.ties.length d, .int .i64 s.window], .agg #[.int .i64 r.log, .int .i64 r.line]] w fun e w' => e = .returned (.tuple #[.agg #[.int .i64 (ivLo s r), .int .i64 (ivHi s r)], .int .i64 (askE s [r])]) ∧ New w w' := by
  obtain ⟨rl, rn⟩ := r
  dsimp only
  have s0 := (New.refl w).alloc (.cells #[.slice A s.tracks.length c, .slice D s.ties.length d, .int .i64 s.window] 25)
  have s1 := (New.refl (w.alloc (.cells #[.slice A s.tracks.length c, .slice D s.ties.length d, .int .i64 s.window] 25))).alloc (.cells #[.int .i64 rl, .int .i64 rn] 53)
  have s2 := (New.refl ((w.alloc (.cells #[.slice A s.tracks.length c, .slice D s.ties.length d, .int .i64 s.window] 25)).alloc (.cells #[.int .i64 rl, .int .i64 rn] 53))).alloc (.cells #[.int .i64 0, .int .i64 0] 55)
  have nA := ((s0.trans s1).trans s2)
  have r0 := (RowIs.new w 25 [.slice A s.tracks.length c, .slice D s.ties.length d, .int .i64 s.window]).keep (s1.trans s2)
  have r1 := (RowIs.new (w.alloc (.cells #[.slice A s.tracks.length c, .slice D s.ties.length d, .int .i64 s.window] 25)) 53 [.int .i64 rl, .int .i64 rn]).keep s2
  have r2 := (RowIs.new ((w.alloc (.cells #[.slice A s.tracks.length c, .slice D s.ties.length d, .int .i64 s.window] 25)).alloc (.cells #[.int .i64 rl, .int .i64 rn] 53)) 55 [.int .i64 0, .int .i64 0])
  simp only [World.size_alloc] at r1 r2
  have s3 := (New.refl (((w.alloc (.cells #[.slice A s.tracks.length c, .slice D s.ties.length d, .int .i64 s.window] 25)).alloc (.cells #[.int .i64 rl, .int .i64 rn] 53)).alloc (.cells #[.int .i64 0, .int .i64 0] 55))).alloc (.cells #[.int .i64 rl, .int .i64 rn] 53)
  have r3 := RowIs.new (((w.alloc (.cells #[.slice A s.tracks.length c, .slice D s.ties.length d, .int .i64 s.window] 25)).alloc (.cells #[.int .i64 rl, .int .i64 rn] 53)).alloc (.cells #[.int .i64 0, .int .i64 0] 55)) 53 [.int .i64 rl, .int .i64 rn]
  simp only [World.size_alloc] at r3
  have HAS := Lib.hid (rf_asked s [⟨rl, rn⟩] A D (some ⟨w.heap.size + 1 + 1 + 1, 0, none⟩) c d 1 _ (hM.keep (nA.trans s3)) (RfsA.row r3 (by simp)))
  have HM := Lib.hid hM
  have HR0 := Lib.hid (r0.keep s3)
  have HR1 := Lib.hid (r1.keep s3)
  have HR2 := Lib.hid (r2.keep s3)
  have HN := Lib.hid (nA.trans s3)
  have c0 := r0.cell (i := 0) rfl
  have c1 := r0.cell (i := 1) rfl
  have c2 := r0.cell (i := 2) rfl
  have d0 := r1.cell (i := 0) rfl
  have d1 := r1.cell (i := 1) rfl
  clear s0 s1 s2 s3 nA r0 r1 r2 r3 hM
  go_enter Tryd.func37, Tryd.ntmps37
  go_wp2_with fail
  refine HAS.out.mono ?_
  rintro e w1 ⟨rfl, m1⟩
  have HN1 := Lib.hid (HN.out.trans m1)
  have HX0 := Lib.hid (HR0.out.keep m1)
  have HX1 := Lib.hid (HR1.out.keep m1)
  have HX2 := Lib.hid (HR2.out.keep m1)
  clear c0 c1 c2 d0 d1 m1 HR0 HR1 HR2 HAS HN
  have HI := Lib.hid (iv_in s ⟨rl, rn⟩)
  by_cases he : askE s [⟨rl, rn⟩] = 0
  · obtain ⟨hle, hc⟩ := askE_zero he
    obtain ⟨hs, hl⟩ := linesE_ok.1 hle
    have HS := Lib.hid hs
    have HR := Lib.hid (hl ⟨rl, rn⟩ (by simp))
    have HE := Lib.hid he
    have hx : ivLo s ⟨rl, rn⟩ = -mnW (egs s) (plc s ⟨rl, rn⟩) 0 := by unfold ivLo loF; rw [if_pos he]
    have hy : ivHi s ⟨rl, rn⟩ = mnW (egs s) 0 (plc s ⟨rl, rn⟩) := by unfold ivHi hiF; rw [if_pos he]
    have HRE : Hid (∀ w', New w w' → Calls Tryd.prog 87 #[.agg #[.slice A s.tracks.length c, .slice D s.ties.length d, .int .i64 s.window], .int .i64 0, .int .i64 (plc s ⟨rl, rn⟩)] w' fun e w'' => e = .returned (.agg #[.int .i64 (-mnW (egs s) (plc s ⟨rl, rn⟩) 0), .int .i64 (mnW (egs s) 0 (plc s ⟨rl, rn⟩))]) ∧ New w' w'') := Lib.hid fun w' h => rf_relation s hs hc 0 (plc s ⟨rl, rn⟩) (nPl_pos s) (plc_lt (.inr HR.out)) A D c d w' (HM.out.keep h)
    rw [← hx, ← hy] at HRE
    have HSD : Hid (∀ w', New w1 w' → (fun w' => (w'.cell? ⟨w.heap.size, 0, none⟩ = some (.slice A s.tracks.length c) ∧ w'.cell? ⟨w.heap.size, 1, none⟩ = some (.slice D s.ties.length d) ∧ w'.cell? ⟨w.heap.size, 2, none⟩ = some (.int .i64 s.window)) ∧ w'.cell? ⟨w.heap.size + 1, 0, none⟩ = some (.int .i64 rl) ∧ w'.cell? ⟨w.heap.size + 1, 1, none⟩ = some (.int .i64 rn)) w') := Lib.hid fun w' h => ⟨⟨(HX0.out.keep h).cell rfl, (HX0.out.keep h).cell rfl, (HX0.out.keep h).cell rfl⟩, (HX1.out.keep h).cell rfl, (HX1.out.keep h).cell rfl⟩
    dsimp only at HSD
    generalize hxx : ivLo s ⟨rl, rn⟩ = x at *
    generalize hyy : ivHi s ⟨rl, rn⟩ = y at *
    have HXX := Lib.hid hxx
    have HYY := Lib.hid hyy
    clear hle hc hs hl he hx hy hxx hyy
    rw [HE.out]
    go_wp2_with fail
    refine region_plain (by kernel_rfl) (wpAny_of_held (S := (fun w' => (w'.cell? ⟨w.heap.size, 0, none⟩ = some (.slice A s.tracks.length c) ∧ w'.cell? ⟨w.heap.size, 1, none⟩ = some (.slice D s.ties.length d) ∧ w'.cell? ⟨w.heap.size, 2, none⟩ = some (.int .i64 s.window)) ∧ w'.cell? ⟨w.heap.size + 1, 0, none⟩ = some (.int .i64 rl) ∧ w'.cell? ⟨w.heap.size + 1, 1, none⟩ = some (.int .i64 rn))) _ _ _ _ ?_)
    change wpAnyH _ _ _ _ _ _ _ _ w1.drew
    have hS := HSD.out w1.drew (New.refl w1).drew
    refine wpAnyH_take (i := 0) (v := ?_) rfl (by kernel_rfl) (by kernel_rfl) (by kernel_rfl) (fun _ _ _ h => h) (Or.inl ⟨by rfl, fun w' hS' => ?_⟩) hS ?_
    rotate_left
    · obtain ⟨⟨s0, s1, s2⟩, s3, s4⟩ := hS'
      go_simp
      try rfl
    try simp only [List.getElem_toArray, List.getElem_cons_zero, Act.put, List.setIfInBounds_toArray, List.set_cons_zero, List.set_cons_succ]
    refine wpAnyH_take (i := 1) (v := ?_) rfl (by kernel_rfl) (by kernel_rfl) (by kernel_rfl) (fun _ _ _ h => h) (Or.inl ⟨by rfl, fun w' hS' => ?_⟩) hS ?_
    rotate_left
    · obtain ⟨⟨s0, s1, s2⟩, s3, s4⟩ := hS'
      go_simp
      try rfl
    try simp only [List.getElem_toArray, List.getElem_cons_zero, List.getElem_cons_succ, Act.put, List.setIfInBounds_toArray, List.set_cons_zero, List.set_cons_succ]
    refine wpAnyH_take (i := 3) (v := ?_) rfl (by kernel_rfl) (by kernel_rfl) (by kernel_rfl) (fun _ _ _ h => h) (Or.inl ⟨by rfl, fun w' hS' => ?_⟩) hS ?_
    rotate_left
    · obtain ⟨⟨s0, s1, s2⟩, s3, s4⟩ := hS'
      go_simp
      try rfl
    try simp only [List.getElem_toArray, List.getElem_cons_zero, List.getElem_cons_succ, Act.put, List.setIfInBounds_toArray, List.set_cons_zero, List.set_cons_succ]
    clear hS
    refine wpAnyH_ready (rs := [2]) (by kernel_rfl) (by simp) ?_
    refine AllReadyH.cons rfl (fun K hK => ?_) AllReadyH.nil
    go_simp
    refine (rf_spots s HS.out A D c d _ (HM.out.keep (HN1.out.trans ((New.refl w1).drew)))).mono ?_
    rintro e w7 ⟨FA, fc, rfl, hF, mw7⟩
    have nw7 := ((New.refl w1).drew).trans mw7
    refine hK.out _ _ (HSD.out w7 nw7) (fun hS => ?_)
    clear hK K
    try simp only [List.getElem_toArray, List.getElem_cons_zero, List.getElem_cons_succ, Act.put, List.setIfInBounds_toArray, List.set_cons_zero, List.set_cons_succ]
    clear hS
    refine wpAnyH_ready (rs := [4]) (by kernel_rfl) (by simp) ?_
    refine AllReadyH.cons rfl (fun K hK => ?_) AllReadyH.nil
    go_simp
    refine (rf_of s HS.out FA fc (nPl s) ⟨rl, rn⟩ (.inr HR.out) _ hF).mono ?_
    rintro e w8 ⟨rfl, mw8⟩
    have nw8 := (nw7).trans mw8
    refine hK.out _ _ (HSD.out w8 nw8) (fun hS => ?_)
    clear hK K
    try simp only [List.getElem_toArray, List.getElem_cons_zero, List.getElem_cons_succ, Act.put, List.setIfInBounds_toArray, List.set_cons_zero, List.set_cons_succ]
    clear hS
    refine wpAnyH_ready (rs := [5]) (by kernel_rfl) (by simp) ?_
    refine AllReadyH.cons rfl (fun K hK => ?_) AllReadyH.nil
    go_simp
    refine (HRE.out _ (HN1.out.trans (nw8))).mono ?_
    rintro e w9 ⟨rfl, mw9⟩
    have nw9 := (nw8).trans mw9
    refine hK.out _ _ (HSD.out w9 nw9) (fun hS => ?_)
    clear hK K
    try simp only [List.getElem_toArray, List.getElem_cons_zero, List.getElem_cons_succ, Act.put, List.setIfInBounds_toArray, List.set_cons_zero, List.set_cons_succ]
    have z2 := HX2.out.keep nw9
    have z0 := z2.cell (i := 0) rfl
    have z1 := z2.cell (i := 1) rfl
    have f0 := z2.free 0
    have f1 := z2.free 1
    have y0 := ((HX0.out.keep nw9).other (k := w.heap.size + 1 + 1) (by omega) 0 (.int .i64 x)).other (k := w.heap.size + 1 + 1) (by omega) 1 (.int .i64 y)
    have y1 := ((HX1.out.keep nw9).other (k := w.heap.size + 1 + 1) (by omega) 0 (.int .i64 x)).other (k := w.heap.size + 1 + 1) (by omega) 1 (.int .i64 y)
    clear hS
    refine wpAnyH_ready (rs := [6]) (by kernel_rfl) (by simp) ?_
    refine AllReadyH.cons rfl (fun K hK => ?_) AllReadyH.nil
    go_simp
    refine hK.out _ _ (⟨⟨y0.cell rfl, y0.cell rfl, y0.cell rfl⟩, y1.cell rfl, y1.cell rfl⟩) (fun hS => ?_)
    clear hK K
    try simp only [List.getElem_toArray, List.getElem_cons_zero, List.getElem_cons_succ, Act.put, List.setIfInBounds_toArray, List.set_cons_zero, List.set_cons_succ]
    refine wpAnyH_take (i := 7) (v := ?_) rfl (by kernel_rfl) (by kernel_rfl) (by kernel_rfl) (fun _ _ _ h => h) (Or.inl ⟨by rfl, fun w' hS' => ?_⟩) hS ?_
    rotate_left
    · obtain ⟨⟨s0, s1, s2⟩, s3, s4⟩ := hS'
      go_simp
      try rfl
    try simp only [List.getElem_toArray, List.getElem_cons_zero, List.getElem_cons_succ, Act.put, List.setIfInBounds_toArray, List.set_cons_zero, List.set_cons_succ]
    clear hS
    refine wpAnyH_done (by kernel_rfl) ?_ _
    unfold NormQ
    dsimp only [Exit.then]
    have HZ2 := Lib.hid ((z2.put 0 (.int .i64 x)).put 1 (.int .i64 y))
    have HNZ := Lib.hid (((HN1.out.trans nw9).setCell (p := ⟨w.heap.size + 1 + 1, 0, none⟩) (by show w.heap.size ≤ w.heap.size + 1 + 1; omega) (.int .i64 x)).setCell (p := ⟨w.heap.size + 1 + 1, 1, none⟩) (by show w.heap.size ≤ w.heap.size + 1 + 1; omega) (.int .i64 y))
    clear z2 z0 z1 f0 f1 y0 y1
    have e0 := HZ2.out.cell (i := 0) rfl
    have e1 := HZ2.out.cell (i := 1) rfl
    generalize (w9.setCell ⟨w.heap.size + 1 + 1, 0, none⟩ (.int .i64 x)).setCell ⟨w.heap.size + 1 + 1, 1, none⟩ (.int .i64 y) = W9 at *
    go_wp2_with fail
    refine bodyPost_ret (v := .tuple #[.agg #[.int .i64 x, .int .i64 y], .int .i64 0]) (by simp [results, Tryd.results37]; go_simp) rfl ?_
    exact ⟨by rw [HXX.out, HYY.out, HE.out], HNZ.out⟩
  · have hne : (askE s [⟨rl, rn⟩] != 0) = true := by simp [he]
    have hx : ivLo s ⟨rl, rn⟩ = 0 := by unfold ivLo; rw [if_neg he]
    have hy : ivHi s ⟨rl, rn⟩ = 0 := by unfold ivHi; rw [if_neg he]
    have HXX := Lib.hid hx
    have HYY := Lib.hid hy
    clear hx hy he
    have z0 := HX2.out.cell (i := 0) rfl
    have z1 := HX2.out.cell (i := 1) rfl
    have f0 := HX2.out.free 0
    have f1 := HX2.out.free 1
    have HZ2 := Lib.hid ((HX2.out.put 0 (.int .i64 0)).put 1 (.int .i64 0))
    have HNZ := Lib.hid ((HN1.out.setCell (p := ⟨w.heap.size + 1 + 1, 0, none⟩) (by show w.heap.size ≤ w.heap.size + 1 + 1; omega) (.int .i64 0)).setCell (p := ⟨w.heap.size + 1 + 1, 1, none⟩) (by show w.heap.size ≤ w.heap.size + 1 + 1; omega) (.int .i64 0))
    generalize hee : askE s [⟨rl, rn⟩] = er at *
    have HEE := Lib.hid hee
    clear hee
    go_wp2_with fail
    clear z0 z1 f0 f1
    have e0 := HZ2.out.cell (i := 0) rfl
    have e1 := HZ2.out.cell (i := 1) rfl
    generalize (w1.setCell ⟨w.heap.size + 1 + 1, 0, none⟩ (.int .i64 0)).setCell ⟨w.heap.size + 1 + 1, 1, none⟩ (.int .i64 0) = W9 at *
    refine bodyPost_ret (v := .tuple #[.agg #[.int .i64 0, .int .i64 0], .int .i64 er]) (by simp [results, Tryd.results37]; go_simp) rfl ?_
    exact ⟨by rw [HXX.out, HYY.out, HEE.out], HNZ.out⟩
set_option maxRecDepth 100000 in
set_option maxHeartbeats 8000000 in
theorem rf_Relation (s : Sy) (A D : Option Addr) (c d : Nat) (w : World) (hM : SysM w A D s) (a b : Rf) :
    Calls Tryd.prog 41 #[.agg #[.slice A s.tracks.length c, .slice D s.ties.length d, .int .i64 s.window], .agg #[.int .i64 a.log, .int .i64 a.line], .agg #[.int .i64 b.log, .int .i64 b.line]] w fun e w' => e = .returned (.tuple #[.agg #[.int .i64 (rlLo s a b), .int .i64 (rlHi s a b)], .int .i64 (askE s [a, b])]) ∧ New w w' := by
  obtain ⟨al, an⟩ := a
  obtain ⟨bl, bn⟩ := b
  dsimp only
  have s0 := (New.refl w).alloc (.cells #[.slice A s.tracks.length c, .slice D s.ties.length d, .int .i64 s.window] 25)
  have s1 := (New.refl (w.alloc (.cells #[.slice A s.tracks.length c, .slice D s.ties.length d, .int .i64 s.window] 25))).alloc (.cells #[.int .i64 al, .int .i64 an] 53)
  have s2 := (New.refl ((w.alloc (.cells #[.slice A s.tracks.length c, .slice D s.ties.length d, .int .i64 s.window] 25)).alloc (.cells #[.int .i64 al, .int .i64 an] 53))).alloc (.cells #[.int .i64 bl, .int .i64 bn] 53)
  have s3 := (New.refl (((w.alloc (.cells #[.slice A s.tracks.length c, .slice D s.ties.length d, .int .i64 s.window] 25)).alloc (.cells #[.int .i64 al, .int .i64 an] 53)).alloc (.cells #[.int .i64 bl, .int .i64 bn] 53))).alloc (.cells #[.int .i64 0, .int .i64 0] 55)
  have nA := (((s0.trans s1).trans s2).trans s3)
  have r0 := (RowIs.new w 25 [.slice A s.tracks.length c, .slice D s.ties.length d, .int .i64 s.window]).keep ((s1.trans s2).trans s3)
  have r1 := (RowIs.new (w.alloc (.cells #[.slice A s.tracks.length c, .slice D s.ties.length d, .int .i64 s.window] 25)) 53 [.int .i64 al, .int .i64 an]).keep (s2.trans s3)
  have r2 := (RowIs.new ((w.alloc (.cells #[.slice A s.tracks.length c, .slice D s.ties.length d, .int .i64 s.window] 25)).alloc (.cells #[.int .i64 al, .int .i64 an] 53)) 53 [.int .i64 bl, .int .i64 bn]).keep s3
  have r3 := (RowIs.new (((w.alloc (.cells #[.slice A s.tracks.length c, .slice D s.ties.length d, .int .i64 s.window] 25)).alloc (.cells #[.int .i64 al, .int .i64 an] 53)).alloc (.cells #[.int .i64 bl, .int .i64 bn] 53)) 55 [.int .i64 0, .int .i64 0])
  simp only [World.size_alloc] at r1 r2 r3
  have s4 := (New.refl ((((w.alloc (.cells #[.slice A s.tracks.length c, .slice D s.ties.length d, .int .i64 s.window] 25)).alloc (.cells #[.int .i64 al, .int .i64 an] 53)).alloc (.cells #[.int .i64 bl, .int .i64 bn] 53)).alloc (.cells #[.int .i64 0, .int .i64 0] 55))).alloc (.cells #[.int .i64 al, .int .i64 an, .int .i64 bl, .int .i64 bn] 53)
  have r4 := RowIs.new ((((w.alloc (.cells #[.slice A s.tracks.length c, .slice D s.ties.length d, .int .i64 s.window] 25)).alloc (.cells #[.int .i64 al, .int .i64 an] 53)).alloc (.cells #[.int .i64 bl, .int .i64 bn] 53)).alloc (.cells #[.int .i64 0, .int .i64 0] 55)) 53 [.int .i64 al, .int .i64 an, .int .i64 bl, .int .i64 bn]
  simp only [World.size_alloc] at r4
  have HAS := Lib.hid (rf_asked s [⟨al, an⟩, ⟨bl, bn⟩] A D (some ⟨w.heap.size + 1 + 1 + 1 + 1, 0, none⟩) c d 2 _ (hM.keep (nA.trans s4)) (RfsA.row r4 (by simp)))
  have HM := Lib.hid hM
  have HR0 := Lib.hid (r0.keep s4)
  have HR1 := Lib.hid (r1.keep s4)
  have HR2 := Lib.hid (r2.keep s4)
  have HR3 := Lib.hid (r3.keep s4)
  have HN := Lib.hid (nA.trans s4)
  have c0 := r0.cell (i := 0) rfl
  have c1 := r0.cell (i := 1) rfl
  have c2 := r0.cell (i := 2) rfl
  have d0 := r1.cell (i := 0) rfl
  have d1 := r1.cell (i := 1) rfl
  have g0 := r2.cell (i := 0) rfl
  have g1 := r2.cell (i := 1) rfl
  clear s0 s1 s2 s3 s4 nA r0 r1 r2 r3 r4 hM
  go_enter Tryd.func41, Tryd.ntmps41
  go_wp2_with fail
  refine HAS.out.mono ?_
  rintro e w1 ⟨rfl, m1⟩
  have HN1 := Lib.hid (HN.out.trans m1)
  have HX0 := Lib.hid (HR0.out.keep m1)
  have HX1 := Lib.hid (HR1.out.keep m1)
  have HX2 := Lib.hid (HR2.out.keep m1)
  have HX3 := Lib.hid (HR3.out.keep m1)
  clear c0 c1 c2 d0 d1 g0 g1 m1 HR0 HR1 HR2 HR3 HAS HN
  by_cases he : askE s [⟨al, an⟩, ⟨bl, bn⟩] = 0
  · obtain ⟨hle, hc⟩ := askE_zero he
    obtain ⟨hs, hl⟩ := linesE_ok.1 hle
    have HS := Lib.hid hs
    have HRA := Lib.hid (hl ⟨al, an⟩ (by simp))
    have HRB := Lib.hid (hl ⟨bl, bn⟩ (by simp))
    have HE := Lib.hid he
    have hx : rlLo s ⟨al, an⟩ ⟨bl, bn⟩ = -mnW (egs s) (plc s ⟨bl, bn⟩) (plc s ⟨al, an⟩) := by unfold rlLo; rw [if_pos he]
    have hy : rlHi s ⟨al, an⟩ ⟨bl, bn⟩ = mnW (egs s) (plc s ⟨al, an⟩) (plc s ⟨bl, bn⟩) := by unfold rlHi; rw [if_pos he]
    have HRE : Hid (∀ w', New w w' → Calls Tryd.prog 87 #[.agg #[.slice A s.tracks.length c, .slice D s.ties.length d, .int .i64 s.window], .int .i64 (plc s ⟨al, an⟩), .int .i64 (plc s ⟨bl, bn⟩)] w' fun e w'' => e = .returned (.agg #[.int .i64 (-mnW (egs s) (plc s ⟨bl, bn⟩) (plc s ⟨al, an⟩)), .int .i64 (mnW (egs s) (plc s ⟨al, an⟩) (plc s ⟨bl, bn⟩))]) ∧ New w' w'') := Lib.hid fun w' h => rf_relation s hs hc _ _ (plc_lt (.inr HRA.out)) (plc_lt (.inr HRB.out)) A D c d w' (HM.out.keep h)
    rw [← hx, ← hy] at HRE
    generalize hxx : rlLo s ⟨al, an⟩ ⟨bl, bn⟩ = x at *
    generalize hyy : rlHi s ⟨al, an⟩ ⟨bl, bn⟩ = y at *
    have HXX := Lib.hid hxx
    have HYY := Lib.hid hyy
    clear hle hc hs hl he hx hy hxx hyy
    have c0 := HX0.out.cell (i := 0) rfl
    have c1 := HX0.out.cell (i := 1) rfl
    have c2 := HX0.out.cell (i := 2) rfl
    rw [HE.out]
    go_wp2_with fail
    refine (rf_spots s HS.out A D c d _ (HM.out.keep HN1.out)).mono ?_
    rintro e w5 ⟨FA, fc, rfl, hF, m5⟩
    have na := (New.refl w5).alloc (.cells #[.slice FA s.tracks.length fc, .int .i64 (nPl s)] 102)
    have HX := Lib.hid (RowIs.new w5 102 [.slice FA s.tracks.length fc, .int .i64 (nPl s)])
    have HF := Lib.hid (hF.keep na)
    have HN2 := Lib.hid (HN1.out.trans (m5.trans na))
    have hq := HX3.out.lt
    have hq2 := m5.size
    have hq3 : w.heap.size + 1 + 1 + 1 ≠ w5.heap.size := by omega
    replace HX0 := Lib.hid (HX0.out.keep (m5.trans na))
    replace HX1 := Lib.hid (HX1.out.keep (m5.trans na))
    replace HX2 := Lib.hid (HX2.out.keep (m5.trans na))
    replace HX3 := Lib.hid (HX3.out.keep (m5.trans na))
    clear c0 c1 c2 na m5 hF hq hq2 HN1
    go_wp2_with fail
    generalize w5.alloc (.cells #[.slice FA s.tracks.length fc, .int .i64 (nPl s)] 102) = w2 at *
    generalize w5.heap.size = X at *
    have HSD : Hid (∀ w', New w2 w' → (fun w' => (w'.cell? ⟨w.heap.size, 0, none⟩ = some (.slice A s.tracks.length c) ∧ w'.cell? ⟨w.heap.size, 1, none⟩ = some (.slice D s.ties.length d) ∧ w'.cell? ⟨w.heap.size, 2, none⟩ = some (.int .i64 s.window)) ∧ (w'.cell? ⟨w.heap.size + 1, 0, none⟩ = some (.int .i64 al) ∧ w'.cell? ⟨w.heap.size + 1, 1, none⟩ = some (.int .i64 an)) ∧ (w'.cell? ⟨w.heap.size + 1 + 1, 0, none⟩ = some (.int .i64 bl) ∧ w'.cell? ⟨w.heap.size + 1 + 1, 1, none⟩ = some (.int .i64 bn)) ∧ w'.cell? ⟨X, 0, none⟩ = some (.slice FA s.tracks.length fc) ∧ w'.cell? ⟨X, 1, none⟩ = some (.int .i64 (nPl s))) w') := Lib.hid fun w' h => ⟨⟨(HX0.out.keep h).cell rfl, (HX0.out.keep h).cell rfl, (HX0.out.keep h).cell rfl⟩, ⟨(HX1.out.keep h).cell rfl, (HX1.out.keep h).cell rfl⟩, ⟨(HX2.out.keep h).cell rfl, (HX2.out.keep h).cell rfl⟩, (HX.out.keep h).cell rfl, (HX.out.keep h).cell rfl⟩
    dsimp only at HSD
    refine region_plain (by kernel_rfl) (wpAny_of_held (S := (fun w' => (w'.cell? ⟨w.heap.size, 0, none⟩ = some (.slice A s.tracks.length c) ∧ w'.cell? ⟨w.heap.size, 1, none⟩ = some (.slice D s.ties.length d) ∧ w'.cell? ⟨w.heap.size, 2, none⟩ = some (.int .i64 s.window)) ∧ (w'.cell? ⟨w.heap.size + 1, 0, none⟩ = some (.int .i64 al) ∧ w'.cell? ⟨w.heap.size + 1, 1, none⟩ = some (.int .i64 an)) ∧ (w'.cell? ⟨w.heap.size + 1 + 1, 0, none⟩ = some (.int .i64 bl) ∧ w'.cell? ⟨w.heap.size + 1 + 1, 1, none⟩ = some (.int .i64 bn)) ∧ w'.cell? ⟨X, 0, none⟩ = some (.slice FA s.tracks.length fc) ∧ w'.cell? ⟨X, 1, none⟩ = some (.int .i64 (nPl s)))) _ _ _ _ ?_)
    change wpAnyH _ _ _ _ _ _ _ _ w2.drew
    have hS := HSD.out w2.drew (New.refl w2).drew
    refine wpAnyH_take (i := 0) (v := ?_) rfl (by kernel_rfl) (by kernel_rfl) (by kernel_rfl) (fun _ _ _ h => h) (Or.inl ⟨by rfl, fun w' hS' => ?_⟩) hS ?_
    rotate_left
    · obtain ⟨⟨s0, s1, s2⟩, ⟨s3, s4⟩, ⟨s5, s6⟩, s7, s8⟩ := hS'
      go_simp
      try rfl
    try simp only [List.getElem_toArray, List.getElem_cons_zero, Act.put, List.setIfInBounds_toArray, List.set_cons_zero, List.set_cons_succ]
    refine wpAnyH_take (i := 1) (v := ?_) rfl (by kernel_rfl) (by kernel_rfl) (by kernel_rfl) (fun _ _ _ h => h) (Or.inl ⟨by rfl, fun w' hS' => ?_⟩) hS ?_
    rotate_left
    · obtain ⟨⟨s0, s1, s2⟩, ⟨s3, s4⟩, ⟨s5, s6⟩, s7, s8⟩ := hS'
      go_simp
      try rfl
    try simp only [List.getElem_toArray, List.getElem_cons_zero, List.getElem_cons_succ, Act.put, List.setIfInBounds_toArray, List.set_cons_zero, List.set_cons_succ]
    refine wpAnyH_take (i := 2) (v := ?_) rfl (by kernel_rfl) (by kernel_rfl) (by kernel_rfl) (fun _ _ _ h => h) (Or.inl ⟨by rfl, fun w' hS' => ?_⟩) hS ?_
    rotate_left
    · obtain ⟨⟨s0, s1, s2⟩, ⟨s3, s4⟩, ⟨s5, s6⟩, s7, s8⟩ := hS'
      go_simp
      try rfl
    try simp only [List.getElem_toArray, List.getElem_cons_zero, List.getElem_cons_succ, Act.put, List.setIfInBounds_toArray, List.set_cons_zero, List.set_cons_succ]
    refine wpAnyH_take (i := 4) (v := ?_) rfl (by kernel_rfl) (by kernel_rfl) (by kernel_rfl) (fun _ _ _ h => h) (Or.inl ⟨by rfl, fun w' hS' => ?_⟩) hS ?_
    rotate_left
    · obtain ⟨⟨s0, s1, s2⟩, ⟨s3, s4⟩, ⟨s5, s6⟩, s7, s8⟩ := hS'
      go_simp
      try rfl
    try simp only [List.getElem_toArray, List.getElem_cons_zero, List.getElem_cons_succ, Act.put, List.setIfInBounds_toArray, List.set_cons_zero, List.set_cons_succ]
    refine wpAnyH_take (i := 5) (v := ?_) rfl (by kernel_rfl) (by kernel_rfl) (by kernel_rfl) (fun _ _ _ h => h) (Or.inl ⟨by rfl, fun w' hS' => ?_⟩) hS ?_
    rotate_left
    · obtain ⟨⟨s0, s1, s2⟩, ⟨s3, s4⟩, ⟨s5, s6⟩, s7, s8⟩ := hS'
      go_simp
      try rfl
    try simp only [List.getElem_toArray, List.getElem_cons_zero, List.getElem_cons_succ, Act.put, List.setIfInBounds_toArray, List.set_cons_zero, List.set_cons_succ]
    clear hS
    refine wpAnyH_ready (rs := [3]) (by kernel_rfl) (by simp) ?_
    refine AllReadyH.cons rfl (fun K hK => ?_) AllReadyH.nil
    go_simp
    refine (rf_of s HS.out FA fc (nPl s) ⟨al, an⟩ (.inr HRA.out) _ (HF.out.keep ((New.refl w2).drew))).mono ?_
    rintro e w7 ⟨rfl, mw7⟩
    have nw7 := ((New.refl w2).drew).trans mw7
    refine hK.out _ _ (HSD.out w7 nw7) (fun hS => ?_)
    clear hK K
    try simp only [List.getElem_toArray, List.getElem_cons_zero, List.getElem_cons_succ, Act.put, List.setIfInBounds_toArray, List.set_cons_zero, List.set_cons_succ]
    clear hS
    refine wpAnyH_ready (rs := [6]) (by kernel_rfl) (by simp) ?_
    refine AllReadyH.cons rfl (fun K hK => ?_) AllReadyH.nil
    go_simp
    refine (rf_of s HS.out FA fc (nPl s) ⟨bl, bn⟩ (.inr HRB.out) _ (HF.out.keep (nw7))).mono ?_
    rintro e w8 ⟨rfl, mw8⟩
    have nw8 := (nw7).trans mw8
    refine hK.out _ _ (HSD.out w8 nw8) (fun hS => ?_)
    clear hK K
    try simp only [List.getElem_toArray, List.getElem_cons_zero, List.getElem_cons_succ, Act.put, List.setIfInBounds_toArray, List.set_cons_zero, List.set_cons_succ]
    clear hS
    refine wpAnyH_ready (rs := [7]) (by kernel_rfl) (by simp) ?_
    refine AllReadyH.cons rfl (fun K hK => ?_) AllReadyH.nil
    go_simp
    refine (HRE.out _ (HN2.out.trans (nw8))).mono ?_
    rintro e w9 ⟨rfl, mw9⟩
    have nw9 := (nw8).trans mw9
    refine hK.out _ _ (HSD.out w9 nw9) (fun hS => ?_)
    clear hK K
    try simp only [List.getElem_toArray, List.getElem_cons_zero, List.getElem_cons_succ, Act.put, List.setIfInBounds_toArray, List.set_cons_zero, List.set_cons_succ]
    have z2 := HX3.out.keep nw9
    have z0 := z2.cell (i := 0) rfl
    have z1 := z2.cell (i := 1) rfl
    have f0 := z2.free 0
    have f1 := z2.free 1
    have y0 := ((HX0.out.keep nw9).other (k := w.heap.size + 1 + 1 + 1) (by omega) 0 (.int .i64 x)).other (k := w.heap.size + 1 + 1 + 1) (by omega) 1 (.int .i64 y)
    have y1 := ((HX1.out.keep nw9).other (k := w.heap.size + 1 + 1 + 1) (by omega) 0 (.int .i64 x)).other (k := w.heap.size + 1 + 1 + 1) (by omega) 1 (.int .i64 y)
    have y2 := ((HX2.out.keep nw9).other (k := w.heap.size + 1 + 1 + 1) (by omega) 0 (.int .i64 x)).other (k := w.heap.size + 1 + 1 + 1) (by omega) 1 (.int .i64 y)
    have y4 := ((HX.out.keep nw9).other (k := w.heap.size + 1 + 1 + 1) (by omega) 0 (.int .i64 x)).other (k := w.heap.size + 1 + 1 + 1) (by omega) 1 (.int .i64 y)
    clear hS
    refine wpAnyH_ready (rs := [8]) (by kernel_rfl) (by simp) ?_
    refine AllReadyH.cons rfl (fun K hK => ?_) AllReadyH.nil
    go_simp
    refine hK.out _ _ (⟨⟨y0.cell rfl, y0.cell rfl, y0.cell rfl⟩, ⟨y1.cell rfl, y1.cell rfl⟩, ⟨y2.cell rfl, y2.cell rfl⟩, y4.cell rfl, y4.cell rfl⟩) (fun hS => ?_)
    clear hK K
    try simp only [List.getElem_toArray, List.getElem_cons_zero, List.getElem_cons_succ, Act.put, List.setIfInBounds_toArray, List.set_cons_zero, List.set_cons_succ]
    refine wpAnyH_take (i := 9) (v := ?_) rfl (by kernel_rfl) (by kernel_rfl) (by kernel_rfl) (fun _ _ _ h => h) (Or.inl ⟨by rfl, fun w' hS' => ?_⟩) hS ?_
    rotate_left
    · obtain ⟨⟨s0, s1, s2⟩, ⟨s3, s4⟩, ⟨s5, s6⟩, s7, s8⟩ := hS'
      go_simp
      try rfl
    try simp only [List.getElem_toArray, List.getElem_cons_zero, List.getElem_cons_succ, Act.put, List.setIfInBounds_toArray, List.set_cons_zero, List.set_cons_succ]
    clear hS
    refine wpAnyH_done (by kernel_rfl) ?_ _
    unfold NormQ
    dsimp only [Exit.then]
    have HZ2 := Lib.hid ((z2.put 0 (.int .i64 x)).put 1 (.int .i64 y))
    have HNZ := Lib.hid (((HN2.out.trans nw9).setCell (p := ⟨w.heap.size + 1 + 1 + 1, 0, none⟩) (by show w.heap.size ≤ w.heap.size + 1 + 1 + 1; omega) (.int .i64 x)).setCell (p := ⟨w.heap.size + 1 + 1 + 1, 1, none⟩) (by show w.heap.size ≤ w.heap.size + 1 + 1 + 1; omega) (.int .i64 y))
    clear z2 z0 z1 f0 f1 y0 y1 y2 y4
    have e0 := HZ2.out.cell (i := 0) rfl
    have e1 := HZ2.out.cell (i := 1) rfl
    generalize (w9.setCell ⟨w.heap.size + 1 + 1 + 1, 0, none⟩ (.int .i64 x)).setCell ⟨w.heap.size + 1 + 1 + 1, 1, none⟩ (.int .i64 y) = W9 at *
    go_wp2_with fail
    refine bodyPost_ret (v := .tuple #[.agg #[.int .i64 x, .int .i64 y], .int .i64 0]) (by simp [results, Tryd.results41]; go_simp) rfl ?_
    exact ⟨by rw [HXX.out, HYY.out, HE.out], HNZ.out⟩
  · have hne : (askE s [⟨al, an⟩, ⟨bl, bn⟩] != 0) = true := by simp [he]
    have hx : rlLo s ⟨al, an⟩ ⟨bl, bn⟩ = 0 := by unfold rlLo; rw [if_neg he]
    have hy : rlHi s ⟨al, an⟩ ⟨bl, bn⟩ = 0 := by unfold rlHi; rw [if_neg he]
    have HXX := Lib.hid hx
    have HYY := Lib.hid hy
    clear hx hy he
    have z0 := HX3.out.cell (i := 0) rfl
    have z1 := HX3.out.cell (i := 1) rfl
    have f0 := HX3.out.free 0
    have f1 := HX3.out.free 1
    have HZ2 := Lib.hid ((HX3.out.put 0 (.int .i64 0)).put 1 (.int .i64 0))
    have HNZ := Lib.hid ((HN1.out.setCell (p := ⟨w.heap.size + 1 + 1 + 1, 0, none⟩) (by show w.heap.size ≤ w.heap.size + 1 + 1 + 1; omega) (.int .i64 0)).setCell (p := ⟨w.heap.size + 1 + 1 + 1, 1, none⟩) (by show w.heap.size ≤ w.heap.size + 1 + 1 + 1; omega) (.int .i64 0))
    generalize hee : askE s [⟨al, an⟩, ⟨bl, bn⟩] = er at *
    have HEE := Lib.hid hee
    clear hee
    go_wp2_with fail
    clear z0 z1 f0 f1
    have e0 := HZ2.out.cell (i := 0) rfl
    have e1 := HZ2.out.cell (i := 1) rfl
    generalize (w1.setCell ⟨w.heap.size + 1 + 1 + 1, 0, none⟩ (.int .i64 0)).setCell ⟨w.heap.size + 1 + 1 + 1, 1, none⟩ (.int .i64 0) = W9 at *
    refine bodyPost_ret (v := .tuple #[.agg #[.int .i64 0, .int .i64 0], .int .i64 er]) (by simp [results, Tryd.results41]; go_simp) rfl ?_
    exact ⟨by rw [HXX.out, HYY.out, HEE.out], HNZ.out⟩
end Go.Proofs.YtodmbcoobjcooaaDoor
