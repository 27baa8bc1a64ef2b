/-
  viewFrom and span of the program, at a system that closes. Condition: the system lies in memory.
-/
import Derived.Test.YtodmbcoobjcooaaDoorCkTurned
import Derived.Test.YtodmbcoobjcooaaDoorCkFirst
namespace Go.Proofs.YtodmbcoobjcooaaDoor
open Go Go.RowKit Go.Shelf
attribute [local go_sem] Oper.semAt_some
/-- The sums of a wave in memory. -/
def WSum (w : World) (g n : Nat) (d : Nat → Int) : Prop := ∃ x y sb, RowIs w g 151 [x, .slice (some ⟨sb, 0, none⟩) n n, y] ∧ RowIs w sb 3 (fnRow n d)
theorem WSum.keep {w w' : World} {g n : Nat} {d : Nat → Int} (h : WSum w g n d) (k : New w w') : WSum w' g n d := by
  obtain ⟨x, y, sb, h1, h2⟩ := h
  exact ⟨x, y, sb, h1.keep k, h2.keep k⟩
theorem WavA.wsum {w0 W : World} {g sb bb n : Nat} {EA : Option Addr} {ec : Nat} {E : List Eg} {d b : Nat → Int} (h : WavA w0 W g sb bb n EA ec E d b) : WSum W g n d := ⟨_, _, sb, h.row, h.sums⟩
/-- A view in memory. -/
def ViewA (w : World) (v : Nat) (s : Sy) (d db : Nat → Int) : Prop := ∃ g ga gb, RowIs w v 148 [.pointer (some ⟨g, 0, none⟩), .pointer (some ⟨ga, 0, none⟩), .pointer (some ⟨gb, 0, none⟩)] ∧ NetAt w g s (egs s) ∧ WSum w ga (nPl s) d ∧ WSum w gb (nPl s) db
theorem ViewA.keep {w w' : World} {v : Nat} {s : Sy} {d db : Nat → Int} (h : ViewA w v s d db) (k : New w w') : ViewA w' v s d db := by
  obtain ⟨g, ga, gb, h1, h2, h3, h4⟩ := h
  exact ⟨g, ga, gb, h1.keep k, h2.keep k, h3.keep k, h4.keep k⟩
set_option maxRecDepth 100000 in
set_option maxHeartbeats 8000000 in
theorem ck_viewFrom (s : Sy) (hs : Ok s) (A D : Option Addr) (c d : Nat) (w : World) (hM : SysM w A D s) (hbeg : BegA w) (hcl : Closes (egs s)) (r : Rf) (hr : RefOk s r) :
    Calls Tryd.prog 85 #[.agg #[.slice A s.tracks.length c, .slice D s.ties.length d, .int .i64 s.window], .agg #[.int .i64 r.log, .int .i64 r.line]] w fun e w' => ∃ v d db, e = .returned (.tuple #[.pointer (some ⟨v, 0, none⟩), .int .i64 0]) ∧ New w w' ∧ ViewA w' v s d db ∧ Dist (egs s) (nPl s) (plc s r) 22001 d ∧ Dist (turnE (egs s)) (nPl s) (plc s r) 22001 db := by
  have hok := egs_ok hs
  have hel := bnds_len hs
  have hel2 : (egs s).length ≤ 200000 := by unfold egs; rw [List.length_map]; exact hel
  have hnp := nPl_le hs
  have n1 := (New.refl w).alloc (.cells #[.slice A s.tracks.length c, .slice D s.ties.length d, .int .i64 s.window] 25)
  have n2 := n1.alloc (.cells #[.int .i64 r.log, .int .i64 r.line] 53)
  have r1 := (RowIs.new w 25 [.slice A s.tracks.length c, .slice D s.ties.length d, .int .i64 s.window]).keep ((New.refl _).alloc (.cells #[.int .i64 r.log, .int .i64 r.line] 53))
  have r2 := RowIs.new (w.alloc (.cells #[.slice A s.tracks.length c, .slice D s.ties.length d, .int .i64 s.window] 25)) 53 [.int .i64 r.log, .int .i64 r.line]
  simp only [World.size_alloc] at r2
  have HR2 := Lib.hid r2
  have HN2 := Lib.hid n2
  have z0 := r1.cell (i := 0) rfl
  have z1 := r1.cell (i := 1) rfl
  have z2 := r1.cell (i := 2) rfl
  have HNN : Hid (∀ w', New w w' → Calls Tryd.prog 97 #[.agg #[.slice A s.tracks.length c, .slice D s.ties.length d, .int .i64 s.window]] w' fun e w'' => ∃ g, e = .returned (.pointer (some ⟨g, 0, none⟩)) ∧ NetAt w'' g s (egs s) ∧ w'.heap.size ≤ g ∧ New w' w'') := Lib.hid fun w' h => ck_newNet s hs A D c d w' (hM.keep h) ⟨h.cellOf hbeg.1, h.cellOf hbeg.2⟩
  have HSP : Hid (∀ E g w', EOk E (nPl s) 22001 → Closes E → E.length ≤ 200000 → NetAt w' g s E → Calls Tryd.prog 98 #[.pointer (some ⟨g, 0, none⟩), .agg #[.int .i64 r.log, .int .i64 r.line]] w' fun e w'' => ∃ gw sb bb EA ec d b, e = .returned (.tuple #[.pointer (some ⟨gw, 0, none⟩), .slice none 0 0]) ∧ WavA w' w'' gw sb bb (nPl s) EA ec E d b ∧ Dist E (nPl s) (plc s r) 22001 d) := Lib.hid fun E g w' h1 h2 h3 h4 => ck_spread s hs g E w' h4 h1 h2 h3 r hr
  have HOK := Lib.hid hok
  have HCL := Lib.hid hcl
  have HEL := Lib.hid hel2
  clear hs hM hbeg hcl hr hok hel hel2 hnp n1 n2 r1 r2
  go_enter Tryd.func85, Tryd.ntmps85
  go_wp2_with (first
    | (go_at_call 97; refine (HNN.out _ HN2.out).mono ?_; rintro e w2 ⟨g, rfl, hnet, hgs, m2⟩; have y0 := (HR2.out.keep m2).cell (i := 0) rfl; have y1 := (HR2.out.keep m2).cell (i := 1) rfl)
    | (go_at_call 98; refine (HSP.out _ _ _ HOK.out HCL.out HEL.out (by assumption)).mono ?_; rintro e w3 ⟨ga, sb, bb, EA, ec, dd, b, rfl, hwv, hdd⟩))
  have n3 := HN2.out.trans m2
  have n4 := hwv.new
  have HSD : Hid (∀ w', New w3 w' → w'.cell? ⟨w.heap.size + 1, 0, none⟩ = some (.int .i64 r.log) ∧ w'.cell? ⟨w.heap.size + 1, 1, none⟩ = some (.int .i64 r.line)) := Lib.hid fun w' h => ⟨((HR2.out.keep m2).keep (n4.trans h)).cell rfl, ((HR2.out.keep m2).keep (n4.trans h)).cell rfl⟩
  have HTU : Hid (∀ w', New w3 w' → Calls Tryd.prog 108 #[.pointer (some ⟨g, 0, none⟩)] w' fun e w'' => ∃ g', e = .returned (.pointer (some ⟨g', 0, none⟩)) ∧ NetAt w'' g' s (turnE (egs s)) ∧ New w' w'') := Lib.hid fun w' h => ck_turned s g (egs s) w' (hnet.keep (n4.trans h)) (by have := HEL.out; omega)
  have HNET := Lib.hid hnet
  have HWV := Lib.hid hwv
  have HDD := Lib.hid hdd
  have HN3 := Lib.hid n3
  clear hnet hwv hdd n3 n4 m2 y0 y1 hgs
  refine region_plain (by kernel_rfl) (wpAny_of_held (S := fun w' => w'.cell? ⟨w.heap.size + 1, 0, none⟩ = some (.int .i64 r.log) ∧ w'.cell? ⟨w.heap.size + 1, 1, none⟩ = some (.int .i64 r.line)) _ _ _ _ ?_)
  change wpAnyH _ _ _ _ _ _ _ _ w3.drew
  have hS := HSD.out w3.drew (New.refl w3).drew
  refine wpAnyH_take (i := 0) (v := ?_) rfl (by kernel_rfl) (by kernel_rfl) (by kernel_rfl) (fun _ _ _ h => h) (Or.inl ⟨by rfl, fun w' hS' => ?_⟩) hS ?_
  rotate_left
  · obtain ⟨s0, s1⟩ := hS'
    go_simp
    try rfl
  try simp only [List.getElem_toArray, List.getElem_cons_zero, Act.put, List.setIfInBounds_toArray, List.set_cons_zero, List.set_cons_succ]
  refine wpAnyH_take (i := 2) (v := ?_) rfl (by kernel_rfl) (by kernel_rfl) (by kernel_rfl) (fun _ _ _ h => h) (Or.inl ⟨by rfl, fun w' hS' => ?_⟩) hS ?_
  rotate_left
  · obtain ⟨s0, s1⟩ := hS'
    go_simp
    try rfl
  try simp only [List.getElem_toArray, List.getElem_cons_zero, List.getElem_cons_succ, Act.put, List.setIfInBounds_toArray, List.set_cons_zero, List.set_cons_succ]
  clear hS
  refine wpAnyH_ready (rs := [1]) (by kernel_rfl) (by simp) ?_
  refine AllReadyH.cons rfl (fun K hK => ?_) AllReadyH.nil
  go_simp
  refine (HTU.out _ (New.refl w3).drew).mono ?_
  rintro e w4 ⟨g2, rfl, ht, m4⟩
  have n4 := ((New.refl w3).drew).trans m4
  refine hK.out _ _ (HSD.out w4 n4) (fun hS => ?_)
  clear hK K hS
  try simp only [List.getElem_toArray, List.getElem_cons_zero, List.getElem_cons_succ, Act.put, List.setIfInBounds_toArray, List.set_cons_zero, List.set_cons_succ]
  refine wpAnyH_ready (rs := [3]) (by kernel_rfl) (by simp) ?_
  refine AllReadyH.cons rfl (fun K hK => ?_) AllReadyH.nil
  go_simp
  refine (HSP.out _ _ _ (turnE_ok HOK.out) (turnE_closes HCL.out) (by rw [turnE_len]; exact HEL.out) ht).mono ?_
  rintro e w5 ⟨gb, sb2, bb2, EA2, ec2, db, b2, rfl, hwv2, hdb⟩
  have HWV2 := Lib.hid hwv2
  have HDB := Lib.hid hdb
  have HN4 := Lib.hid n4
  refine hK.out _ _ (HSD.out w5 (n4.trans hwv2.new)) (fun hS => ?_)
  clear hK K hwv2 hdb ht m4 n4
  try simp only [List.getElem_toArray, List.getElem_cons_zero, List.getElem_cons_succ, Act.put, List.setIfInBounds_toArray, List.set_cons_zero, List.set_cons_succ]
  refine wpAnyH_take (i := 4) (v := ?_) rfl (by kernel_rfl) (by kernel_rfl) (by kernel_rfl) (fun _ _ _ h => h) (Or.inl ⟨by rfl, fun w' hS' => ?_⟩) hS ?_
  rotate_left
  · obtain ⟨s0, s1⟩ := hS'
    go_simp
    try rfl
  try simp only [List.getElem_toArray, List.getElem_cons_zero, List.getElem_cons_succ, Act.put, List.setIfInBounds_toArray, List.set_cons_zero, List.set_cons_succ]
  refine wpAnyH_take (i := 5) (v := ?_) rfl (by kernel_rfl) (by kernel_rfl) (by kernel_rfl) (fun _ _ _ h => h) (Or.inl ⟨by rfl, fun w' hS' => ?_⟩) hS ?_
  rotate_left
  · obtain ⟨s0, s1⟩ := hS'
    go_simp
    try rfl
  try simp only [List.getElem_toArray, List.getElem_cons_zero, List.getElem_cons_succ, Act.put, List.setIfInBounds_toArray, List.set_cons_zero, List.set_cons_succ]
  refine wpAnyH_take (i := 6) (v := ?_) rfl (by kernel_rfl) (by kernel_rfl) (by kernel_rfl) (fun _ _ _ h => h) (Or.inl ⟨by rfl, fun w' hS' => ?_⟩) hS ?_
  rotate_left
  · obtain ⟨s0, s1⟩ := hS'
    go_simp
    try rfl
  try simp only [List.getElem_toArray, List.getElem_cons_zero, List.getElem_cons_succ, Act.put, List.setIfInBounds_toArray, List.set_cons_zero, List.set_cons_succ]
  refine wpAnyH_take (i := 7) (v := ?_) rfl (by kernel_rfl) (by kernel_rfl) (by kernel_rfl) (fun _ _ _ h => h) (Or.inl ⟨by rfl, fun w' hS' => ?_⟩) hS ?_
  rotate_left
  · obtain ⟨s0, s1⟩ := hS'
    go_simp
    try rfl
  try simp only [List.getElem_toArray, List.getElem_cons_zero, List.getElem_cons_succ, Act.put, List.setIfInBounds_toArray, List.set_cons_zero, List.set_cons_succ]
  refine wpAnyH_take (i := 8) (v := ?_) rfl (by kernel_rfl) (by kernel_rfl) (by kernel_rfl) (fun _ _ _ h => h) (Or.inl ⟨by rfl, fun w' hS' => ?_⟩) hS ?_
  rotate_left
  · obtain ⟨s0, s1⟩ := hS'
    go_simp
    try rfl
  try simp only [List.getElem_toArray, List.getElem_cons_zero, List.getElem_cons_succ, Act.put, List.setIfInBounds_toArray, List.set_cons_zero, List.set_cons_succ]
  refine wpAnyH_done (by kernel_rfl) ?_ _
  unfold NormQ
  dsimp only [Exit.then]
  go_wp2_with fail
  go_ret2
  have k5 := (HN3.out.trans HWV.out.new).trans (HN4.out.trans HWV2.out.new)
  have m5 := HN4.out.trans HWV2.out.new
  have r5 := RowIs.new w5 148 [.pointer (some ⟨g, 0, none⟩), .pointer (some ⟨ga, 0, none⟩), .pointer (some ⟨gb, 0, none⟩)]
  have m6 := (New.refl w5).alloc (.cells #[.pointer (some ⟨g, 0, none⟩), .pointer (some ⟨ga, 0, none⟩), .pointer (some ⟨gb, 0, none⟩)] 148)
  exact ⟨w5.heap.size, dd, db, rfl, k5.trans m6, ⟨g, ga, gb, r5, (HNET.out.keep (HWV.out.new.trans m5)).keep m6, (HWV.out.wsum.keep m5).keep m6, HWV2.out.wsum.keep m6⟩, HDD.out, HDB.out⟩
set_option maxRecDepth 100000 in
set_option maxHeartbeats 8000000 in
theorem ck_span (s : Sy) (hs : Ok s) (v : Nat) (dd db : Nat → Int) (w : World) (hV : ViewA w v s dd db) (r : Rf) (hr : RefOk s r) (hb : -9000000000000000000 ≤ db (plc s r) ∧ db (plc s r) ≤ 9000000000000000000) :
    Calls Tryd.prog 86 #[.pointer (some ⟨v, 0, none⟩), .agg #[.int .i64 r.log, .int .i64 r.line]] w fun e w' => e = .returned (.agg #[.int .i64 (-db (plc s r)), .int .i64 (dd (plc s r))]) ∧ New w w' := by
  obtain ⟨g, ga, gb, h1, h2, h3, h4⟩ := hV
  have HPL : Hid (∀ w', New w w' → Calls Tryd.prog 110 #[.pointer (some ⟨g, 0, none⟩), .agg #[.int .i64 r.log, .int .i64 r.line]] w' fun e w'' => e = .returned (.int .i64 (plc s r)) ∧ New w' w'') := Lib.hid fun w' hn => by
    obtain ⟨FA, fc, EA, ec, q1, q2, _⟩ := h2.keep hn
    exact ck_place s hs r hr g fc FA w' (q1.cell rfl) q2
  have hpl := plc_lt hr
  obtain ⟨xa, ya, sa, a1, a2⟩ := h3
  obtain ⟨xb, yb, sb, b1, b2⟩ := h4
  have HH : Hid (∀ w', New w w' → RowIs w' v 148 [.pointer (some ⟨g, 0, none⟩), .pointer (some ⟨ga, 0, none⟩), .pointer (some ⟨gb, 0, none⟩)] ∧ RowIs w' ga 151 [xa, .slice (some ⟨sa, 0, none⟩) (nPl s) (nPl s), ya] ∧ RowIs w' gb 151 [xb, .slice (some ⟨sb, 0, none⟩) (nPl s) (nPl s), yb] ∧ w'.cell? ⟨sa, plc s r, none⟩ = some (.int .i64 (dd (plc s r))) ∧ w'.cell? ⟨sb, plc s r, none⟩ = some (.int .i64 (db (plc s r)))) := Lib.hid fun w' hn => ⟨h1.keep hn, a1.keep hn, b1.keep hn, (a2.keep hn).cell (fnRow_get hpl), (b2.keep hn).cell (fnRow_get hpl)⟩
  clear h1 h2 a1 a2 b1 b2 hs hr
  generalize plc s r = k at *
  generalize nPl s = np at *
  generalize dd k = x at *
  generalize db k = y at *
  have hw : IntKind.i64.wrap (-y) = -y := IntWalk.i64_in _ (by omega)
  have i1 : (k : Int) < (np : Int) := by omega
  have i2 : (0 : Int) ≤ (k : Int) := by omega
  have n1 := (New.refl w).alloc (.cells #[.int .i64 r.log, .int .i64 r.line] 53)
  have n2 := n1.alloc (.cells #[.int .i64 0, .int .i64 0] 55)
  have r1 := (RowIs.new w 53 [.int .i64 r.log, .int .i64 r.line]).keep ((New.refl _).alloc (.cells #[.int .i64 0, .int .i64 0] 55))
  have r2 := RowIs.new (w.alloc (.cells #[.int .i64 r.log, .int .i64 r.line] 53)) 55 [.int .i64 0, .int .i64 0]
  simp only [World.size_alloc] at r2
  have HR1 := Lib.hid r1
  have HR2 := Lib.hid r2
  have HN2 := Lib.hid n2
  clear n1 n2 r1 r2
  go_enter Tryd.func86, Tryd.ntmps86
  go_wp2_with fail
  generalize hW1 : (w.alloc (.cells #[.int .i64 r.log, .int .i64 r.line] 53)).alloc (.cells #[.int .i64 0, .int .i64 0] 55) = W1 at *
  clear hW1
  have HSD : Hid (∀ w', New W1 w' → w'.cell? ⟨w.heap.size, 0, none⟩ = some (.int .i64 r.log) ∧ w'.cell? ⟨w.heap.size, 1, none⟩ = some (.int .i64 r.line) ∧ w'.cell? ⟨v, 0, none⟩ = some (.pointer (some ⟨g, 0, none⟩))) := Lib.hid fun w' h => ⟨(HR1.out.keep h).cell rfl, (HR1.out.keep h).cell rfl, (HH.out w' (HN2.out.trans h)).1.cell rfl⟩
  refine region_plain (by kernel_rfl) (wpAny_of_held (S := fun w' => w'.cell? ⟨w.heap.size, 0, none⟩ = some (.int .i64 r.log) ∧ w'.cell? ⟨w.heap.size, 1, none⟩ = some (.int .i64 r.line) ∧ w'.cell? ⟨v, 0, none⟩ = some (.pointer (some ⟨g, 0, none⟩))) _ _ _ _ ?_)
  change wpAnyH _ _ _ _ _ _ _ _ W1.drew
  have hS := HSD.out W1.drew (New.refl W1).drew
  refine wpAnyH_take (i := 0) (v := ?_) rfl (by kernel_rfl) (by kernel_rfl) (by kernel_rfl) (fun _ _ _ h => h) (Or.inl ⟨by rfl, fun w' hS' => ?_⟩) hS ?_
  rotate_left
  · obtain ⟨s0, s1, s2⟩ := hS'
    go_simp
    try rfl
  try simp only [List.getElem_toArray, List.getElem_cons_zero, Act.put, List.setIfInBounds_toArray, List.set_cons_zero, List.set_cons_succ]
  refine wpAnyH_take (i := 1) (v := ?_) rfl (by kernel_rfl) (by kernel_rfl) (by kernel_rfl) (fun _ _ _ h => h) (Or.inl ⟨by rfl, fun w' hS' => ?_⟩) hS ?_
  rotate_left
  · obtain ⟨s0, s1, s2⟩ := hS'
    go_simp
    try rfl
  try simp only [List.getElem_toArray, List.getElem_cons_zero, List.getElem_cons_succ, Act.put, List.setIfInBounds_toArray, List.set_cons_zero, List.set_cons_succ]
  refine wpAnyH_take (i := 2) (v := ?_) rfl (by kernel_rfl) (by kernel_rfl) (by kernel_rfl) (fun _ _ _ h => h) (Or.inl ⟨by rfl, fun w' hS' => ?_⟩) hS ?_
  rotate_left
  · obtain ⟨s0, s1, s2⟩ := hS'
    go_simp
    try rfl
  try simp only [List.getElem_toArray, List.getElem_cons_zero, List.getElem_cons_succ, Act.put, List.setIfInBounds_toArray, List.set_cons_zero, List.set_cons_succ]
  refine wpAnyH_take (i := 3) (v := ?_) rfl (by kernel_rfl) (by kernel_rfl) (by kernel_rfl) (fun _ _ _ h => h) (Or.inl ⟨by rfl, fun w' hS' => ?_⟩) hS ?_
  rotate_left
  · obtain ⟨s0, s1, s2⟩ := hS'
    go_simp
    try rfl
  try simp only [List.getElem_toArray, List.getElem_cons_zero, List.getElem_cons_succ, Act.put, List.setIfInBounds_toArray, List.set_cons_zero, List.set_cons_succ]
  refine wpAnyH_take (i := 4) (v := ?_) rfl (by kernel_rfl) (by kernel_rfl) (by kernel_rfl) (fun _ _ _ h => h) (Or.inl ⟨by rfl, fun w' hS' => ?_⟩) hS ?_
  rotate_left
  · obtain ⟨s0, s1, s2⟩ := hS'
    go_simp
    try rfl
  try simp only [List.getElem_toArray, List.getElem_cons_zero, List.getElem_cons_succ, Act.put, List.setIfInBounds_toArray, List.set_cons_zero, List.set_cons_succ]
  clear hS
  refine wpAnyH_ready (rs := [5]) (by kernel_rfl) (by simp) ?_
  refine AllReadyH.cons rfl (fun K hK => ?_) AllReadyH.nil
  go_simp
  refine (HPL.out _ (HN2.out.trans (New.refl W1).drew)).mono ?_
  rintro e w2 ⟨rfl, m2⟩
  have n2 := ((New.refl W1).drew).trans m2
  refine hK.out _ _ (HSD.out w2 n2) (fun hS => ?_)
  clear hK K
  try simp only [List.getElem_toArray, List.getElem_cons_zero, List.getElem_cons_succ, Act.put, List.setIfInBounds_toArray, List.set_cons_zero, List.set_cons_succ]
  refine wpAnyH_take (i := 6) (v := ?_) rfl (by kernel_rfl) (by kernel_rfl) (by kernel_rfl) (fun _ _ _ h => h) (Or.inl ⟨by rfl, fun w' hS' => ?_⟩) hS ?_
  rotate_left
  · obtain ⟨s0, s1, s2⟩ := hS'
    go_simp
    try rfl
  try simp only [List.getElem_toArray, List.getElem_cons_zero, List.getElem_cons_succ, Act.put, List.setIfInBounds_toArray, List.set_cons_zero, List.set_cons_succ]
  refine wpAnyH_done (by kernel_rfl) ?_ _
  unfold NormQ
  dsimp only [Exit.then]
  clear hS HSD
  have HN3 := Lib.hid (HN2.out.trans n2)
  have HR3 := Lib.hid (HR2.out.keep n2)
  obtain ⟨t1, t2, t3, t4, t5⟩ := HH.out w2 HN3.out
  have c1 := t1.cell (i := 1) rfl
  have c2 := t1.cell (i := 2) rfl
  have c3 := t2.cell (i := 1) rfl
  have c4 := t3.cell (i := 1) rfl
  clear t1 t2 t3 m2 n2 HN2 HR1 HR2
  go_wp2_with fail
  go_still_tail 22, (by kernel_rfl)
  change wpList _ _ _ _ _ w2.drew
  have HR5 := Lib.hid HR3.out.drew
  have HN5 := Lib.hid (HN3.out.trans (New.refl w2).drew)
  clear c1 c2 c3 c4 t4 t5 HR3 HN3
  generalize w2.drew = W3 at *
  have d0 := HR5.out.cell (i := 0) rfl
  have d1 := HR5.out.cell (i := 1) rfl
  have f0 := HR5.out.free 0
  have f1 := HR5.out.free 1
  have HR4 := Lib.hid ((HR5.out.put 0 (.int .i64 (-y))).put 1 (.int .i64 x))
  have e0 := HR4.out.cell (i := 0) rfl
  have e1 := HR4.out.cell (i := 1) rfl
  go_wp2_with fail
  refine ⟨rfl, .agg #[.int .i64 (-y), .int .i64 x], ?_, rfl, (HN5.out.setCell (by show w.heap.size ≤ w.heap.size + 1; omega) _).setCell (by show w.heap.size ≤ w.heap.size + 1; omega) _⟩
  clear HH HPL HN5 HR5 HR4
  simp [results, Tryd.results86, go_sem, e0, e1]
end Go.Proofs.YtodmbcoobjcooaaDoor
