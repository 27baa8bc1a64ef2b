/-
  asked, RowOf, place, PlaceOf of the specification: the same as the program's. Conditions: the texts are in memory, the call sign has at most 100000 bytes.
-/
import Derived.Test.YtkbdmdnahphkkaaGreatDoorTabRefF
namespace Go.Proofs.YtkbdmdnahphkkaaGreatDoor
open Go.RowKit
theorem rows_of_tab {l : List Rw} (h : tabB l = true) : rowsB l = true := by unfold tabB at h; exact (Bool.and_eq_true_iff.1 h).1
theorem clash_of_tab {l : List Rw} (h : tabB l = true) : clashV l = none := by
  unfold tabB at h
  have := (Bool.and_eq_true_iff.1 h).2
  cases hc : clashV l with
  | none => rfl
  | some p => rw [hc] at this; cases this
theorem ask_zero {l : List Rw} {o : Option P4} {d : Int} (h : askV l o d = 0) : tabB l = true ∧ withinB d 0 99999 = true ∧ ∃ q, o = some q := by
  unfold askV at h
  by_cases h1 : tabB l = false
  · rw [if_pos h1] at h; cases h
  · rw [if_neg h1] at h
    cases o with
    | none => cases h
    | some q =>
      dsimp only at h
      by_cases h2 : withinB d 0 99999 = false
      · rw [if_pos h2] at h; cases h
      · exact ⟨by simpa using h1, by simpa using h2, q, rfl⟩
theorem ref_asked (A : Option Addr) (n c : Nat) (l : List Rw) (call : Bytes) (d : Int) (w : World) (hl : RowsAt w A n l) (hn : n ≤ 9223372036854775807) (ht : TextsIn l) (hc : call.length ≤ 100000) :
    Calls Tryz.prog 35 #[.slice A n c, .string (B call), .int .i64 d] w fun e w' => e = .returned (.int .i64 (askV l (splitV call) d)) ∧ New w w' := by
  have sc := B_size call
  go_enter Tryz.func35, Tryz.ntmps35
  go_wp2_with fail
  refine (ref_ValidTable A n c l w hl hn ht).mono ?_
  rintro e w1 ⟨rfl, h1⟩
  have HN := Lib.hid h1
  clear h1
  cases hv : tabB l with
  | false =>
    have HR := Lib.hid (ask_tab (o := splitV call) (d := d) hv)
    clear hv
    go_wp2_with fail
    go_ret
    exact ⟨by rw [HR.out]; rfl, HN.out⟩
  | true =>
    have HV := Lib.hid hv
    clear hv
    go_wp2_with fail
    refine (ref_VC (B call) w1 (by omega)).mono ?_
    rintro e w2 ⟨rfl, h2⟩
    rw [bs_B]
    replace HN := Lib.hid (HN.out.trans h2)
    clear h2
    cases hq : splitV call with
    | none =>
      have HR := Lib.hid (ask_call (d := d) HV.out hq)
      clear hq
      go_wp2_with fail
      go_ret
      exact ⟨by rw [HR.out]; rfl, HN.out⟩
    | some q =>
      have HQ := Lib.hid hq
      clear hq
      go_wp2_with fail
      refine (ref_within _ _ _ _).mono ?_
      rintro e w3 ⟨rfl, rfl⟩
      cases hd : withinB d 0 99999 with
      | false =>
        have HR := Lib.hid (ask_day HV.out HQ.out hd)
        clear hd
        go_wp2_with fail
        go_ret
        exact ⟨by rw [HR.out]; rfl, HN.out⟩
      | true =>
        have HR := Lib.hid (ask_ok HV.out HQ.out hd)
        clear hd
        go_wp2_with fail
        go_ret
        exact ⟨by rw [HR.out]; rfl, HN.out⟩
theorem ref_find (A : Option Addr) (n c : Nat) (l : List Rw) (call : Bytes) (q : P4) (d : Int) (w : World) (hl : RowsAt w A n l) (hv : rowsB l = true) (hq : splitV call = some q) (hc : call.length ≤ 100000) :
    Calls Tryz.prog 36 #[.slice A n c, .string (B call), .int .i64 d] w fun e w' => e = .returned (.int .i64 (optM (rowOfV l call (stemV q) d))) ∧ New w w' := by
  obtain ⟨t, ht, htq⟩ : ∃ t, partsR call = some t ∧ toP4 t = q := by
    have h := partsR_eq call
    rw [hq] at h
    cases hp : partsR call with
    | none => rw [hp] at h; cases h
    | some t => rw [hp] at h; exact ⟨t, rfl, Option.some.inj h⟩
  obtain ⟨a, b, st⟩ := t
  exact ref_find_at A n c l call (stemV q) a b st d w hl hv ht (by rw [← htq]; unfold stemV toP4; simp) (stem_len hq) hc
theorem ref_RowOf (A : Option Addr) (n c : Nat) (l : List Rw) (call : Bytes) (d : Int) (w : World) (hl : RowsAt w A n l) (hn : n ≤ 9223372036854775807) (ht : TextsIn l) (hc : call.length ≤ 100000) :
    Calls Tryz.prog 12 #[.slice A n c, .string (B call), .int .i64 d] w fun e w' => e = .returned (.tuple #[.int .i64 (rowR l call d).1, .int .i64 (rowR l call d).2]) ∧ New w w' := by
  have HL := Lib.hid hl
  clear hl
  go_enter Tryz.func12, Tryz.ntmps12
  go_wp2_with fail
  refine (ref_asked A n c l call d w HL.out hn ht hc).mono ?_
  rintro e w1 ⟨rfl, h1⟩
  have HN := Lib.hid h1
  clear h1
  by_cases h0 : askV l (splitV call) d = 0
  · obtain ⟨hv, -, q, hq⟩ := ask_zero h0
    have H0 := Lib.hid h0
    rw [h0]
    clear h0
    go_wp2_with fail
    refine (ref_find A n c l call q d w1 (HL.out.keep HN.out) (rows_of_tab hv) hq hc).mono ?_
    rintro e w2 ⟨rfl, h2⟩
    cases hr : rowOfV l call (stemV q) d with
    | none =>
      have HR := Lib.hid (rowR_none H0.out hq hr)
      clear hr hv hq
      simp only [optM]
      go_wp2_with fail
      go_ret2
      exact ⟨by rw [HR.out]; rfl, HN.out.trans h2⟩
    | some i =>
      have HR := Lib.hid (rowR_some H0.out hq hr)
      have hi : ¬ (i : Int) < 0 := by omega
      clear hr hv hq
      simp only [optM]
      go_wp2_with fail
      go_ret2
      exact ⟨by rw [HR.out]; rfl, HN.out.trans h2⟩
  · have HR := Lib.hid (rowR_bad rfl h0)
    generalize askV l (splitV call) d = x at *
    go_wp2_with fail
    go_ret2
    exact ⟨by rw [HR.out]; rfl, HN.out⟩
set_option maxHeartbeats 2000000 in
theorem ref_place (A : Option Addr) (n c : Nat) (l : List Rw) (call : Bytes) (q : P4) (d : Int) (w : World) (hl : RowsAt w A n l) (hv : rowsB l = true) (hq : splitV call = some q) (hc : call.length ≤ 100000) :
    Calls Tryz.prog 38 #[.slice A n c, .string (B call), .int .i64 d] w fun e w' => e = .returned (pl3 (atV l call (stemV q) d)) ∧ New w w' := by
  have HL := Lib.hid hl
  have HLN := Lib.hid hl.1
  have HN0 := Lib.hid ((New.refl w).alloc (.cells #[.int .i64 0, .int .i64 0, .int .i64 0] 30))
  have HP0 := Lib.hid (pl_new w 0 0 0)
  have h4 : n ≤ 400 := by have := rowsB_len hv; have := hl.1; omega
  clear hl
  go_enter Tryz.func38, Tryz.ntmps38
  go_wp2_with fail
  refine (ref_find A n c l call q d _ (HL.out.keep HN0.out) hv hq hc).mono ?_
  rintro e w1 ⟨rfl, h1⟩
  have HN := Lib.hid (HN0.out.trans h1)
  obtain ⟨r0, r1, r2, f0, f1, f2⟩ := three_all (heap_keep h1 HP0.out)
  clear h1 hv
  cases hr : rowOfV l call (stemV q) d with
  | none =>
    have HR := Lib.hid (at_none hr)
    clear hr
    simp only [optM]
    go_wp2_with fail
    refine bodyPost_ret (v := pl3 none) (by simp [results, Tryz.results38, go_sem, r0, r1, r2, pl3_none]) rfl ⟨by rw [HR.out], ?_⟩
    exact ((HN.out.setCell (Nat.le_refl _) _).setCell (Nat.le_refl _) _).setCell (Nat.le_refl _) _
  | some i =>
    have HR := Lib.hid (at_rowN hr)
    have hi := rowOfV_in hr
    have hin : i < n := by rw [HLN.out] at hi; exact hi
    obtain ⟨bb, off, r, rfl, hx, _, hrow⟩ := HL.out.row HN.out hin
    obtain ⟨c0, c1, c2, c3, c4, c5, c6⟩ := hrow
    have HRN : Hid (rowN l i = r) := Lib.hid (by simp [rowN, List.getD, hx])
    have hq1 : (0 : Int) ≤ (i : Int) := by omega
    have hq2 : (i : Int) < (n : Int) := by omega
    have hq3 : ¬ (i : Int) < 0 := by omega
    clear hr hi hx c0 c4 c5 c6
    simp only [optM]
    go_wp2_with fail
    go_region
    go_wp2_with fail
    refine bodyPost_ret (v := .agg #[.int .i64 r.country, .int .i64 r.zone, .int .i64 r.cont]) (by simp [results, Tryz.results38, go_sem, r0, r1, r2]) rfl ⟨by rw [HR.out, HRN.out]; rfl, ?_⟩
    exact (((HN.out.setCell (Nat.le_refl _) _).setCell (Nat.le_refl _) _).setCell (Nat.le_refl _) _).drew
theorem at_pos {l : List Rw} {call s : Bytes} {d : Int} {p : Int × Int × Int} (hv : rowsB l = true) (h : atV l call s d = some p) : 1 ≤ p.1 := by
  obtain ⟨r, hr, _, rfl⟩ := at_in h
  unfold rowsB at hv
  have := List.all_eq_true.1 (Bool.and_eq_true_iff.1 hv).2 r hr
  unfold rowB at this
  simp only [Bool.and_eq_true] at this
  have := withinB_iff.1 this.2.1
  exact this.1
set_option maxHeartbeats 2000000 in
theorem ref_PlaceOf (A : Option Addr) (n c : Nat) (l : List Rw) (call : Bytes) (d : Int) (w : World) (hl : RowsAt w A n l) (hn : n ≤ 9223372036854775807) (ht : TextsIn l) (hc : call.length ≤ 100000) :
    Calls Tryz.prog 14 #[.slice A n c, .string (B call), .int .i64 d] w fun e w' => e = .returned (.tuple #[pl3 (plR l call d).1, .int .i64 (plR l call d).2]) ∧ New w w' := by
  have HL := Lib.hid hl
  have HN0 := Lib.hid ((New.refl w).alloc (.cells #[.int .i64 0, .int .i64 0, .int .i64 0] 30))
  have HP0 := Lib.hid (pl_new w 0 0 0)
  clear hl
  go_enter Tryz.func14, Tryz.ntmps14
  go_wp2_with fail
  refine (ref_asked A n c l call d _ (HL.out.keep HN0.out) hn ht hc).mono ?_
  rintro e w1 ⟨rfl, h1⟩
  have HN := Lib.hid (HN0.out.trans h1)
  have HP := Lib.hid (heap_keep h1 HP0.out)
  clear h1
  by_cases h0 : askV l (splitV call) d = 0
  · obtain ⟨hv, -, q, hq⟩ := ask_zero h0
    have H0 := Lib.hid h0
    have HV := Lib.hid (rows_of_tab hv)
    have HQ := Lib.hid hq
    rw [h0]
    clear h0 hv hq
    go_wp2_with fail
    refine (ref_place A n c l call q d w1 (HL.out.keep HN.out) HV.out HQ.out hc).mono ?_
    rintro e w2 ⟨rfl, h2⟩
    replace HN := Lib.hid (HN.out.trans h2)
    have HA := Lib.hid (fun o => three_all (heap_keep ((New.refl w2).alloc o) (heap_keep h2 HP.out)))
    have r0 := fun o => (HA.out o).1
    have r1 := fun o => (HA.out o).2.1
    have r2 := fun o => (HA.out o).2.2.1
    have f0 := fun o => (HA.out o).2.2.2.1
    have f1 := fun o => (HA.out o).2.2.2.2.1
    have f2 := fun o => (HA.out o).2.2.2.2.2
    clear h2
    cases hr : atV l call (stemV q) d with
    | none =>
      have HR := Lib.hid (plR_none H0.out HQ.out hr)
      clear hr
      rw [pl3_none]
      obtain ⟨q0, q1, q2, -, -, -⟩ := three_all (pl_new w2 0 0 0)
      go_wp2_with fail
      refine bodyPost_ret (v := .tuple #[pl3 none, .int .i64 3]) (by simp [results, Tryz.results14, go_sem, r0, r1, r2, pl3_none]) rfl ⟨by rw [HR.out], ?_⟩
      exact (((HN.out.alloc _).setCell (Nat.le_refl _) _).setCell (Nat.le_refl _) _).setCell (Nat.le_refl _) _
    | some p =>
      have HR := Lib.hid (plR_some H0.out HQ.out hr)
      have hp := at_pos HV.out hr
      have hp0 : (p.1 == 0) = false := by rw [beq_eq_false_iff_ne]; omega
      have hp1 : ¬ p.1 = 0 := by omega
      clear hr
      rw [pl3_some]
      obtain ⟨q0, q1, q2, -, -, -⟩ := three_all (pl_new w2 p.1 p.2.1 p.2.2)
      go_wp2_with fail
      refine bodyPost_ret (v := .tuple #[pl3 (some p), .int .i64 0]) (by simp [results, Tryz.results14, go_sem, r0, r1, r2, pl3_some]) rfl ⟨by rw [HR.out], ?_⟩
      exact (((HN.out.alloc _).setCell (Nat.le_refl _) _).setCell (Nat.le_refl _) _).setCell (Nat.le_refl _) _
  · have HR := Lib.hid (plR_bad rfl h0)
    obtain ⟨r0, r1, r2, f0, f1, f2⟩ := three_all HP.out
    generalize askV l (splitV call) d = x at *
    go_wp2_with fail
    refine bodyPost_ret (v := .tuple #[pl3 none, .int .i64 x]) (by simp [results, Tryz.results14, go_sem, r0, r1, r2, pl3_none]) rfl ⟨by rw [HR.out], ?_⟩
    exact ((HN.out.setCell (Nat.le_refl _) _).setCell (Nat.le_refl _) _).setCell (Nat.le_refl _) _

end Go.Proofs.YtkbdmdnahphkkaaGreatDoor
