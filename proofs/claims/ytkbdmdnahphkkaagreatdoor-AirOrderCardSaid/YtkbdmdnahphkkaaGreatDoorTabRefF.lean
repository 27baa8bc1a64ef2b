/-
  begins, find, asked, RowOf, place, PlaceOf of the specification: the same as the program's. Conditions: the texts are in memory, the call sign has at most 100000 bytes.
-/
import Derived.Test.YtkbdmdnahphkkaaGreatDoorTabRefO
import Derived.Test.YtkbdmdnahphkkaaGreatDoorRefValid
import Derived.Test.YtkbdmdnahphkkaaGreatDoorTabOf
namespace Go.Proofs.YtkbdmdnahphkkaaGreatDoor
open Go.RowKit
theorem ref_begins (s t : Bytes) (w : World) (ht : t.length ≤ maxLen) :
    Calls Tryz.prog 67 #[.string (B s), .string (B t)] w fun e w' => e = .returned (.bool (begB s t)) ∧ w = w' := by
  have s1 := B_size s
  have s2 := B_size t
  unfold maxLen at ht
  have HB : Hid (begB s t = (decide (t.length ≤ s.length) && decide (s.take t.length = t))) := Lib.hid rfl
  by_cases h : t.length ≤ s.length
  · rw [decide_eq_true h, Bool.true_and] at HB
    have hi : (t.length : Int) ≤ (s.length : Int) := by omega
    have h0 : (0 : Int) ≤ (t.length : Int) := by omega
    have he : (B s).extract 0 t.length = B (s.take t.length) := by rw [B_extract]; rfl
    by_cases h2 : s.take t.length = t
    · rw [decide_eq_true h2] at HB
      have g1 : ((B s).extract 0 t.length).toList = (B t).toList := by rw [he, h2]
      clear he h2
      go_enter Tryz.func67, Tryz.ntmps67
      go_wp2_with fail
      go_ret
      exact ⟨by rw [HB.out]; rfl, rfl⟩
    · rw [decide_eq_false h2] at HB
      have g1 : ¬ ((B s).extract 0 t.length).toList = (B t).toList := by rw [he]; exact bytes_ne h2
      have g2 : (((B s).extract 0 t.length).toList == (B t).toList) = false := by rw [beq_eq_false_iff_ne]; exact g1
      clear he h2
      go_enter Tryz.func67, Tryz.ntmps67
      go_wp2_with fail
      go_ret
      exact ⟨by rw [HB.out]; rfl, rfl⟩
  · rw [decide_eq_false h, Bool.false_and] at HB
    have hi : (s.length : Int) < (t.length : Int) := by omega
    go_enter Tryz.func67, Tryz.ntmps67
    go_wp2_with fail
    go_ret
    exact ⟨by rw [HB.out]; rfl, rfl⟩
/-- A number of a row, or -1. -/
def optM : Option Nat → Int
  | some i => i
  | none => -1
theorem rowB_len {r : Rw} (h : rowB r = true) : 1 ≤ r.text.length := by
  unfold rowB at h
  rw [Bool.and_eq_true] at h
  have h1 := h.1
  unfold textB at h1
  rw [Bool.and_eq_true] at h1
  have := withinB_iff.1 h1.1
  omega
theorem row_ends {l : List Rw} {call s : Bytes} {d : Int} (h : hitN l call true d l.length = none) : rowOfV l call s d = sgN l s d l.length s.length := by unfold rowOfV; rw [h]
theorem row_hits {l : List Rw} {call s : Bytes} {d : Int} {k : Nat} (hk : k < l.length) (h : hitN l call true d k = none) (h2 : (rowN l k).text = call) (h3 : (rowN l k).whole = true) (h4 : forceB d (rowN l k) = true) : rowOfV l call s d = some k := by
  have : hitN l call true d l.length = some k := fst_some hk (by unfold keyB; simp [h2, h3, h4]) (fun j hj => fst_none_iff.1 h j hj)
  unfold rowOfV
  rw [this]
theorem hit_next {l : List Rw} {call : Bytes} {d : Int} {k : Nat} (h : hitN l call true d k = none) (h2 : (forceB d (rowN l k) && ((rowN l k).whole && decide ((rowN l k).text = call))) = false) : hitN l call true d (k + 1) = none := by
  rw [hit_succ, h]
  have : (keyB call true (rowN l k) && forceB d (rowN l k)) = false := by
    rw [← h2]
    unfold keyB
    cases (rowN l k).whole <;> cases forceB d (rowN l k) <;> simp
  rw [this]
  rfl
/-- A callee that draws nothing, in a quiet region behind another one. -/
theorem quiet_plus {P : Program} {f : FuncId} {args : Array Value} {w : World} {n m : Nat} {v : Value} (h : Calls P f args (w.drewN (n + m)) fun e w' => e = .returned v ∧ w.drewN (n + m) = w') :
    Calls P f args (w.drewN (n + m)) fun e w'' => e = .returned v ∧ ∃ k, w'' = w.drewN (n + k) := h.mono fun _ _ ⟨he, hw⟩ => ⟨he, m, hw.symm⟩
theorem sg_zero (l : List Rw) (s : Bytes) (d : Int) : ∀ n, sgN l s d 0 n = none
  | 0 => rfl
  | n + 1 => by
    rw [sgN, sg_zero l s d n]
    rfl
theorem better_eq (l : List Rw) (s : Bytes) (d : Int) (k : Nat) : betterB l s d k s.length = (forceB d (rowN l k) && (!(rowN l k).whole && (begB s (rowN l k).text && moreB l (sgN l s d k s.length) k))) := by
  unfold betterB begB
  by_cases h : (rowN l k).text.length ≤ s.length
  · rw [decide_eq_true h]; simp
  · rw [decide_eq_false h]; simp
set_option maxRecDepth 100000 in
set_option maxHeartbeats 8000000 in
theorem ref_find_at (A : Option Addr) (n c : Nat) (l : List Rw) (call stem a b st : Bytes) (d : Int) (w : World) (hl : RowsAt w A n l) (hv : rowsB l = true) (hp : partsR call = some (a, b, st)) (hst : stem = if a = [] then b else a) (hsl : stem.length ≤ 8) (hc : call.length ≤ 100000) :
    Calls Tryz.prog 36 #[.slice A n c, .string (B call), .int .i64 d] w fun e w' => e = .returned (.int .i64 (optM (rowOfV l call stem d))) ∧ New w w' := by
  have hlen := hl.1
  have h4 : n ≤ 400 := by have := rowsB_len hv; omega
  have HL := Lib.hid hl
  have HLN := Lib.hid hlen
  have HT1 : Hid (∀ k, k < n → 1 ≤ (rowN l k).text.length) := Lib.hid (fun k hk => by
    refine rowB_len ?_
    unfold rowsB at hv
    exact List.all_eq_true.1 (Bool.and_eq_true_iff.1 hv).2 _ (rowN_mem (by omega)))
  have HT16 : Hid (∀ k, k < n → (rowN l k).text.length ≤ maxLen) := Lib.hid (fun k hk => by
    unfold rowsB at hv
    have := List.all_eq_true.1 (Bool.and_eq_true_iff.1 hv).2 _ (rowN_mem (l := l) (i := k) (by omega))
    unfold rowB at this
    rw [Bool.and_eq_true] at this
    have h1 := this.1
    unfold textB at h1
    rw [Bool.and_eq_true] at h1
    have := withinB_iff.1 h1.1
    unfold maxLen
    omega)
  have HSL := Lib.hid hsl
  have HST := Lib.hid hst
  clear hv hl hlen hst hsl
  have sc := B_size call
  go_enter Tryz.func36, Tryz.ntmps36
  go_wp2_with fail
  refine (ref_parts (B call) w (by omega)).mono ?_
  rintro e w1 ⟨rfl, h1⟩
  rw [bs_B, hp]
  clear hp
  simp only [t3V]
  have eA := B_empty a
  have HN := Lib.hid h1
  clear h1
  by_cases ha : a = []
  · have eA' : (B a).toList.isEmpty = true := by rw [eA, ha]; rfl
    have hb : stem = b := by rw [HST.out, if_pos ha]
    clear HST eA ha
    subst hb
    go_wp2_with fail
    go_loopw [11, 12] (fun bst x wr => ∃ k : Nat, k ≤ n ∧ x = .int .i64 k ∧ bst = .int .i64 (optM (sgN l stem d k stem.length)) ∧ New w1 wr ∧ Hid (hitN l call true d k = none)) (fun _ x _ => n - (intOf x).toNat)
    case atStart => exact ⟨0, by omega, rfl, by rw [sg_zero]; rfl, New.refl _, Lib.hid rfl⟩
    case round =>
      obtain ⟨k, hk, rfl, rfl, hnew, HH⟩ := hrel
      by_cases hlt : k < n
      · obtain ⟨bb, off, r, rfl, hr, _, hrow⟩ := HL.out.row (HN.out.trans hnew) hlt
        obtain ⟨c0, c1, c2, c3, c4, c5, c6⟩ := hrow
        have hrn : rowN l k = r := by simp [rowN, List.getD, hr]
        have HRN := Lib.hid hrn
        have HSTEP : Hid (sgN l stem d (k + 1) stem.length = if (forceB d r && (!r.whole && (begB stem r.text && moreB l (sgN l stem d k stem.length) k))) = true then some k else sgN l stem d k stem.length) := by
          have h := sg_step l stem d k (HT1.out k hlt) stem.length (Nat.le_refl _)
          rw [better_eq, hrn] at h
          exact Lib.hid h
        have hq1 : (0 : Int) ≤ (k : Int) := by omega
        have hq2 : (k : Int) < (n : Int) := by omega
        have hrt : r.text.length ≤ maxLen := by rw [← hrn]; exact HT16.out k hlt
        have HBG := Lib.hid (fun u => ref_begins stem r.text u hrt)
        clear hr hrn hrt
        have hfb : forceB d r = withinB d r.frm r.til := rfl
        cases hf : withinB d r.frm r.til with
        | false =>
          have HF : Hid (forceB d r = false) := Lib.hid (hfb.trans hf)
          have HW : Hid (withinB d r.frm r.til = false) := Lib.hid hf
          clear hfb hf
          go_wp2_with fail
          go_quiet ((go_at_call 48; exact quiet_same (ref_within _ _ _ _)))
          rw [HW.out]
          clear c0 c1 c2 c3 c4 c5 c6
          go_wp2_with fail
          refine ⟨⟨k + 1, by omega, rfl, ?_, hnew.drewN _, Lib.hid (hit_next HH.out (by rw [HRN.out, HF.out]; rfl))⟩, by simp [intOf]; omega⟩
          rw [HSTEP.out, HF.out]
          rfl
        | true =>
          have HF : Hid (forceB d r = true) := Lib.hid (hfb.trans hf)
          have HW : Hid (withinB d r.frm r.til = true) := Lib.hid hf
          clear hfb hf
          go_wp2_with fail
          go_quiet ((go_at_call 48; exact quiet_same (ref_within _ _ _ _)))
          rw [HW.out]
          rcases (show r.whole = true ∨ r.whole = false by cases r.whole <;> simp) with hw | hw
          · rw [hw] at c6
            by_cases ht : r.text = call
            · have g1 : (B r.text).toList = (B call).toList := by rw [ht]
              have HR : Hid (rowOfV l call stem d = some k) := Lib.hid (row_hits (by rw [HLN.out]; exact hlt) HH.out (by rw [HRN.out]; exact ht) (by rw [HRN.out]; exact hw) (by rw [HRN.out]; exact HF.out))
              clear ht hw
              go_wp2_with fail
              go_ret
              exact ⟨by rw [HR.out]; rfl, HN.out.trans (hnew.drewN _)⟩
            · have g1 := bytes_ne ht
              have g2 : ((B r.text).toList == (B call).toList) = false := by rw [beq_eq_false_iff_ne]; exact g1
              have HX : Hid (sgN l stem d (k + 1) stem.length = sgN l stem d k stem.length) := Lib.hid (by rw [HSTEP.out, hw]; simp)
              have HY := Lib.hid (hit_next HH.out (by rw [HRN.out, HF.out, hw, decide_eq_false ht]; rfl))
              clear ht hw HSTEP
              go_wp2_with fail
              go_quiet (fail)
              clear c0 c1 c2 c3 c4 c5 c6 g1 g2
              go_wp2_with fail
              exact ⟨⟨k + 1, by omega, rfl, by rw [HX.out], hnew.drewN _, HY⟩, by simp [intOf]; omega⟩
          · rw [hw] at c6
            have HY := Lib.hid (hit_next HH.out (by rw [HRN.out, hw]; simp))
            cases hb : begB stem r.text with
            | false =>
              have HX : Hid (sgN l stem d (k + 1) stem.length = sgN l stem d k stem.length) := Lib.hid (by rw [HSTEP.out, hb]; simp)
              rw [hb] at HBG
              clear hb hw HSTEP
              go_wp2_with fail
              go_quiet ((go_at_call 67; exact quiet_plus (HBG.out _)))
              clear c0 c1 c2 c3 c4 c5 c6
              go_wp2_with fail
              exact ⟨⟨k + 1, by omega, rfl, by rw [HX.out], hnew.drewN _, HY⟩, by simp [intOf]; omega⟩
            | true =>
              rw [hb] at HBG
              cases ho : sgN l stem d k stem.length with
              | none =>
                have HX : Hid (sgN l stem d (k + 1) stem.length = some k) := Lib.hid (by rw [HSTEP.out, HF.out, hw, hb, ho]; rfl)
                clear hb hw HSTEP ho
                simp only [optM]
                go_wp2_with fail
                go_quiet ((go_at_call 67; exact quiet_plus (HBG.out _)))
                clear c0 c1 c2 c3 c4 c5 c6
                go_wp2_with fail
                exact ⟨⟨k + 1, by omega, rfl, by rw [HX.out]; rfl, hnew.drewN _, HY⟩, by simp [intOf]; omega⟩
              | some j =>
                have hj := (sg_in ho).1
                have hjn : j < n := by omega
                obtain ⟨bb2, off2, y, hA, hy, _, hrow2⟩ := HL.out.row (HN.out.trans hnew) hjn
                injection hA with hA
                injection hA with hA1 hA2 hA3
                subst hA1 hA2
                obtain ⟨e0, -, -, -, -, -, -⟩ := hrow2
                have hyn : rowN l j = y := by simp [rowN, List.getD, hy]
                have hq3 : (0 : Int) ≤ (j : Int) := by omega
                have hq4 : (j : Int) < (n : Int) := by omega
                have sr := B_size r.text
                have sy := B_size y.text
                by_cases hlen : y.text.length < r.text.length
                · have hI : (y.text.length : Int) < (r.text.length : Int) := by omega
                  have HX : Hid (sgN l stem d (k + 1) stem.length = some k) := Lib.hid (by rw [HSTEP.out, HF.out, hw, hb, ho]; unfold moreB; simp only [HRN.out, hyn, hlen, decide_true]; rfl)
                  clear hb hw HSTEP ho hy hyn hlen
                  simp only [optM]
                  go_wp2_with fail
                  go_quiet ((go_at_call 67; exact quiet_plus (HBG.out _)))
                  clear c0 c1 c2 c3 c4 c5 c6 e0
                  go_wp2_with fail
                  exact ⟨⟨k + 1, by omega, rfl, by rw [HX.out]; rfl, hnew.drewN _, HY⟩, by simp [intOf]; omega⟩
                · have hI : ¬ (y.text.length : Int) < (r.text.length : Int) := by omega
                  have HX : Hid (sgN l stem d (k + 1) stem.length = some j) := Lib.hid (by rw [HSTEP.out, HF.out, hw, hb, ho]; unfold moreB; simp only [HRN.out, hyn, hlen, decide_false]; rfl)
                  clear hb hw HSTEP ho hy hyn hlen
                  simp only [optM]
                  go_wp2_with fail
                  go_quiet ((go_at_call 67; exact quiet_plus (HBG.out _)))
                  clear c0 c1 c2 c3 c4 c5 c6 e0
                  go_wp2_with fail
                  exact ⟨⟨k + 1, by omega, rfl, by rw [HX.out]; rfl, hnew.drewN _, HY⟩, by simp [intOf]; omega⟩
      · obtain rfl : k = n := by omega
        have HR : Hid (rowOfV l call stem d = sgN l stem d k stem.length) := Lib.hid (by
          have h := row_ends (s := stem) (by rw [HLN.out]; exact HH.out)
          rw [HLN.out] at h
          exact h)
        go_wp2_with fail
        go_ret
        exact ⟨by rw [HR.out]; rfl, HN.out.trans hnew⟩
  · have eA' : (B a).toList.isEmpty = false := by rw [eA]; simpa using ha
    have hb : stem = a := by rw [HST.out, if_neg ha]
    clear HST eA ha
    subst hb
    go_wp2_with fail
    go_loopw [11, 12] (fun bst x wr => ∃ k : Nat, k ≤ n ∧ x = .int .i64 k ∧ bst = .int .i64 (optM (sgN l stem d k stem.length)) ∧ New w1 wr ∧ Hid (hitN l call true d k = none)) (fun _ x _ => n - (intOf x).toNat)
    case atStart => exact ⟨0, by omega, rfl, by rw [sg_zero]; rfl, New.refl _, Lib.hid rfl⟩
    case round =>
      obtain ⟨k, hk, rfl, rfl, hnew, HH⟩ := hrel
      by_cases hlt : k < n
      · obtain ⟨bb, off, r, rfl, hr, _, hrow⟩ := HL.out.row (HN.out.trans hnew) hlt
        obtain ⟨c0, c1, c2, c3, c4, c5, c6⟩ := hrow
        have hrn : rowN l k = r := by simp [rowN, List.getD, hr]
        have HRN := Lib.hid hrn
        have HSTEP : Hid (sgN l stem d (k + 1) stem.length = if (forceB d r && (!r.whole && (begB stem r.text && moreB l (sgN l stem d k stem.length) k))) = true then some k else sgN l stem d k stem.length) := by
          have h := sg_step l stem d k (HT1.out k hlt) stem.length (Nat.le_refl _)
          rw [better_eq, hrn] at h
          exact Lib.hid h
        have hq1 : (0 : Int) ≤ (k : Int) := by omega
        have hq2 : (k : Int) < (n : Int) := by omega
        have hrt : r.text.length ≤ maxLen := by rw [← hrn]; exact HT16.out k hlt
        have HBG := Lib.hid (fun u => ref_begins stem r.text u hrt)
        clear hr hrn hrt
        have hfb : forceB d r = withinB d r.frm r.til := rfl
        cases hf : withinB d r.frm r.til with
        | false =>
          have HF : Hid (forceB d r = false) := Lib.hid (hfb.trans hf)
          have HW : Hid (withinB d r.frm r.til = false) := Lib.hid hf
          clear hfb hf
          go_wp2_with fail
          go_quiet ((go_at_call 48; exact quiet_same (ref_within _ _ _ _)))
          rw [HW.out]
          clear c0 c1 c2 c3 c4 c5 c6
          go_wp2_with fail
          refine ⟨⟨k + 1, by omega, rfl, ?_, hnew.drewN _, Lib.hid (hit_next HH.out (by rw [HRN.out, HF.out]; rfl))⟩, by simp [intOf]; omega⟩
          rw [HSTEP.out, HF.out]
          rfl
        | true =>
          have HF : Hid (forceB d r = true) := Lib.hid (hfb.trans hf)
          have HW : Hid (withinB d r.frm r.til = true) := Lib.hid hf
          clear hfb hf
          go_wp2_with fail
          go_quiet ((go_at_call 48; exact quiet_same (ref_within _ _ _ _)))
          rw [HW.out]
          rcases (show r.whole = true ∨ r.whole = false by cases r.whole <;> simp) with hw | hw
          · rw [hw] at c6
            by_cases ht : r.text = call
            · have g1 : (B r.text).toList = (B call).toList := by rw [ht]
              have HR : Hid (rowOfV l call stem d = some k) := Lib.hid (row_hits (by rw [HLN.out]; exact hlt) HH.out (by rw [HRN.out]; exact ht) (by rw [HRN.out]; exact hw) (by rw [HRN.out]; exact HF.out))
              clear ht hw
              go_wp2_with fail
              go_ret
              exact ⟨by rw [HR.out]; rfl, HN.out.trans (hnew.drewN _)⟩
            · have g1 := bytes_ne ht
              have g2 : ((B r.text).toList == (B call).toList) = false := by rw [beq_eq_false_iff_ne]; exact g1
              have HX : Hid (sgN l stem d (k + 1) stem.length = sgN l stem d k stem.length) := Lib.hid (by rw [HSTEP.out, hw]; simp)
              have HY := Lib.hid (hit_next HH.out (by rw [HRN.out, HF.out, hw, decide_eq_false ht]; rfl))
              clear ht hw HSTEP
              go_wp2_with fail
              go_quiet (fail)
              clear c0 c1 c2 c3 c4 c5 c6 g1 g2
              go_wp2_with fail
              exact ⟨⟨k + 1, by omega, rfl, by rw [HX.out], hnew.drewN _, HY⟩, by simp [intOf]; omega⟩
          · rw [hw] at c6
            have HY := Lib.hid (hit_next HH.out (by rw [HRN.out, hw]; simp))
            cases hb : begB stem r.text with
            | false =>
              have HX : Hid (sgN l stem d (k + 1) stem.length = sgN l stem d k stem.length) := Lib.hid (by rw [HSTEP.out, hb]; simp)
              rw [hb] at HBG
              clear hb hw HSTEP
              go_wp2_with fail
              go_quiet ((go_at_call 67; exact quiet_plus (HBG.out _)))
              clear c0 c1 c2 c3 c4 c5 c6
              go_wp2_with fail
              exact ⟨⟨k + 1, by omega, rfl, by rw [HX.out], hnew.drewN _, HY⟩, by simp [intOf]; omega⟩
            | true =>
              rw [hb] at HBG
              cases ho : sgN l stem d k stem.length with
              | none =>
                have HX : Hid (sgN l stem d (k + 1) stem.length = some k) := Lib.hid (by rw [HSTEP.out, HF.out, hw, hb, ho]; rfl)
                clear hb hw HSTEP ho
                simp only [optM]
                go_wp2_with fail
                go_quiet ((go_at_call 67; exact quiet_plus (HBG.out _)))
                clear c0 c1 c2 c3 c4 c5 c6
                go_wp2_with fail
                exact ⟨⟨k + 1, by omega, rfl, by rw [HX.out]; rfl, hnew.drewN _, HY⟩, by simp [intOf]; omega⟩
              | some j =>
                have hj := (sg_in ho).1
                have hjn : j < n := by omega
                obtain ⟨bb2, off2, y, hA, hy, _, hrow2⟩ := HL.out.row (HN.out.trans hnew) hjn
                injection hA with hA
                injection hA with hA1 hA2 hA3
                subst hA1 hA2
                obtain ⟨e0, -, -, -, -, -, -⟩ := hrow2
                have hyn : rowN l j = y := by simp [rowN, List.getD, hy]
                have hq3 : (0 : Int) ≤ (j : Int) := by omega
                have hq4 : (j : Int) < (n : Int) := by omega
                have sr := B_size r.text
                have sy := B_size y.text
                by_cases hlen : y.text.length < r.text.length
                · have hI : (y.text.length : Int) < (r.text.length : Int) := by omega
                  have HX : Hid (sgN l stem d (k + 1) stem.length = some k) := Lib.hid (by rw [HSTEP.out, HF.out, hw, hb, ho]; unfold moreB; simp only [HRN.out, hyn, hlen, decide_true]; rfl)
                  clear hb hw HSTEP ho hy hyn hlen
                  simp only [optM]
                  go_wp2_with fail
                  go_quiet ((go_at_call 67; exact quiet_plus (HBG.out _)))
                  clear c0 c1 c2 c3 c4 c5 c6 e0
                  go_wp2_with fail
                  exact ⟨⟨k + 1, by omega, rfl, by rw [HX.out]; rfl, hnew.drewN _, HY⟩, by simp [intOf]; omega⟩
                · have hI : ¬ (y.text.length : Int) < (r.text.length : Int) := by omega
                  have HX : Hid (sgN l stem d (k + 1) stem.length = some j) := Lib.hid (by rw [HSTEP.out, HF.out, hw, hb, ho]; unfold moreB; simp only [HRN.out, hyn, hlen, decide_false]; rfl)
                  clear hb hw HSTEP ho hy hyn hlen
                  simp only [optM]
                  go_wp2_with fail
                  go_quiet ((go_at_call 67; exact quiet_plus (HBG.out _)))
                  clear c0 c1 c2 c3 c4 c5 c6 e0
                  go_wp2_with fail
                  exact ⟨⟨k + 1, by omega, rfl, by rw [HX.out]; rfl, hnew.drewN _, HY⟩, by simp [intOf]; omega⟩
      · obtain rfl : k = n := by omega
        have HR : Hid (rowOfV l call stem d = sgN l stem d k stem.length) := Lib.hid (by
          have h := row_ends (s := stem) (by rw [HLN.out]; exact HH.out)
          rw [HLN.out] at h
          exact h)
        go_wp2_with fail
        go_ret
        exact ⟨by rw [HR.out]; rfl, HN.out.trans hnew⟩

end Go.Proofs.YtkbdmdnahphkkaaGreatDoor
