/-
  The law AirSince returns true for every list of rows, every text and every two days, and leaves its input as it was. Conditions: those of its given row and card, no other.
-/
import Derived.Test.YtkbdmdnahphkkaaGreatDoorRow
import Derived.Test.YtkbdmdnahphkkaaGreatDoorOpenRows
import Derived.Test.YtkbdmdnahphkkaaGreatDoorTabRefP
import Derived.Test.YtkbdmdnahphkkaaGreatDoorTabSince
namespace Go.Proofs.YtkbdmdnahphkkaaGreatDoor
open Go.RowKit
open Go.ChangeShapes Go.WideShapes Go.ChangeAt Go.Deep
theorem pl3_aggS (o : Option (Int × Int × Int)) : ∃ x y z : Int, pl3 o = .agg #[.int .i64 x, .int .i64 y, .int .i64 z] := by
  cases o with
  | none => exact ⟨0, 0, 0, rfl⟩
  | some p => exact ⟨p.1, p.2.1, p.2.2, rfl⟩
theorem span_days {l : List Rw} {call stem : Bytes} {p : Int × Int × Int} {d lo hi : Int} (hv : rowsB l = true) (h : SpanV (fun x => atV l call stem x = some p) d lo hi) {x : Int} (h1 : lo ≤ x) (h2 : x ≤ hi) : 0 ≤ x ∧ x ≤ 99999 := by
  obtain ⟨r, hr, hf, _⟩ := at_in (h.all x h1 h2)
  have := rows_days hv hr
  unfold forceB withinB at hf
  simp only [Bool.and_eq_true, decide_eq_true_eq] at hf
  omega
theorem plR_in {l : List Rw} {call : Bytes} {q : P4} {p : Int × Int × Int} {d lo hi : Int} (hx : askV l (splitV call) d = 0) (hq : splitV call = some q) (h : SpanV (fun x => atV l call (stemV q) x = some p) d lo hi) {x : Int} (h1 : lo ≤ x) (h2 : x ≤ hi) : plR l call x = (some p, 0) := by
  obtain ⟨ht, _, _⟩ := ask_zero hx
  have hd := span_days (by unfold tabB at ht; exact (Bool.and_eq_true_iff.1 ht).1) h h1 h2
  exact plR_some (ask_ok ht hq (withinB_iff.2 hd)) hq (h.all x h1 h2)
theorem since_in {l : List Rw} {call : Bytes} {q : P4} {p : Int × Int × Int} {d lo hi lo' hi' er : Int} (hx : askV l (splitV call) d = 0) (hq : splitV call = some q) (h : SpanV (fun x => atV l call (stemV q) x = some p) d lo hi) {x : Int} (h1 : lo ≤ x) (h2 : x ≤ hi)
    (hs : sinceP l call x lo' hi' er) : lo' = lo ∧ hi' = hi ∧ er = 0 := by
  have hp := plR_in hx hq h h1 h2
  rcases hs with ⟨e0, e1, _⟩ | ⟨e0, q2, p2, hx2, hq2, hr2, hs2⟩
  · rw [hp] at e1
    exact (e0 e1.symm).elim
  · rw [hq] at hq2
    cases hq2
    have hpp : p2 = p := by
      have h3 := h.all x h1 h2
      rw [hr2] at h3
      exact Option.some.inj h3
    rw [hpp] at hs2
    obtain ⟨a, b⟩ := span_one h hs2 h1 h2
    exact ⟨a.symm, b.symm, e0⟩
theorem plR_out {l : List Rw} {call : Bytes} {q : P4} {p : Int × Int × Int} {x : Int} (hq : splitV call = some q) (hp : 1 ≤ p.1) (h : ¬ atV l call (stemV q) x = some p) :
    ∃ (y : Int × Int × Int) (e : Int), pl3 (plR l call x).1 = .agg #[.int .i64 y.1, .int .i64 y.2.1, .int .i64 y.2.2] ∧ (plR l call x).2 = e ∧ (¬ e = 0 ∨ (e = 0 ∧ ((y.1 == p.1) = false ∨ (y.2.1 == p.2.1) = false ∨ (y.2.2 == p.2.2) = false))) := by
  by_cases hx : askV l (splitV call) x = 0
  · cases hr : atV l call (stemV q) x with
    | none => exact ⟨(0, 0, 0), 3, by rw [plR_none hx hq hr]; rfl, by rw [plR_none hx hq hr], .inl (by decide)⟩
    | some y =>
      rw [hr] at h
      refine ⟨y, 0, by rw [plR_some hx hq hr]; rfl, by rw [plR_some hx hq hr], .inr ⟨rfl, ?_⟩⟩
      rcases cmp3 y p with rfl | ⟨_, h2⟩
      · exact (h rfl).elim
      · exact h2
  · exact ⟨(0, 0, 0), _, by rw [plR_bad rfl hx]; rfl, rfl, .inl (by rw [plR_bad rfl hx]; exact hx)⟩
/-- The days on which the law asks. -/
theorem five_days (w : World) (g : Nat) (a b c d e : Int) (t : TypeId) (h : w.heap[g]? = some (.cells #[.int .i64 a, .int .i64 b, .int .i64 c, .int .i64 d, .int .i64 e] t (0, 0))) {k : Nat} (hk : k < 5) : ∃ y, w.cell? ⟨g, k, none⟩ = some (.int .i64 y) ∧ (y = a ∨ y = b ∨ y = c ∨ y = d ∨ y = e) := by
  rcases (show k = 0 ∨ k = 1 ∨ k = 2 ∨ k = 3 ∨ k = 4 by omega) with rfl | rfl | rfl | rfl | rfl
  · exact ⟨a, by rw [cell_of_row _ _ 0 _ _ _ h]; rfl, .inl rfl⟩
  · exact ⟨b, by rw [cell_of_row _ _ 1 _ _ _ h]; rfl, .inr (.inl rfl)⟩
  · exact ⟨c, by rw [cell_of_row _ _ 2 _ _ _ h]; rfl, .inr (.inr (.inl rfl))⟩
  · exact ⟨d, by rw [cell_of_row _ _ 3 _ _ _ h]; rfl, .inr (.inr (.inr (.inl rfl)))⟩
  · exact ⟨e, by rw [cell_of_row _ _ 4 _ _ _ h]; rfl, .inr (.inr (.inr (.inr rfl)))⟩
set_option maxRecDepth 100000 in
set_option maxHeartbeats 8000000 in
theorem law_since (A : Option Addr) (n c : Nat) (l : List Rw) (call : Bytes) (d other : Int) (w : World) (hm : HasMax w) (hl : RowsAt w A n l) (ht : TextsIn l) (hn : n ≤ c) (hc : c ≤ 9223372036854775807) (hs : call.length ≤ maxLen) :
    Calls Tryz.prog 6 #[.slice A n c, .string (B call), .int .i64 d, .int .i64 other] w fun e w' => e = .returned (.bool true) ∧ New w w' := by
  have HL := Lib.hid hl
  have HMX := Lib.hid hm
  have hn9 : n ≤ 9223372036854775807 := by omega
  have sc := B_size call
  clear hl hn hc hm
  go_enter Tryz.func6, Tryz.ntmps6
  go_wp2_with fail
  refine (law_awake w HMX.out).mono ?_
  rintro e w1 ⟨rfl, h1⟩
  have HN1 := Lib.hid h1
  clear h1
  by_cases g1 : 40 < n
  · have i1 : (40 : Int) < (n : Int) := by omega
    go_wp2_with fail
    go_ret
    exact ⟨rfl, HN1.out⟩
  by_cases g3 : 1000 < call.length
  · have i1 : ¬ (40 : Int) < (n : Int) := by omega
    have i5 : (1000 : Int) < (call.length : Int) := by omega
    go_wp2_with fail
    go_ret
    exact ⟨rfl, HN1.out⟩
  have i1 : ¬ (40 : Int) < (n : Int) := by omega
  have i5 : ¬ (1000 : Int) < (call.length : Int) := by omega
  go_wp2_with fail
  refine (air_Since A n c l call d w1 (HMX.out.keep HN1.out) (HL.out.keep HN1.out) hn9 ht hs).mono ?_
  rintro e w2 ⟨lo, hi, er, rfl, h2, hsp⟩
  have HK2 := Lib.hid ((New.refl w2).alloc (.cells #[.int .i64 lo, .int .i64 hi] 36))
  have HN2 := Lib.hid ((HN1.out.trans h2).trans HK2.out)
  have HS2 := Lib.hid (sp_new w2 lo hi)
  have HSP := Lib.hid hsp
  clear h2 hsp
  go_wp2_with fail
  generalize hW : w2.alloc (.cells #[.int .i64 lo, .int .i64 hi] 36) = W2 at *
  clear hW
  generalize w2.heap.size = gs at *
  refine (air_PlaceOf A n c l call d W2 (HMX.out.keep HN2.out) (HL.out.keep HN2.out) hn9 ht hs).mono ?_
  rintro e w3 ⟨rfl, h3⟩
  rcases HSP.out with ⟨e0, e1, rfl, rfl⟩ | ⟨rfl, q, p, hx, hq, hr, hs2⟩
  · obtain ⟨x, y, z, hp⟩ := pl3_aggS (plR l call d).1
    rw [hp, e1]
    have HE := Lib.hid e0
    clear e1 hp HSP
    go_wp2_with fail
    go_ret
    exact ⟨rfl, (HN2.out.trans h3).alloc _⟩
  · have HX := Lib.hid hx
    have HQ := Lib.hid hq
    have HV := Lib.hid (rows_of_tab (ask_zero hx).1)
    have HP1 := Lib.hid (at_pos HV.out hr)
    have HSV := Lib.hid hs2
    have hlo := span_days HV.out hs2 (Int.le_refl lo) (by have := hs2.le1; have := hs2.le2; omega)
    have hhi := span_days HV.out hs2 (x := hi) (by have := hs2.le1; have := hs2.le2; omega) (Int.le_refl hi)
    have hle1 := hs2.le1
    have hle2 := hs2.le2
    have hpl := plR_some hx hq hr
    rw [hpl, pl3_some]
    have HN3 := Lib.hid ((HN2.out.trans h3).alloc (.cells #[.int .i64 p.1, .int .i64 p.2.1, .int .i64 p.2.2] 30))
    have HS3 := Lib.hid (heap_keep (h3.alloc (.cells #[.int .i64 p.1, .int .i64 p.2.1, .int .i64 p.2.2] 30)) HS2.out)
    have HP3 := Lib.hid (pl_new w3 p.1 p.2.1 p.2.2)
    obtain ⟨s0, s1, -, -⟩ := two_all HS3.out
    clear hx hq hr hs2 hpl h3 HSP HS2
    go_wp2_with fail
    have HK4 := Lib.hid ((New.refl (w3.alloc (.cells #[.int .i64 p.1, .int .i64 p.2.1, .int .i64 p.2.2] 30))).alloc (.cells #[.int .i64 lo, .int .i64 hi, .int .i64 (min hi (max lo other)), .int .i64 ((lo + d) / 2), .int .i64 ((hi + d) / 2)] 3))
    have HN4 := Lib.hid (HN3.out.trans HK4.out)
    have HS4 := Lib.hid (heap_keep HK4.out HS3.out)
    have HP4 := Lib.hid (heap_keep HK4.out HP3.out)
    have HD4 : Hid (((w3.alloc (.cells #[.int .i64 p.1, .int .i64 p.2.1, .int .i64 p.2.2] 30)).alloc (.cells #[.int .i64 lo, .int .i64 hi, .int .i64 (min hi (max lo other)), .int .i64 ((lo + d) / 2), .int .i64 ((hi + d) / 2)] 3)).heap[w3.heap.size + 1]? = some (.cells #[.int .i64 lo, .int .i64 hi, .int .i64 (min hi (max lo other)), .int .i64 ((lo + d) / 2), .int .i64 ((hi + d) / 2)] 3 (0, 0))) := by
      have h := heap_alloc_new (w3.alloc (.cells #[.int .i64 p.1, .int .i64 p.2.1, .int .i64 p.2.2] 30)) (.cells #[.int .i64 lo, .int .i64 hi, .int .i64 (min hi (max lo other)), .int .i64 ((lo + d) / 2), .int .i64 ((hi + d) / 2)] 3)
      exact Lib.hid (by simpa using h)
    clear s0 s1 HK4 HN3 HS3 HP3
    generalize (w3.alloc (.cells #[.int .i64 p.1, .int .i64 p.2.1, .int .i64 p.2.2] 30)).alloc (.cells #[.int .i64 lo, .int .i64 hi, .int .i64 (min hi (max lo other)), .int .i64 ((lo + d) / 2), .int .i64 ((hi + d) / 2)] 3) = W4 at *
    generalize w3.heap.size = gp at *
    go_loopw [15] (fun x wr => ∃ k : Nat, k ≤ 5 ∧ x = .int .i64 k ∧ New W4 wr) (fun x _ => 5 - (intOf x).toNat)
    case atStart => exact ⟨0, by omega, rfl, New.refl _⟩
    case round =>
      obtain ⟨k, hk, rfl, hnew⟩ := hrel
      by_cases hlt : k < 5
      · obtain ⟨y, hy, hyd⟩ := five_days wr (gp + 1) _ _ _ _ _ _ (heap_keep hnew HD4.out) hlt
        have hy1 : lo ≤ y := by omega
        have hy2 : y ≤ hi := by omega
        have hk1 : (0 : Int) ≤ (k : Int) := by omega
        have hk2 : (k : Int) < 5 := by omega
        have HPL := Lib.hid (plR_in HX.out HQ.out HSV.out hy1 hy2)
        have HSI := Lib.hid (fun lo' hi' er (h : sinceP l call y lo' hi' er) => since_in HX.out HQ.out HSV.out hy1 hy2 h)
        clear hyd hy1 hy2
        go_wp2_with fail
        refine (air_PlaceOf A n c l call y wr (HMX.out.keep (HN4.out.trans hnew)) (HL.out.keep (HN4.out.trans hnew)) hn9 ht hs).mono ?_
        rintro e w5 ⟨rfl, h5⟩
        rw [HPL.out, pl3_some]
        have HK5 := Lib.hid (h5.alloc (.cells #[.int .i64 p.1, .int .i64 p.2.1, .int .i64 p.2.2] 30))
        have HQ5 := Lib.hid (pl_new w5 p.1 p.2.1 p.2.2)
        have hy5 := HK5.out.cellOf hy
        clear hy h5
        go_wp2_with fail
        generalize hW5 : w5.alloc (.cells #[.int .i64 p.1, .int .i64 p.2.1, .int .i64 p.2.2] 30) = W5 at *
        clear hW5
        generalize w5.heap.size = g5 at *
        have HN5 := Lib.hid (hnew.trans HK5.out)
        refine (air_Since A n c l call y W5 (HMX.out.keep (HN4.out.trans HN5.out)) (HL.out.keep (HN4.out.trans HN5.out)) hn9 ht hs).mono ?_
        rintro e w6 ⟨lo', hi', er, rfl, h6, hsp⟩
        obtain ⟨rfl, rfl, rfl⟩ := HSI.out lo' hi' er hsp
        have HK6 := Lib.hid (h6.alloc (.cells #[.int .i64 lo', .int .i64 hi'] 36))
        have HN6 := Lib.hid (HN5.out.trans HK6.out)
        obtain ⟨t0, t1, -, -⟩ := two_all (sp_new w6 lo' hi')
        obtain ⟨s0, s1, -, -⟩ := two_all (heap_keep HN6.out HS4.out)
        obtain ⟨p0, p1, p2, -, -, -⟩ := three_all (heap_keep HN6.out HP4.out)
        obtain ⟨q0, q1, q2, -, -, -⟩ := three_all (heap_keep HK6.out HQ5.out)
        clear h6 hsp hy5
        go_wp2_with fail
        exact ⟨⟨k + 1, by omega, rfl, HN6.out⟩, by simp [intOf]; omega⟩
      · have hk2 : ¬ (k : Int) < 5 := by omega
        have HNW := Lib.hid (HN4.out.trans hnew)
        obtain ⟨s0, s1, -, -⟩ := two_all (heap_keep hnew HS4.out)
        have HPW := Lib.hid (heap_keep hnew HP4.out)
        have HSW := Lib.hid (heap_keep hnew HS4.out)
        clear HN4 HS4 HP4 HD4 hnew
        generalize gp + 1 = gd at *
        have hlw : wrap64 (lo - 1) = lo - 1 := by unfold wrap64; omega
        have hhw : wrap64 (hi + 1) = hi + 1 := by unfold wrap64; omega
        obtain ⟨y1, e1, hya, hea, hca⟩ := plR_out HQ.out HP1.out HSV.out.low
        obtain ⟨y2, e2, hyb, heb, hcb⟩ := plR_out HQ.out HP1.out HSV.out.high
        have HYA := Lib.hid hya
        have HEA := Lib.hid hea
        have HCA := Lib.hid hca
        have HYB := Lib.hid hyb
        have HEB := Lib.hid heb
        have HCB := Lib.hid hcb
        clear hya hea hca hyb heb hcb hlo hhi hle1 hle2
        obtain ⟨p0, p1, p2, -, -, -⟩ := three_all HPW.out
        by_cases c1 : 0 < lo
        · by_cases c2 : hi < 99999
          · go_wp2_with fail
            refine (air_PlaceOf A n c l call (lo - 1) wr (HMX.out.keep HNW.out) (HL.out.keep HNW.out) hn9 ht hs).mono ?_
            rintro e w7 ⟨rfl, h7⟩
            rw [HYA.out, HEA.out]
            have HK7 := Lib.hid (h7.alloc (.cells #[.int .i64 y1.1, .int .i64 y1.2.1, .int .i64 y1.2.2] 30))
            have HN7 := Lib.hid (HNW.out.trans HK7.out)
            have HP7 := Lib.hid (heap_keep HK7.out HPW.out)
            obtain ⟨q0, q1, q2, -, -, -⟩ := three_all (pl_new w7 y1.1 y1.2.1 y1.2.2)
            replace s0 := HK7.out.cellOf s0
            replace s1 := HK7.out.cellOf s1
            replace p0 := HK7.out.cellOf p0
            replace p1 := HK7.out.cellOf p1
            replace p2 := HK7.out.cellOf p2
            clear h7
            rcases HCA.out with hc0 | ⟨hc0, hc | hc | hc⟩
            all_goals
              go_wp2_with fail
              clear s0 s1 p0 p1 p2 q0 q1 q2
              refine (air_PlaceOf A n c l call (hi + 1) _ (HMX.out.keep HN7.out) (HL.out.keep HN7.out) hn9 ht hs).mono ?_
              rintro e w8 ⟨rfl, h8⟩
              rw [HYB.out, HEB.out]
              have HK8 := Lib.hid (h8.alloc (.cells #[.int .i64 y2.1, .int .i64 y2.2.1, .int .i64 y2.2.2] 30))
              have HN8 := Lib.hid (HN7.out.trans HK8.out)
              obtain ⟨q0, q1, q2, -, -, -⟩ := three_all (pl_new w8 y2.1 y2.2.1 y2.2.2)
              obtain ⟨p0, p1, p2, -, -, -⟩ := three_all (heap_keep HK8.out HP7.out)
              clear h8
              rcases HCB.out with hd0 | ⟨hd0, hd | hd | hd⟩
              all_goals
                go_wp2_with fail
                go_ret
                exact ⟨rfl, HN8.out⟩
          · go_wp2_with fail
            refine (air_PlaceOf A n c l call (lo - 1) wr (HMX.out.keep HNW.out) (HL.out.keep HNW.out) hn9 ht hs).mono ?_
            rintro e w7 ⟨rfl, h7⟩
            rw [HYA.out, HEA.out]
            have HK7 := Lib.hid (h7.alloc (.cells #[.int .i64 y1.1, .int .i64 y1.2.1, .int .i64 y1.2.2] 30))
            have HN7 := Lib.hid (HNW.out.trans HK7.out)
            obtain ⟨q0, q1, q2, -, -, -⟩ := three_all (pl_new w7 y1.1 y1.2.1 y1.2.2)
            replace s0 := HK7.out.cellOf s0
            replace s1 := HK7.out.cellOf s1
            replace p0 := HK7.out.cellOf p0
            replace p1 := HK7.out.cellOf p1
            replace p2 := HK7.out.cellOf p2
            clear h7
            rcases HCA.out with hc0 | ⟨hc0, hc | hc | hc⟩
            all_goals
              go_wp2_with fail
              go_ret
              exact ⟨rfl, HN7.out⟩
        · by_cases c2 : hi < 99999
          · go_wp2_with fail
            refine (air_PlaceOf A n c l call (hi + 1) wr (HMX.out.keep HNW.out) (HL.out.keep HNW.out) hn9 ht hs).mono ?_
            rintro e w8 ⟨rfl, h8⟩
            rw [HYB.out, HEB.out]
            have HK8 := Lib.hid (h8.alloc (.cells #[.int .i64 y2.1, .int .i64 y2.2.1, .int .i64 y2.2.2] 30))
            have HN8 := Lib.hid (HNW.out.trans HK8.out)
            obtain ⟨q0, q1, q2, -, -, -⟩ := three_all (pl_new w8 y2.1 y2.2.1 y2.2.2)
            replace p0 := HK8.out.cellOf p0
            replace p1 := HK8.out.cellOf p1
            replace p2 := HK8.out.cellOf p2
            clear h8
            rcases HCB.out with hd0 | ⟨hd0, hd | hd | hd⟩
            all_goals
              go_wp2_with fail
              go_ret
              exact ⟨rfl, HN8.out⟩
          · go_wp2_with fail
            go_ret
            exact ⟨rfl, HNW.out⟩
theorem law_since_at (A : Option Addr) (n c : Nat) (l : List Rw) (s : ByteArray) (d other : Int) (w : World) (hm : HasMax w) (hl : RowsAt w A n l) (ht : TextsIn l) (hn : n ≤ c) (hc : c ≤ 9223372036854775807) (hs : s.size ≤ maxLen) :
    Calls Tryz.prog 6 #[.slice A n c, .string s, .int .i64 d, .int .i64 other] w fun e w' => e = .returned (.bool true) ∧ New w w' := by
  have h := law_since A n c l (bs s) d other w hm hl ht hn hc (by rw [bs_size]; exact hs)
  simpa only [B_bs] using h
namespace LawSince
theorem reads : ∀ t ∈ Tryz.f6.params.toList, Tryz.prog.readableRec t = true ∧ t < Tryz.prog.types.size := by
  rw [Tryz.params6]
  intro t ht
  have ht : t = 22 ∨ t = 9 ∨ t = 3 := by simpa using ht
  rcases ht with rfl | rfl | rfl
  · exact ⟨by kernel_rfl, of_decide_eq_true (by kernel_rfl)⟩
  · exact ⟨by kernel_rfl, of_decide_eq_true (by kernel_rfl)⟩
  · exact ⟨by kernel_rfl, of_decide_eq_true (by kernel_rfl)⟩
set_option maxRecDepth 100000 in
theorem contract (H : Type) (enc : TypeId × Value → H) (W : World) (base : Nat) (args : Array Value) (ds gs : List (DataW H)) (before : List MemPlace)
    (hval : ∀ (j : Nat) t v, Tryz.f6.params[j]? = some t → args[j]? = some v → Value.okWide Tryz.prog W .any base t v)
    (hW : DataW.Whole enc Tryz.prog Tryz.f6.params.toList Rows.airSinceSpec.vars false W args.toList ds gs before) (hS : W.ShapedOpen Tryz.prog) :
    Calls Tryz.prog 6 args W fun e W' => ∃ v, e = .returned v ∧ Rows.airSinceSpec.post enc Tryz.prog Tryz.f6 false true false false W args v W' := by
  have hW' := hW
  obtain ⟨p, q, hA0, hV, rfl, hfz, hnd⟩ := hW
  have hA : DataW.TrodAll enc Tryz.prog W 0 (fun _ => true) true Tryz.f6.params.toList args.toList ds p := hA0
  rw [Tryz.params6] at hA hval
  obtain ⟨v0, vs0, d0, ds0, p0, q0, hargs, rfl, rfl, h0, r0⟩ := trodAll_cons hA
  obtain ⟨v1, vs1, d1, ds1, p1, q1, rfl, rfl, rfl, h1, r1⟩ := trodAll_cons r0
  obtain ⟨v2, vs2, d2, ds2, p2, q2, rfl, rfl, rfl, h2, r2⟩ := trodAll_cons r1
  obtain ⟨v3, vs3, d3, ds3, p3, q3, rfl, rfl, rfl, h3, r3⟩ := trodAll_cons r2
  obtain ⟨rfl, rfl, rfl⟩ := trodAll_nil r3
  obtain rfl : args = #[v0, v1, v2, v3] := by cases args; simp_all
  obtain ⟨rfl, rfl⟩ := trodVars_none hV
  have hv0 := hval 0 22 v0 rfl rfl
  have hv1 := hval 1 9 v1 rfl rfl
  have hv2 := hval 2 3 v2 rfl rfl
  have hv3 := hval 3 3 v3 rfl rfl
  clear hval
  obtain ⟨A0, n0, c0, rfl⟩ := okWide_slice Tryz.underlying22 hv0
  obtain ⟨l0, hl0, ht0, hn0, hc0⟩ := open_rows h0
  obtain ⟨a1, rfl, rfl, rfl, hb1⟩ := Go.ChangeMaps.open_string Tryz.underlying9 hv1 h1
  obtain ⟨a2, rfl, rfl, rfl, hw2⟩ := open_int Tryz.underlying3 hv2 h2
  obtain ⟨a3, rfl, rfl, rfl, hw3⟩ := open_int Tryz.underlying3 hv3 h3
  refine (law_since_at A0 n0 c0 l0 a1 a2 a3 W (max_of_shaped hS) hl0 ht0 hn0 hc0 hb1).mono fun e W' ⟨he, hb⟩ => ?_
  subst he
  exact ⟨_, rfl, post_true hW' rfl (by kernel_rfl) ⟨rfl, rfl, rfl⟩ reads hb⟩
theorem laid_met (os : Os) : laidMet Tryz.prog Rows.airSinceRow.laid ((laidWorld os).forCall (fun _ _ => 0) ⟨#[], #[.slice none 0 0, .string ⟨#[]⟩, .int .i64 0, .int .i64 0], []⟩).memory :=
  laidMet_of_run' 8 (by kernel_rfl) (by kernel_rfl)
theorem reads_w (os : Os) {H : Type} (enc : TypeId × Value → H) : ∃ places, DataW.whole enc Tryz.prog ((laidWorld os).forCall (fun _ _ => 0) ⟨#[], #[.slice none 0 0, .string ⟨#[]⟩, .int .i64 0, .int .i64 0], []⟩).memory Tryz.f6.params.toList Rows.airSinceSpec.vars false #[Value.slice none 0 0, .string ⟨#[]⟩, .int .i64 0, .int .i64 0].toList 8 = some ([.nil, .lit (.string []), .lit (.int .i64 0), .lit (.int .i64 0)], [], places) :=
  ⟨[], by kernel_rfl⟩
set_option maxRecDepth 100000 in
theorem lifted (os : Os) (started : os.Started) (H : Type) (enc : TypeId × Value → H) (F : Stop.Interp) :
    ReturnsInHanded {} Tryz.checked os 6 .any ((OpenSpec.ofChange Rows.airSinceSpec).preRow enc Tryz.prog Tryz.f6 Rows.airSinceRow.domain false Rows.airSinceRow.laid) (((OpenSpec.ofChange Rows.airSinceSpec).at F).post enc Tryz.prog Tryz.f6 false true false false) := by
  obtain ⟨places, hx⟩ := reads_w os enc
  refine returnsInHanded_of_row (C := Tryz.checked) (s := OpenSpec.ofChange Rows.airSinceSpec) row_own started (by kernel_rfl) Tryz.func6
    (witness_row_at (enc := enc) (C := Tryz.checked) false (laidWorld os) #[.slice none 0 0, .string ⟨#[]⟩, .int .i64 0, .int .i64 0] rfl (by kernel_rfl) (by kernel_rfl) (by kernel_rfl)
      (OpenSpec.preRow_of_cond 8 hx (by kernel_rfl) (fun k hk => by cases hk) (by kernel_rfl) (laid_met os))) ?_
  intro W base args ds gs before hval hW _ _ _ _ hS _
  exact contract H enc W base args ds gs before hval hW hS
theorem said : Rows.AirSinceSaid :=
  OpenClaim.holds_of_cond 6 Tryz.f6 rfl rfl rfl rfl rfl rfl rfl ⟨rfl, rfl, rfl, rfl, rfl⟩ rfl rfl rfl rfl rfl (by kernel_rfl) Tryz.func6 (by kernel_rfl)
    (of_decide_eq_true (by kernel_rfl)) (by unfold Func.isWrapper; first | (rw [if_pos (by decide +kernel)]; kernel_rfl) | (rw [if_neg (by decide +kernel)]; exact ⟨rfl, rfl⟩))
    (fun os started H enc _ F => by rw [OpenClaim.pre_eq_preRow]; exact lifted os started H enc F)
theorem plain (f : FuncId) (fn : Func) (hf : Tryz.pinned.checked.prog.funcNamed "pileup/pileuplaw01.AirSince" = some f) (hfn : Tryz.pinned.checked.prog.funcs[f]? = some fn) :
    false = Tryz.pinned.checked.prog.looks [] ∧ ∀ (j : Nat) t, fn.params[j]? = some t → Tryz.pinned.checked.prog.wantsStandIn t = false := by
  obtain rfl : f = 6 := Option.some.inj ((show Tryz.prog.funcNamed "pileup/pileuplaw01.AirSince" = some 6 by kernel_rfl).symm.trans hf) |>.symm
  obtain rfl : fn = Tryz.f6 := (Option.some.inj (Tryz.func6.symm.trans hfn)).symm
  refine ⟨by kernel_rfl, fun j t ht => ?_⟩
  rw [Tryz.params6] at ht
  have ht : t = 22 ∨ t = 9 ∨ t = 3 := by simpa using Array.mem_of_getElem? ht
  rcases ht with rfl | rfl | rfl
  · exact (show Tryz.prog.wantsStandIn 22 = false by kernel_rfl)
  · exact (show Tryz.prog.wantsStandIn 9 = false by kernel_rfl)
  · exact (show Tryz.prog.wantsStandIn 3 = false by kernel_rfl)
theorem card : Rows.AirSinceCardSaid :=
  Claim7.holds_tied_plain_at .later [] _ _ _ _ said (fun _ h => by cases h) (by kernel_rfl) (fun _ h => by cases h) airSince_row_tie rfl ⟨rfl, rfl⟩ (by kernel_rfl) rfl plain (by kernel_rfl)
end LawSince

end Go.Proofs.YtkbdmdnahphkkaaGreatDoor
