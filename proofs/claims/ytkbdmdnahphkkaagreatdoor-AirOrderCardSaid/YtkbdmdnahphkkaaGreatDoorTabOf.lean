/-
  RowOf, PlaceOf of the program. Conditions: the texts are in memory; the library's variable MaxLen is there.
-/
import Derived.Test.YtkbdmdnahphkkaaGreatDoorTabAsk
namespace Go.Proofs.YtkbdmdnahphkkaaGreatDoor
open Go.RowKit
/-- What RowOf tells. -/
def rowR (l : List Rw) (call : Bytes) (d : Int) : Int × Int :=
  if ¬ askV l (splitV call) d = 0 then (0, askV l (splitV call) d) else match splitV call with
  | none => (0, 0)
  | some q => match rowOfV l call (stemV q) d with
    | some i => ((i : Int), 0)
    | none => (0, 3)
theorem rowR_bad {l : List Rw} {call : Bytes} {d x : Int} (h : askV l (splitV call) d = x) (h0 : ¬ x = 0) : rowR l call d = (0, x) := by unfold rowR; rw [if_pos (by rw [h]; exact h0), h]
theorem rowR_some {l : List Rw} {call : Bytes} {d : Int} {q : P4} {i : Nat} (h : askV l (splitV call) d = 0) (hq : splitV call = some q) (hr : rowOfV l call (stemV q) d = some i) : rowR l call d = ((i : Int), 0) := by
  unfold rowR
  rw [if_neg (by rw [h]; simp), hq]
  simp only [hr]
theorem rowR_none {l : List Rw} {call : Bytes} {d : Int} {q : P4} (h : askV l (splitV call) d = 0) (hq : splitV call = some q) (hr : rowOfV l call (stemV q) d = none) : rowR l call d = (0, 3) := by
  unfold rowR
  rw [if_neg (by rw [h]; simp), hq]
  simp only [hr]
/-- What PlaceOf tells. -/
def plR (l : List Rw) (call : Bytes) (d : Int) : Option (Int × Int × Int) × Int :=
  if ¬ askV l (splitV call) d = 0 then (none, askV l (splitV call) d) else match splitV call with
  | none => (none, 0)
  | some q => match atV l call (stemV q) d with
    | some p => (some p, 0)
    | none => (none, 3)
theorem plR_bad {l : List Rw} {call : Bytes} {d x : Int} (h : askV l (splitV call) d = x) (h0 : ¬ x = 0) : plR l call d = (none, x) := by unfold plR; rw [if_pos (by rw [h]; exact h0), h]
theorem plR_some {l : List Rw} {call : Bytes} {d : Int} {q : P4} {p : Int × Int × Int} (h : askV l (splitV call) d = 0) (hq : splitV call = some q) (hr : atV l call (stemV q) d = some p) : plR l call d = (some p, 0) := by
  unfold plR
  rw [if_neg (by rw [h]; simp), hq]
  simp only [hr]
theorem plR_none {l : List Rw} {call : Bytes} {d : Int} {q : P4} (h : askV l (splitV call) d = 0) (hq : splitV call = some q) (hr : atV l call (stemV q) d = none) : plR l call d = (none, 3) := by
  unfold plR
  rw [if_neg (by rw [h]; simp), hq]
  simp only [hr]
theorem st_new (w : World) (A : Option Addr) (n c : Nat) (m : Option Nat) (s t : ByteArray) : (w.alloc (.cells #[.slice A n c, .map m, .string s, .string t] 69)).heap[w.heap.size]? = some (.cells #[.slice A n c, .map m, .string s, .string t] 69 (0, 0)) := heap_alloc_new w _
theorem pl_new (w : World) (a b c : Int) : (w.alloc (.cells #[.int .i64 a, .int .i64 b, .int .i64 c] 30)).heap[w.heap.size]? = some (.cells #[.int .i64 a, .int .i64 b, .int .i64 c] 30 (0, 0)) := heap_alloc_new w _
set_option maxHeartbeats 2000000 in
theorem air_RowOf (A : Option Addr) (n c : Nat) (l : List Rw) (call : Bytes) (d : Int) (w : World) (hmx : HasMax w) (hl : RowsAt w A n l) (hn : n ≤ 9223372036854775807) (ht : TextsIn l) (hs : call.length ≤ maxLen) :
    Calls Tryz.prog 11 #[.slice A n c, .string (B call), .int .i64 d] w fun e w' => e = .returned (.tuple #[.int .i64 (rowR l call d).1, .int .i64 (rowR l call d).2]) ∧ New w w' := by
  have HL := Lib.hid hl
  have HLN := Lib.hid hl.1
  clear hl
  go_enter Tryz.func11, Tryz.ntmps11
  go_wp2_with fail
  refine (air_lookUp A n c l (B call) d w hmx HL.out hn ht (by rw [B_size]; unfold maxLen at hs; omega)).mono ?_
  rintro e w1 ⟨h1, ⟨x, hx, h0, rfl⟩ | ⟨q, base, b, hx, hq, htb, hd, rfl, hm⟩⟩
  · rw [bs_B] at hx
    have HR := Lib.hid (rowR_bad hx h0)
    clear hx
    go_wp2_with fail
    go_ret2
    exact ⟨by rw [HR.out]; rfl, h1.alloc _⟩
  · rw [bs_B] at hx hq
    have HX := Lib.hid hx
    have HQ := Lib.hid hq
    have h4 : n ≤ 400 := by
      have h := htb
      unfold tabB at h
      have := rowsB_len (Bool.and_eq_true_iff.1 h).1
      rw [HLN.out] at this
      exact this
    have HN := Lib.hid (h1.alloc (.cells #[.slice A n c, .map (some b), .string (B call), .string (B (stemV q))] 69))
    obtain ⟨s0, s1, s2, s3⟩ := StIn.all (st_new w1 A n c (some b) (B call) (B (stemV q)))
    clear hx hq htb hd h1
    go_wp2_with fail
    refine (air_row A n c base b l call (stemV q) d _ (HL.out.keep HN.out) (hm.keep ((New.refl w1).alloc _)) h4 hs (by have := stem_len HQ.out; unfold maxLen; omega)).mono ?_
    rintro e w2 ⟨rfl, h2⟩
    cases hr : rowOfV l call (stemV q) d with
    | none =>
      have HR := Lib.hid (rowR_none HX.out HQ.out hr)
      clear hr
      go_wp2_with fail
      go_ret2
      exact ⟨by rw [HR.out]; rfl, HN.out.trans h2⟩
    | some i =>
      have HR := Lib.hid (rowR_some HX.out HQ.out hr)
      clear hr
      go_wp2_with fail
      go_ret2
      exact ⟨by rw [HR.out]; rfl, HN.out.trans h2⟩
theorem pl3_some (p : Int × Int × Int) : pl3 (some p) = .agg #[.int .i64 p.1, .int .i64 p.2.1, .int .i64 p.2.2] := rfl
theorem pl3_none : pl3 none = .agg #[.int .i64 0, .int .i64 0, .int .i64 0] := rfl
set_option maxHeartbeats 2000000 in
theorem air_PlaceOf (A : Option Addr) (n c : Nat) (l : List Rw) (call : Bytes) (d : Int) (w : World) (hmx : HasMax w) (hl : RowsAt w A n l) (hn : n ≤ 9223372036854775807) (ht : TextsIn l) (hs : call.length ≤ maxLen) :
    Calls Tryz.prog 13 #[.slice A n c, .string (B call), .int .i64 d] w fun e w' => e = .returned (.tuple #[pl3 (plR l call d).1, .int .i64 (plR l call d).2]) ∧ New w w' := by
  have HL := Lib.hid hl
  have HLN := Lib.hid hl.1
  have HN0 := Lib.hid ((New.refl w).alloc (.cells #[.int .i64 0, .int .i64 0, .int .i64 0] 30))
  have HP0 := Lib.hid (pl_new w 0 0 0)
  clear hl
  go_enter Tryz.func13, Tryz.ntmps13
  go_wp2_with fail
  refine (air_lookUp A n c l (B call) d _ (hmx.keep HN0.out) (HL.out.keep HN0.out) hn ht (by rw [B_size]; unfold maxLen at hs; omega)).mono ?_
  rintro e w1 ⟨h1, ⟨x, hx, h0, rfl⟩ | ⟨q, base, b, hx, hq, htb, hd, rfl, hm⟩⟩
  · rw [bs_B] at hx
    have HR := Lib.hid (plR_bad hx h0)
    have HA := Lib.hid (fun o => three_all (heap_keep ((New.refl w1).alloc o) (heap_keep h1 HP0.out)))
    have r0 := fun o => (HA.out o).1
    have r1 := fun o => (HA.out o).2.1
    have r2 := fun o => (HA.out o).2.2.1
    have f0 := fun o => (HA.out o).2.2.2.1
    have f1 := fun o => (HA.out o).2.2.2.2.1
    have f2 := fun o => (HA.out o).2.2.2.2.2
    clear hx
    go_wp2_with fail
    refine bodyPost_ret (v := .tuple #[pl3 none, .int .i64 x]) (by simp [results, Tryz.results13, go_sem, r0, r1, r2, pl3_none]) rfl ⟨by rw [HR.out], ?_⟩
    exact ((((HN0.out.trans h1).alloc _).setCell (Nat.le_refl _) _).setCell (Nat.le_refl _) _).setCell (Nat.le_refl _) _
  · rw [bs_B] at hx hq
    have HX := Lib.hid hx
    have HQ := Lib.hid hq
    have h4 : n ≤ 400 := by
      have h := htb
      unfold tabB at h
      have := rowsB_len (Bool.and_eq_true_iff.1 h).1
      rw [HLN.out] at this
      exact this
    have HN := Lib.hid ((HN0.out.trans h1).alloc (.cells #[.slice A n c, .map (some b), .string (B call), .string (B (stemV q))] 69))
    have HP := Lib.hid (heap_keep ((New.refl w1).alloc (.cells #[.slice A n c, .map (some b), .string (B call), .string (B (stemV q))] 69)) (heap_keep h1 HP0.out))
    obtain ⟨s0, s1, s2, s3⟩ := StIn.all (st_new w1 A n c (some b) (B call) (B (stemV q)))
    clear hx hq htb hd h1
    go_wp2_with fail
    refine (air_place A n c base b l call (stemV q) d _ (HL.out.keep HN.out) (hm.keep ((New.refl w1).alloc _)) h4 hs (by have := stem_len HQ.out; unfold maxLen; omega)).mono ?_
    rintro e w2 ⟨rfl, h2⟩
    have HA := Lib.hid (fun o => three_all (heap_keep ((New.refl w2).alloc o) (heap_keep h2 HP.out)))
    have r0 := fun o => (HA.out o).1
    have r1 := fun o => (HA.out o).2.1
    have r2 := fun o => (HA.out o).2.2.1
    have f0 := fun o => (HA.out o).2.2.2.1
    have f1 := fun o => (HA.out o).2.2.2.2.1
    have f2 := fun o => (HA.out o).2.2.2.2.2
    clear s0 s1 s2 s3
    cases hr : atV l call (stemV q) d with
    | none =>
      have HR := Lib.hid (plR_none HX.out HQ.out hr)
      clear hr
      rw [pl3_none]
      go_wp2_with fail
      refine bodyPost_ret (v := .tuple #[pl3 none, .int .i64 3]) (by simp [results, Tryz.results13, go_sem, r0, r1, r2, pl3_none]) rfl ⟨by rw [HR.out], ?_⟩
      exact ((((HN.out.trans h2).alloc _).setCell (Nat.le_refl _) _).setCell (Nat.le_refl _) _).setCell (Nat.le_refl _) _
    | some p =>
      have HR := Lib.hid (plR_some HX.out HQ.out hr)
      clear hr
      rw [pl3_some]
      obtain ⟨q0, q1, q2, -, -, -⟩ := three_all (pl_new w2 p.1 p.2.1 p.2.2)
      go_wp2_with fail
      refine bodyPost_ret (v := .tuple #[pl3 (some p), .int .i64 0]) (by simp [results, Tryz.results13, go_sem, r0, r1, r2, pl3_some]) rfl ⟨by rw [HR.out], ?_⟩
      exact ((((HN.out.trans h2).alloc _).setCell (Nat.le_refl _) _).setCell (Nat.le_refl _) _).setCell (Nat.le_refl _) _

end Go.Proofs.YtkbdmdnahphkkaaGreatDoor
