/-
  The row and the place of a station on a day (row, place of the program). Conditions: the texts are in memory, at most 400 rows.
-/
import Derived.Test.YtkbdmdnahphkkaaGreatDoorGTab
import Derived.Test.YtkbdmdnahphkkaaGreatDoorTabPlace
namespace Go.Proofs.YtkbdmdnahphkkaaGreatDoor
open Go.RowKit
/-- A station in a block of its own. -/
def StIn (w : World) (g : Nat) (A : Option Addr) (n c b : Nat) (call stem : Bytes) : Prop := w.heap[g]? = some (.cells #[.slice A n c, .map (some b), .string (B call), .string (B stem)] 69 (0, 0))
theorem StIn.keep {w w' : World} {g : Nat} {A : Option Addr} {n c b : Nat} {call stem : Bytes} (h : StIn w g A n c b call stem) (k : New w w') : StIn w' g A n c b call stem := heap_keep k h
theorem StIn.all {w : World} {g : Nat} {A : Option Addr} {n c b : Nat} {call stem : Bytes} (h : StIn w g A n c b call stem) :
    w.cell? ⟨g, 0, none⟩ = some (.slice A n c) ∧ w.cell? ⟨g, 1, none⟩ = some (.map (some b)) ∧ w.cell? ⟨g, 2, none⟩ = some (.string (B call)) ∧ w.cell? ⟨g, 3, none⟩ = some (.string (B stem)) := by
  unfold StIn at h
  refine ⟨?_, ?_, ?_, ?_⟩
  · rw [cell_of_row _ _ 0 _ _ _ h]; rfl
  · rw [cell_of_row _ _ 1 _ _ _ h]; rfl
  · rw [cell_of_row _ _ 2 _ _ _ h]; rfl
  · rw [cell_of_row _ _ 3 _ _ _ h]; rfl
theorem StIn.new (w : World) (A : Option Addr) (n c b : Nat) (call stem : Bytes) : StIn (w.alloc (.cells #[.slice A n c, .map (some b), .string (B call), .string (B stem)] 69)) w.heap.size A n c b call stem := heap_alloc_new w _
theorem sg_hit {l : List Rw} {s : Bytes} {d : Int} {k n j : Nat} (hn : 0 < n) (h : hitN l (s.take n) false d k = some j) : sgN l s d k n = some j := by
  obtain ⟨m, rfl⟩ : ∃ m, n = m + 1 := ⟨n - 1, by omega⟩
  rw [sgN, h]
theorem sg_miss {l : List Rw} {s : Bytes} {d : Int} {k n : Nat} (hn : 0 < n) (h : hitN l (s.take n) false d k = none) : sgN l s d k n = sgN l s d k (n - 1) := by
  obtain ⟨m, rfl⟩ : ∃ m, n = m + 1 := ⟨n - 1, by omega⟩
  rw [sgN, h]
  rfl
theorem wrap_pred (k : Nat) (h0 : 0 < k) (h : k ≤ 9223372036854775807) : wrap64 ((k : Int) - 1) = ((k - 1 : Nat) : Int) := by unfold wrap64; omega
set_option maxHeartbeats 4000000 in
theorem air_row (A : Option Addr) (n c base b : Nat) (l : List Rw) (call stem : Bytes) (d : Int) (w : World) (hl : RowsAt w A n l) (hm : MapAt w base b l n) (hn : n ≤ 400) (hc : call.length ≤ maxLen) (hs : stem.length ≤ maxLen) :
    Calls Tryz.prog 34 #[.agg #[.slice A n c, .map (some b), .string (B call), .string (B stem)], .int .i64 d] w fun e w' => e = .returned (.tuple #[.int .i64 (optI (rowOfV l call stem d)), .bool (rowOfV l call stem d).isSome]) ∧ New w w' := by
  have HL := Lib.hid hl
  have HM := Lib.hid hm
  have HS := Lib.hid hs
  have HN := Lib.hid ((New.refl w).alloc (.cells #[.slice A n c, .map (some b), .string (B call), .string (B stem)] 69))
  have HI := Lib.hid (StIn.new w A n c b call stem)
  have HT : Hid (∀ j, hitN l call true d n = some j → rowOfV l call stem d = some j) := Lib.hid (fun j h => by unfold rowOfV; rw [hl.1, h])
  have HF : Hid (hitN l call true d n = none → rowOfV l call stem d = sgN l stem d n stem.length) := Lib.hid (fun h => by unfold rowOfV; rw [hl.1, h])
  have hsz := B_size stem
  clear hl hm hs
  go_enter Tryz.func34, Tryz.ntmps34
  go_wp2_with fail
  refine (air_find A n c base b l call true d _ (HL.out.keep HN.out) (HM.out.keep HN.out) hn hc).mono ?_
  rintro e w1 ⟨rfl, h1⟩
  replace HI := Lib.hid (HI.out.keep h1)
  replace HN := Lib.hid (HN.out.trans h1)
  clear h1
  cases hh : hitN l call true d n with
  | some j =>
    have HR := Lib.hid (HT.out j hh)
    clear hh HT HF
    go_wp2_with fail
    go_ret2
    exact ⟨by rw [HR.out]; rfl, HN.out⟩
  | none =>
    have HR := Lib.hid (HF.out hh)
    clear hh HT HF
    obtain ⟨s0, s1, s2, s3⟩ := HI.out.all
    go_wp2_with fail
    clear s0 s1 s2 s3
    go_loopw [8] (fun x wr => ∃ k : Nat, k ≤ stem.length ∧ x = .int .i64 k ∧ New w1 wr ∧ Hid (sgN l stem d n stem.length = sgN l stem d n k)) (fun x _ => (intOf x).toNat)
    case atStart => exact ⟨stem.length, by omega, by simp, New.refl _, Lib.hid rfl⟩
    case round =>
      obtain ⟨k, hk, rfl, hnew, HG⟩ := hrel
      by_cases hp : 0 < k
      · have hp0 : (0 : Int) < (k : Int) := by omega
        have hp1 : (0 : Int) ≤ (k : Int) := by omega
        have hp2 : (k : Int) ≤ (stem.length : Int) := by omega
        have hwp := wrap_pred k hp (by have := HS.out; unfold maxLen at this; omega)
        have he : (B stem).extract 0 k = B (stem.take k) := by rw [B_extract]; rfl
        obtain ⟨s0, s1, s2, s3⟩ := (HI.out.keep hnew).all
        have HST := Lib.hid (fun u (hu : New wr u) => (show New wr u ∧ u.cell? ⟨w.heap.size, 0, none⟩ = some (.slice A n c) ∧ u.cell? ⟨w.heap.size, 1, none⟩ = some (.map (some b)) ∧ u.cell? ⟨w.heap.size, 3, none⟩ = some (.string (B stem)) from
          ⟨hu, hu.cellOf s0, hu.cellOf s1, hu.cellOf s3⟩))
        have HC : Hid (∀ u, New wr u → Calls Tryz.prog 64 #[.agg #[.slice A n c, .map (some b)], .agg #[.string ((B stem).extract 0 k), .bool false], .int .i64 d] u fun e w' => e = .returned (.tuple #[.int .i64 (optI (hitN l (stem.take k) false d n)), .bool (hitN l (stem.take k) false d n).isSome]) ∧ New u w') := Lib.hid (fun u hu => by
          rw [he]
          exact air_find A n c base b l (stem.take k) false d u (HL.out.keep (HN.out.trans (hnew.trans hu))) (HM.out.keep (HN.out.trans (hnew.trans hu))) hn (by rw [List.length_take]; have := HS.out; omega))
        clear he
        cases hh : hitN l (stem.take k) false d n with
        | some j =>
          have HJ : Hid (rowOfV l call stem d = some j) := Lib.hid (by rw [HR.out, HG.out, sg_hit hp hh])
          rw [hh] at HC
          clear hh
          go_wp2_with fail
          go_region_held3 (fun w' => New wr w' ∧ w'.cell? ⟨w.heap.size, 0, none⟩ = some (.slice A n c) ∧ w'.cell? ⟨w.heap.size, 1, none⟩ = some (.map (some b)) ∧ w'.cell? ⟨w.heap.size, 3, none⟩ = some (.string (B stem)))
            (first | exact HST.out _ (New.refl _).drew | exact HST.out _ (New.trans (New.refl _).drew (by assumption)) | exact HST.out _ (New.trans (by first | assumption | exact (by assumption : New _ _ ∧ _).1) (by assumption)))
            (first | (go_at_call 64; refine (HC.out _ (by first | exact (New.refl _).drew | assumption | exact (by assumption : New _ _ ∧ _).1)).mono ?_; rintro e w' ⟨rfl, hb⟩))
          clear s0 s1 s2 s3
          go_wp2_with fail
          have hn2 : New wr w' := by first | assumption | exact (by assumption : New _ w' ∧ _).1
          go_ret2
          exact ⟨by rw [HJ.out]; rfl, HN.out.trans (hnew.trans hn2)⟩
        | none =>
          have HJ : Hid (sgN l stem d n stem.length = sgN l stem d n (k - 1)) := Lib.hid (by rw [HG.out, sg_miss hp hh])
          rw [hh] at HC
          clear hh
          go_wp2_with fail
          go_region_held3 (fun w' => New wr w' ∧ w'.cell? ⟨w.heap.size, 0, none⟩ = some (.slice A n c) ∧ w'.cell? ⟨w.heap.size, 1, none⟩ = some (.map (some b)) ∧ w'.cell? ⟨w.heap.size, 3, none⟩ = some (.string (B stem)))
            (first | exact HST.out _ (New.refl _).drew | exact HST.out _ (New.trans (New.refl _).drew (by assumption)) | exact HST.out _ (New.trans (by first | assumption | exact (by assumption : New _ _ ∧ _).1) (by assumption)))
            (first | (go_at_call 64; refine (HC.out _ (by first | exact (New.refl _).drew | assumption | exact (by assumption : New _ _ ∧ _).1)).mono ?_; rintro e w' ⟨rfl, hb⟩))
          clear s0 s1 s2 s3
          go_wp2_with fail
          have hn2 : New wr w' := by first | assumption | exact (by assumption : New _ w' ∧ _).1
          exact ⟨⟨k - 1, by omega, by rw [hwp], hnew.trans hn2, HJ⟩, by simp [intOf, hwp]; omega⟩
      · obtain rfl : k = 0 := by omega
        have HZ : Hid (rowOfV l call stem d = none) := Lib.hid (by rw [HR.out, HG.out]; rfl)
        go_wp2_with fail
        go_ret2
        exact ⟨by rw [HZ.out]; rfl, HN.out.trans hnew⟩

/-- What a place reads as; the zero place: nowhere. -/
def pl3 (o : Option (Int × Int × Int)) : Value :=
  match o with
  | some p => .agg #[.int .i64 p.1, .int .i64 p.2.1, .int .i64 p.2.2]
  | none => .agg #[.int .i64 0, .int .i64 0, .int .i64 0]
theorem three_all {w : World} {g : Nat} {v0 v1 v2 : Value} {t : TypeId} (h : w.heap[g]? = some (.cells #[v0, v1, v2] t (0, 0))) :
    w.cell? ⟨g, 0, none⟩ = some v0 ∧ w.cell? ⟨g, 1, none⟩ = some v1 ∧ w.cell? ⟨g, 2, none⟩ = some v2 ∧ w.frozen? ⟨g, 0, none⟩ = false ∧ w.frozen? ⟨g, 1, none⟩ = false ∧ w.frozen? ⟨g, 2, none⟩ = false := by
  refine ⟨?_, ?_, ?_, ?_, ?_, ?_⟩
  · rw [cell_of_row _ _ 0 _ _ _ h]; rfl
  · rw [cell_of_row _ _ 1 _ _ _ h]; rfl
  · rw [cell_of_row _ _ 2 _ _ _ h]; rfl
  all_goals simp [World.frozen?, h]
theorem at_rowN {l : List Rw} {call s : Bytes} {d : Int} {i : Nat} (h : rowOfV l call s d = some i) : atV l call s d = some (plc (rowN l i)) := by unfold atV; rw [h]; rfl
theorem at_none {l : List Rw} {call s : Bytes} {d : Int} (h : rowOfV l call s d = none) : atV l call s d = none := by unfold atV; rw [h]; rfl
set_option maxHeartbeats 2000000 in
theorem air_place (A : Option Addr) (n c base b : Nat) (l : List Rw) (call stem : Bytes) (d : Int) (w : World) (hl : RowsAt w A n l) (hm : MapAt w base b l n) (hn : n ≤ 400) (hc : call.length ≤ maxLen) (hs : stem.length ≤ maxLen) :
    Calls Tryz.prog 37 #[.agg #[.slice A n c, .map (some b), .string (B call), .string (B stem)], .int .i64 d] w fun e w' => e = .returned (.tuple #[pl3 (atV l call stem d), .bool (atV l call stem d).isSome]) ∧ New w w' := by
  have HL := Lib.hid hl
  have HM := Lib.hid hm
  have HLN := Lib.hid hl.1
  have HN := Lib.hid (((New.refl w).alloc (.cells #[.slice A n c, .map (some b), .string (B call), .string (B stem)] 69)).alloc (.cells #[.int .i64 0, .int .i64 0, .int .i64 0] 30))
  have HI := Lib.hid ((StIn.new w A n c b call stem).keep ((New.refl _).alloc (.cells #[.int .i64 0, .int .i64 0, .int .i64 0] 30)))
  have HP : Hid (((w.alloc (.cells #[.slice A n c, .map (some b), .string (B call), .string (B stem)] 69)).alloc (.cells #[.int .i64 0, .int .i64 0, .int .i64 0] 30)).heap[w.heap.size + 1]? = some (.cells #[.int .i64 0, .int .i64 0, .int .i64 0] 30 (0, 0))) := by
    have := heap_alloc_new (w.alloc (.cells #[.slice A n c, .map (some b), .string (B call), .string (B stem)] 69)) (.cells #[.int .i64 0, .int .i64 0, .int .i64 0] 30)
    exact Lib.hid (by simpa using this)
  clear hl hm
  go_enter Tryz.func37, Tryz.ntmps37
  go_wp2_with fail
  refine (air_row A n c base b l call stem d _ (HL.out.keep HN.out) (HM.out.keep HN.out) hn hc hs).mono ?_
  rintro e w1 ⟨rfl, h1⟩
  replace HI := Lib.hid (HI.out.keep h1)
  replace HN := Lib.hid (HN.out.trans h1)
  replace HP := Lib.hid (heap_keep h1 HP.out)
  clear h1
  cases hr : rowOfV l call stem d with
  | none =>
    have HR := Lib.hid (at_none hr)
    clear hr
    obtain ⟨r0, r1, r2, f0, f1, f2⟩ := three_all HP.out
    go_wp2_with fail
    refine bodyPost_ret (v := .tuple #[.agg #[.int .i64 0, .int .i64 0, .int .i64 0], .bool false]) (by simp [results, Tryz.results37, go_sem, r0, r1, r2]) rfl ⟨by rw [HR.out]; rfl, ?_⟩
    exact ((HN.out.setCell (Nat.le_succ _) _).setCell (Nat.le_succ _) _).setCell (Nat.le_succ _) _
  | some i =>
    have HR := Lib.hid (at_rowN hr)
    have hi := rowOfV_in hr
    clear hr
    have hin : i < n := by rw [HLN.out] at hi; exact hi
    obtain ⟨bb, off, r, rfl, hr, _, hrow⟩ := HL.out.row HN.out hin
    have HRN : Hid (rowN l i = r) := Lib.hid (by simp [rowN, List.getD, hr])
    obtain ⟨c0, c1, c2, c3, c4, c5, c6⟩ := hrow
    have hq1 : (0 : Int) ≤ (i : Int) := by omega
    have hq2 : (i : Int) < (n : Int) := by omega
    clear hi hr
    obtain ⟨s0, s1, s2, s3⟩ := HI.out.all
    have HA := Lib.hid (fun o => three_all (heap_keep ((New.refl w1).alloc o) HP.out))
    have r0 := fun o => (HA.out o).1
    have r1 := fun o => (HA.out o).2.1
    have r2 := fun o => (HA.out o).2.2.1
    have f0 := fun o => (HA.out o).2.2.2.1
    have f1 := fun o => (HA.out o).2.2.2.2.1
    have f2 := fun o => (HA.out o).2.2.2.2.2
    simp only [optI, Option.isSome_some]
    go_wp2_with fail
    refine bodyPost_ret (v := .tuple #[.agg #[.int .i64 r.country, .int .i64 r.zone, .int .i64 r.cont], .bool true]) (by simp [results, Tryz.results37, go_sem, r0, r1, r2]) rfl ⟨by rw [HR.out, HRN.out]; rfl, ?_⟩
    exact (((HN.out.alloc _).setCell (Nat.le_succ _) _).setCell (Nat.le_succ _) _).setCell (Nat.le_succ _) _

end Go.Proofs.YtkbdmdnahphkkaaGreatDoor
