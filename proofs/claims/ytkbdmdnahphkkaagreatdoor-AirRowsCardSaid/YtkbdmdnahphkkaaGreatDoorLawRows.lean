/-
  The law AirRows returns true for every list of rows, every text and every day, and leaves its input as it was. Conditions: those of its given row and card, no other.
-/
import Derived.Test.YtkbdmdnahphkkaaGreatDoorRow
import Derived.Test.YtkbdmdnahphkkaaGreatDoorOpenRows
import Derived.Test.YtkbdmdnahphkkaaGreatDoorTabRefP
import Derived.Test.YtkbdmdnahphkkaaGreatDoorTabFits
namespace Go.Proofs.YtkbdmdnahphkkaaGreatDoor
open Go.RowKit
open Go.ChangeShapes Go.WideShapes Go.ChangeAt Go.Deep
theorem law_begins (s t : Bytes) (w : World) (ht : t.length ≤ maxLen) :
    Calls Tryz.prog 23 #[.string (B s), .string (B t)] w fun e w' => e = .returned (.bool (begB s t)) ∧ w = w' := by
  have s1 := B_size s
  have s2 := B_size t
  unfold maxLen at ht
  have HB : Hid (begB s t = (decide (t.length ≤ s.length) && decide (s.take t.length = t))) := Lib.hid rfl
  by_cases h : t.length ≤ s.length
  · rw [decide_eq_true h, Bool.true_and] at HB
    have hi : (t.length : Int) ≤ (s.length : Int) := by omega
    have h0 : (0 : Int) ≤ (t.length : Int) := by omega
    have he : (B s).extract 0 t.length = B (s.take t.length) := by rw [B_extract]; rfl
    by_cases h2 : s.take t.length = t
    · rw [decide_eq_true h2] at HB
      have g1 : ((B s).extract 0 t.length).toList = (B t).toList := by rw [he, h2]
      clear he h2
      go_enter Tryz.func23, Tryz.ntmps23
      go_wp2_with fail
      go_ret
      exact ⟨by rw [HB.out]; rfl, rfl⟩
    · rw [decide_eq_false h2] at HB
      have g1 : ¬ ((B s).extract 0 t.length).toList = (B t).toList := by rw [he]; exact bytes_ne h2
      have g2 : (((B s).extract 0 t.length).toList == (B t).toList) = false := by rw [beq_eq_false_iff_ne]; exact g1
      clear he h2
      go_enter Tryz.func23, Tryz.ntmps23
      go_wp2_with fail
      go_ret
      exact ⟨by rw [HB.out]; rfl, rfl⟩
  · rw [decide_eq_false h, Bool.false_and] at HB
    have hi : (s.length : Int) < (t.length : Int) := by omega
    go_enter Tryz.func23, Tryz.ntmps23
    go_wp2_with fail
    go_ret
    exact ⟨by rw [HB.out]; rfl, rfl⟩
theorem pl3_aggR (o : Option (Int × Int × Int)) : ∃ x y z : Int, pl3 o = .agg #[.int .i64 x, .int .i64 y, .int .i64 z] := by
  cases o with
  | none => exact ⟨0, 0, 0, rfl⟩
  | some p => exact ⟨p.1, p.2.1, p.2.2, rfl⟩
theorem ask_split {l : List Rw} {o : Option P4} {d : Int} (ht : tabB l = true) : (p4E o ≠ 0 ∧ askV l o d = 10) ∨ (p4E o = 0 ∧ ((d < 0 ∧ askV l o d = 1) ∨ (¬ d < 0 ∧ 99999 < d ∧ askV l o d = 1) ∨ (¬ d < 0 ∧ ¬ 99999 < d ∧ ∃ q, o = some q ∧ askV l o d = 0))) := by
  cases o with
  | none => exact .inl ⟨by decide, ask_call ht rfl⟩
  | some q =>
    refine .inr ⟨rfl, ?_⟩
    by_cases h1 : d < 0
    · exact .inl ⟨h1, ask_day ht rfl (by unfold withinB; rw [decide_eq_false (by omega)]; rfl)⟩
    · by_cases h2 : 99999 < d
      · exact .inr (.inl ⟨h1, h2, ask_day ht rfl (by unfold withinB; rw [decide_eq_false (p := d ≤ 99999) (by omega), Bool.and_false])⟩)
      · exact .inr (.inr ⟨h1, h2, q, rfl, ask_ok ht rfl (withinB_iff.2 (by omega))⟩)
theorem grown_keep {w w' : World} {row : Option Nat} (h : w.grownBy w' row) {g : Nat} {o : Obj} (hg : w.heap[g]? = some o) (hne : ¬ row = some g) : w'.heap[g]? = some o := by
  rw [h.block g (Array.getElem?_eq_some_iff.1 hg).1 (fun e => hne e.symm)]
  exact hg
set_option maxRecDepth 100000 in
set_option maxHeartbeats 8000000 in
theorem law_rows (A : Option Addr) (n c : Nat) (l : List Rw) (call : Bytes) (d : Int) (w : World) (hm : HasMax w) (hl : RowsAt w A n l) (ht : TextsIn l) (hn : n ≤ c) (hc : c ≤ 9223372036854775807) (hs : call.length ≤ maxLen) :
    Calls Tryz.prog 5 #[.slice A n c, .string (B call), .int .i64 d] w fun e w' => e = .returned (.bool true) ∧ New w w' := by
  have HL := Lib.hid hl
  have HLN := Lib.hid hl.1
  have HMX := Lib.hid hm
  have hn9 : n ≤ 9223372036854775807 := by omega
  have sc := B_size call
  obtain ⟨i0, hi, hz0, hz1, hz2⟩ := bytes_p
  clear hl hn hc hm
  go_enter Tryz.func5, Tryz.ntmps5
  go_wp2_with fail
  refine (law_awake w HMX.out).mono ?_
  rintro e w1 ⟨rfl, h1⟩
  have HN1 := Lib.hid h1
  clear h1
  by_cases g1 : 60 < n
  · have i1 : (60 : Int) < (n : Int) := by omega
    go_wp2_with fail
    go_ret
    exact ⟨rfl, HN1.out⟩
  by_cases g3 : 1000 < call.length
  · have i1 : ¬ (60 : Int) < (n : Int) := by omega
    have i5 : (1000 : Int) < (call.length : Int) := by omega
    go_wp2_with fail
    go_ret
    exact ⟨rfl, HN1.out⟩
  have i1 : ¬ (60 : Int) < (n : Int) := by omega
  have i5 : ¬ (1000 : Int) < (call.length : Int) := by omega
  go_wp2_with fail
  refine (ref_ValidTable A n c l w1 (HL.out.keep HN1.out) hn9 ht).mono ?_
  rintro e w2 ⟨rfl, h2⟩
  have HN2 := Lib.hid (HN1.out.trans h2)
  clear h2
  cases htb : tabB l with
  | false =>
    go_wp2_with fail
    go_ret
    exact ⟨rfl, HN2.out⟩
  | true =>
    have HTB := Lib.hid htb
    clear htb
    go_wp2_with fail
    refine (air_RowOf A n c l call d w2 (HMX.out.keep HN2.out) (HL.out.keep HN2.out) hn9 ht hs).mono ?_
    rintro e w3 ⟨rfl, h3⟩
    have HN3 := Lib.hid (HN2.out.trans h3)
    obtain ⟨ri, hri⟩ : ∃ x, (rowR l call d).1 = x := ⟨_, rfl⟩
    obtain ⟨re, hre⟩ : ∃ x, (rowR l call d).2 = x := ⟨_, rfl⟩
    have HRI := Lib.hid hri
    have HRE := Lib.hid hre
    rw [hri, hre]
    clear h3 hri hre
    go_wp2_with fail
    refine (air_PlaceOf A n c l call d w3 (HMX.out.keep HN3.out) (HL.out.keep HN3.out) hn9 ht hs).mono ?_
    rintro e w4 ⟨rfl, h4⟩
    have HPE : Hid ((plR l call d).2 = re) := Lib.hid (by rw [← rowR_plR, HRE.out])
    obtain ⟨px, py, pz, hp⟩ := pl3_aggR (plR l call d).1
    have HP := Lib.hid hp
    rw [HPE.out, hp]
    have HN4 := Lib.hid ((HN3.out.trans h4).alloc (.cells #[.int .i64 px, .int .i64 py, .int .i64 pz] 30))
    have HP4 := Lib.hid (pl_new w4 px py pz)
    clear h4 hp
    go_wp2_with fail
    generalize hW : w4.alloc (.cells #[.int .i64 px, .int .i64 py, .int .i64 pz] 30) = W4 at *
    clear hW
    generalize w4.heap.size = gp at *
    refine (air_Split (B call) W4 (HMX.out.keep HN4.out) (by omega)).mono ?_
    rintro e w5 ⟨rfl, h5⟩
    rw [bs_B]
    cases hsp : splitV call with
    | none =>
      have HR := Lib.hid (rowR_bad (ask_call (d := d) HTB.out hsp) (by decide))
      have hre : re = 10 := by rw [← HRE.out, HR.out]
      clear hsp
      simp only [p4V, p4E, partsV]
      go_wp2_with fail
      go_ret
      exact ⟨rfl, (HN4.out.trans h5).alloc _⟩
    | some q =>
      have HSP := Lib.hid hsp
      have hlen := splitV_len hsp
      simp only [p4V, p4E, partsV]
      by_cases d1 : d < 0
      · have HR := Lib.hid (rowR_bad (ask_day HTB.out hsp (d := d) (by unfold withinB; rw [decide_eq_false (by omega)]; rfl)) (by decide))
        have hre : re = 1 := by rw [← HRE.out, HR.out]
        clear hsp
        go_wp2_with fail
        go_ret
        exact ⟨rfl, (HN4.out.trans h5).alloc _⟩
      by_cases d2 : 99999 < d
      · have HR := Lib.hid (rowR_bad (ask_day HTB.out hsp (d := d) (by unfold withinB; rw [decide_eq_false (p := d ≤ 99999) (by omega), Bool.and_false])) (by decide))
        have hre : re = 1 := by rw [← HRE.out, HR.out]
        clear hsp
        go_wp2_with fail
        go_ret
        exact ⟨rfl, (HN4.out.trans h5).alloc _⟩
      have HASK := Lib.hid (ask_ok HTB.out hsp (d := d) (withinB_iff.2 (by omega)))
      have HN5 := Lib.hid ((HN4.out.trans h5).alloc (.cells #[.string (B q.area), .string (B q.pre), .string (B q.suf), .string (B q.stroke)] 45))
      have HP5 := Lib.hid (heap_keep (h5.alloc (.cells #[.string (B q.area), .string (B q.pre), .string (B q.suf), .string (B q.stroke)] 45)) HP4.out)
      clear hsp h5 HP4
      have eA := B_empty q.area
      obtain ⟨stem, hstem⟩ : ∃ x, stemV q = x := ⟨_, rfl⟩
      have HST := Lib.hid hstem
      have hsl : stem.length ≤ 8 := by rw [← hstem]; exact stem_len HSP.out
      have hsz2 := B_size stem
      have hq1 : ¬ 9223372036854775807 < (B q.pre).size + (B q.suf).size := by rw [B_size, B_size]; omega
      by_cases ha : q.area = []
      case' pos =>
        have eA' : (B q.area).toList.isEmpty = true := by rw [eA, ha]; rfl
        have HS2 : Hid (B q.pre ++ B q.suf = B stem) := Lib.hid (by rw [B_append, ← hstem]; unfold stemV; rw [if_pos ha])
        clear eA ha hstem hlen
        go_wp2_with fail
        generalize hW : w5.alloc (.cells #[.string (B q.area), .string (B q.pre), .string (B q.suf), .string (B q.stroke)] 45) = W5 at *
        clear hW
        generalize w5.heap.size = g5 at *
        rw [HS2.out]
      case' neg =>
        have eA' : (B q.area).toList.isEmpty = false := by rw [eA]; simpa using ha
        have HS2 : Hid (B q.area = B stem) := Lib.hid (by rw [← hstem]; unfold stemV; rw [if_neg ha])
        clear eA ha hstem hlen
        go_wp2_with fail
        generalize hW : w5.alloc (.cells #[.string (B q.area), .string (B q.pre), .string (B q.suf), .string (B q.stroke)] 45) = W5 at *
        clear hW
        generalize w5.heap.size = g5 at *
        rw [HS2.out]
      all_goals
        clear HS2 eA' hq1
        have HB0 := Lib.hid (RowsOwn.start W5.heap.size W5)
        go_loopw [15, 16, 17, 18] (fun v lo wh x wr => ∃ k : Nat, k ≤ n ∧ x = .int .i64 k ∧ lo = .int .i64 (longV (fitsV (l.take k) call stem d)) ∧ wh = .bool (wholeV (fitsV (l.take k) call stem d)) ∧ RowsOwn W5.heap.size (fitsV (l.take k) call stem d) v wr ∧ New W5 wr) (fun _ _ _ x _ => n - (intOf x).toNat)
        case atStart => exact ⟨0, by omega, rfl, rfl, rfl, HB0.out, New.refl _⟩
        case round =>
          obtain ⟨k, hk, rfl, rfl, rfl, hown, hnew⟩ := hrel
          have HOWN := Lib.hid hown
          by_cases hlt : k < n
          · obtain ⟨bb, off, r, rfl, hr, -, hrow⟩ := HL.out.row (HN5.out.trans hnew) hlt
            obtain ⟨rt, rcy, rz, rco, rf, rl, rwh⟩ := r
            obtain ⟨c0, c1, c2, c3, c4, c5, c6⟩ := hrow
            dsimp only at c0 c1 c2 c3 c4 c5 c6
            have hrt : rt.length ≤ maxLen := ht _ (List.mem_of_getElem? hr)
            have HT := Lib.hid hr
            clear hr
            by_cases e1 : d < rf
            · have HF := Lib.hid (fits_out (call := call) (s := stem) HT.out (d := d) (by unfold fitB forceB withinB; dsimp only; rw [decide_eq_false (by omega)]; rfl))
              go_wp2_with fail
              exact ⟨⟨k + 1, by omega, rfl, by rw [HF.out], by rw [HF.out], by rw [HF.out]; exact HOWN.out.keep ((New.refl wr).alloc _), hnew.alloc _⟩, by simp [intOf]; omega⟩
            by_cases e2 : rl < d
            · have HF := Lib.hid (fits_out (call := call) (s := stem) HT.out (d := d) (by unfold fitB forceB withinB; dsimp only; rw [decide_eq_false (p := d ≤ rl) (by omega)]; simp))
              go_wp2_with fail
              exact ⟨⟨k + 1, by omega, rfl, by rw [HF.out], by rw [HF.out], by rw [HF.out]; exact HOWN.out.keep ((New.refl wr).alloc _), hnew.alloc _⟩, by simp [intOf]; omega⟩
            have HFO : Hid (forceB d ⟨rt, rcy, rz, rco, rf, rl, rwh⟩ = true) := Lib.hid (by unfold forceB; exact withinB_iff.2 (by dsimp only; omega))
            have htl : (fitsV (l.take k) call stem d).length ≤ k := Nat.le_trans (List.length_filter_le _ _) (by rw [List.length_take]; omega)
            have hns := hnew.size
            have hown2 := HOWN.out
            unfold RowsOwn at hown2
            cases rwh with
            | true =>
              by_cases e3 : rt = call
              · subst e3
                have HF := Lib.hid (fits_in (call := rt) (s := stem) HT.out (d := d) (by unfold fitB; rw [HFO.out]; simp))
                have HLW := Lib.hid (long_add (fitsV (l.take k) rt stem d) ⟨rt, rcy, rz, rco, rf, rl, true⟩)
                have HWH := Lib.hid (whole_add (fitsV (l.take k) rt stem d) ⟨rt, rcy, rz, rco, rf, rl, true⟩)
                rw [if_pos rfl] at HLW
                rw [Bool.or_true] at HWH
                clear hown
                generalize fitsV (l.take k) rt stem d = fv at *
                go_wp2_with (at_builtin; refine wpList_append_own _ rfl (.tmp 126) (.tmp 128) 22 rfl W5.heap.size 49 i0 _ 7 i0.bytes Tryz.underlying22 hi hz0 hz1 rfl rfl (by decide) _ _ _ rfl ((hown2.alloc _).alloc _) ⟨wr.heap.size + 1, 0, none⟩ 1 1 (rowL ⟨rt, rcy, rz, rco, rf, rl, true⟩) rfl rfl ?c1 ?c2 ?c3 ?c4 ?c5 ?_)
                case c1 => exact fun _ _ h => h
                case c2 => exact seven_one _
                case c3 => unfold maxLen; omega
                case c4 => exact Nat.le_trans (Nat.mul_le_mul (show fv.length + 1 ≤ 61 by omega) hz2) (by decide)
                case c5 => first | omega | (simp; omega)
                · intro v' w6 hown' hgrow _
                  have hN : New W5 w6 := ((hnew.alloc (.cells #[.string (B rt), .int .i64 rcy, .int .i64 rz, .int .i64 rco, .int .i64 rf, .int .i64 rl, .bool true] 49)).alloc (.cells #[.string (B rt), .int .i64 rcy, .int .i64 rz, .int .i64 rco, .int .i64 rf, .int .i64 rl, .bool true] 49)).out.grown hgrow (by simp; omega) (fun b hb => (hown2.lt b hb).1)
                  have R : RowsOwn W5.heap.size (fv ++ [⟨rt, rcy, rz, rco, rf, rl, true⟩]) v' w6 := by
                    unfold RowsOwn
                    rw [List.length_append, List.flatMap_append]
                    simpa using hown'
                  have hRI := RowIn.keep (RowIn.new wr ⟨rt, rcy, rz, rco, rf, rl, true⟩) ((New.refl _).alloc (.cells #[.string (B rt), .int .i64 rcy, .int .i64 rz, .int .i64 rco, .int .i64 rf, .int .i64 rl, .bool true] 49))
                  obtain ⟨k0, k1, k2, k3, k4, k5, k6⟩ := RowIn.cells (r := ⟨rt, rcy, rz, rco, rf, rl, true⟩) (grown_keep hgrow hRI (fun e => by have := (hown2.lt _ e).2; omega))
                  simp only [Nat.zero_add] at k1 k2 k3 k4 k5 k6
                  clear hown' hgrow hown2 c0 c1 c2 c3 c4 c5 c6 hRI
                  cases hwv : wholeV fv
                  all_goals
                    have HWV := Lib.hid hwv
                    clear hwv
                    go_wp2_with fail
                    exact ⟨⟨k + 1, by omega, rfl, by rw [HF.out, HLW.out], by rw [HF.out, HWH.out], by rw [HF.out]; exact R, hN⟩, by simp [intOf]; omega⟩
              · have HF := Lib.hid (fits_out (call := call) (s := stem) HT.out (d := d) (by unfold fitB; simp [e3]))
                have g1 : ¬ (B rt).toList = (B call).toList := bytes_ne e3
                have g2 : ((B rt).toList == (B call).toList) = false := by rw [beq_eq_false_iff_ne]; exact g1
                go_wp2_with fail
                exact ⟨⟨k + 1, by omega, rfl, by rw [HF.out], by rw [HF.out], by rw [HF.out]; exact HOWN.out.keep ((New.refl wr).alloc _), hnew.alloc _⟩, by simp [intOf]; omega⟩
            | false =>
              go_wp2_with fail
              refine (law_begins stem rt _ hrt).mono ?_
              rintro e w6 ⟨rfl, rfl⟩
              cases hb : begB stem rt with
              | false =>
                have HF := Lib.hid (fits_out (call := call) (s := stem) HT.out (d := d) (by unfold fitB; simp [hb]))
                go_wp2_with fail
                exact ⟨⟨k + 1, by omega, rfl, by rw [HF.out], by rw [HF.out], by rw [HF.out]; exact HOWN.out.keep ((New.refl wr).alloc _), hnew.alloc _⟩, by simp [intOf]; omega⟩
              | true =>
                have HF := Lib.hid (fits_in (call := call) (s := stem) HT.out (d := d) (by unfold fitB; rw [HFO.out]; simp [hb]))
                have HLW := Lib.hid (long_add (fitsV (l.take k) call stem d) ⟨rt, rcy, rz, rco, rf, rl, false⟩)
                have HWH := Lib.hid (whole_add (fitsV (l.take k) call stem d) ⟨rt, rcy, rz, rco, rf, rl, false⟩)
                rw [if_neg (by simp)] at HLW
                rw [Bool.or_false] at HWH
                have srt := B_size rt
                clear hown
                generalize fitsV (l.take k) call stem d = fv at *
                go_wp2_with (at_builtin; refine wpList_append_own _ rfl (.tmp 126) (.tmp 128) 22 rfl W5.heap.size 49 i0 _ 7 i0.bytes Tryz.underlying22 hi hz0 hz1 rfl rfl (by decide) _ _ _ rfl ((hown2.alloc _).alloc _) ⟨wr.heap.size + 1, 0, none⟩ 1 1 (rowL ⟨rt, rcy, rz, rco, rf, rl, false⟩) rfl rfl ?c1 ?c2 ?c3 ?c4 ?c5 ?_)
                case c1 =>
                  have h := seven_new (wr.alloc (.cells #[.string (B rt), .int .i64 rcy, .int .i64 rz, .int .i64 rco, .int .i64 rf, .int .i64 rl, .bool false] 49)) ⟨rt, rcy, rz, rco, rf, rl, false⟩
                  rw [show (wr.alloc (.cells #[.string (B rt), .int .i64 rcy, .int .i64 rz, .int .i64 rco, .int .i64 rf, .int .i64 rl, .bool false] 49)).heap.size = wr.heap.size + 1 by simp] at h
                  exact h
                case c2 => exact seven_one _
                case c3 => unfold maxLen; omega
                case c4 => exact Nat.le_trans (Nat.mul_le_mul (show fv.length + 1 ≤ 61 by omega) hz2) (by decide)
                case c5 => first | omega | (simp; omega)
                · intro v' w6 hown' hgrow _
                  have hN : New W5 w6 := ((hnew.alloc (.cells #[.string (B rt), .int .i64 rcy, .int .i64 rz, .int .i64 rco, .int .i64 rf, .int .i64 rl, .bool false] 49)).alloc (.cells #[.string (B rt), .int .i64 rcy, .int .i64 rz, .int .i64 rco, .int .i64 rf, .int .i64 rl, .bool false] 49)).out.grown hgrow (by simp; omega) (fun b hb => (hown2.lt b hb).1)
                  have R : RowsOwn W5.heap.size (fv ++ [⟨rt, rcy, rz, rco, rf, rl, false⟩]) v' w6 := by
                    unfold RowsOwn
                    rw [List.length_append, List.flatMap_append]
                    simpa using hown'
                  have hRI := RowIn.keep (RowIn.new wr ⟨rt, rcy, rz, rco, rf, rl, false⟩) ((New.refl _).alloc (.cells #[.string (B rt), .int .i64 rcy, .int .i64 rz, .int .i64 rco, .int .i64 rf, .int .i64 rl, .bool false] 49))
                  obtain ⟨k0, k1, k2, k3, k4, k5, k6⟩ := RowIn.cells (r := ⟨rt, rcy, rz, rco, rf, rl, false⟩) (grown_keep hgrow hRI (fun e => by have := (hown2.lt _ e).2; omega))
                  simp only [Nat.zero_add] at k1 k2 k3 k4 k5 k6
                  clear hown' hgrow hown2 c0 c1 c2 c3 c4 c5 c6 hRI
                  cases hwv : wholeV fv
                  all_goals
                    have HWV := Lib.hid hwv
                    clear hwv
                    go_wp2_with fail
                    exact ⟨⟨k + 1, by omega, rfl, by rw [HF.out, HLW.out], by rw [HF.out, HWH.out, HWV.out], by rw [HF.out]; exact R, hN⟩, by simp [intOf]; omega⟩
          · obtain rfl : k = n := by omega
            have HTK : Hid (l.take k = l) := Lib.hid (List.take_of_length_le (by rw [HLN.out]; omega))
            rw [HTK.out] at HOWN ⊢
            have HNW := Lib.hid (HN5.out.trans hnew)
            have HPW := Lib.hid (heap_keep hnew HP5.out)
            have HLNG := Lib.hid (fun (i : Nat) (h : rowOfV l call stem d = some i) => row_long h)
            have HWHO := Lib.hid (fun (i : Nat) (h : rowOfV l call stem d = some i) => row_whole h)
            have HIN := Lib.hid (fun (i : Nat) (h : rowOfV l call stem d = some i) => row_in h)
            have HNO := Lib.hid (fun (h : rowOfV l call stem d = none) => row_none (rows_of_tab HTB.out) h)
            have HFT := Lib.hid (filter_tab (fitB call stem d) HTB.out)
            have HFA := Lib.hid (fits_at HTB.out call stem d)
            have HFI : Hid (∀ r ∈ fitsV l call stem d, r ∈ l) := Lib.hid (fun r hr => (fit_mem.1 hr).1)
            have HFL : Hid ((fitsV l call stem d).length ≤ l.length) := Lib.hid (List.length_filter_le _ _)
            change Hid (tabB (fitsV l call stem d) = true) at HFT
            clear HTK hown hnew HN5 HP5
            generalize fitsV l call stem d = fv at *
            generalize longV fv = lg at *
            generalize hwv : wholeV fv = wv at *
            cases hro : rowOfV l call stem d with
            | none =>
              have hre : re = 3 := by rw [← HRE.out, rowR_none HASK.out HSP.out (by rw [HST.out]; exact hro)]
              have hf0 := HNO.out hro
              have ho := HOWN.out
              unfold RowsOwn at ho
              rw [hf0] at ho
              clear hro HLNG HWHO HIN HNO
              rcases ho.2 with ⟨rfl, -⟩ | ⟨g, cap, cur, rfl, -⟩
              · go_wp2_with fail
                go_ret
                exact ⟨rfl, HNW.out⟩
              · go_wp2_with fail
                go_ret
                exact ⟨rfl, HNW.out⟩
            | some i =>
              have hrr := rowR_some HASK.out HSP.out (d := d) (by rw [HST.out]; exact hro)
              have hre : re = 0 := by rw [← HRE.out, hrr]
              have hri : ri = (i : Int) := by rw [← HRI.out, hrr]
              have hil := rowOfV_in hro
              rw [HLN.out] at hil
              have HRO := Lib.hid hro
              have hpos : 0 < fv.length := List.length_pos_of_mem (HIN.out i hro)
              obtain ⟨g, cap, rfl, hcap, -, hat, -⟩ := HOWN.out.at hpos
              have HAT := Lib.hid hat
              obtain ⟨bb, off, r, rfl, hr, -, hrow⟩ := HL.out.row HNW.out hil
              have hrn : rowN l i = r := by unfold rowN; rw [List.getD_eq_getElem?_getD, hr]; rfl
              have hfit := row_fit hro
              have hwho := HWHO.out i hro
              have hlng := HLNG.out i hro
              rw [hrn] at hfit hwho hlng
              have HPL : Hid (plR l call d = (some (plc r), 0)) := Lib.hid (plR_some HASK.out HSP.out (by rw [HST.out, fits_place hro, hrn]))
              have HPF : Hid (plR fv call d = (some (plc r), 0)) := Lib.hid (plR_some (ask_ok HFT.out HSP.out (ask_zero HASK.out).2.1) HSP.out (by rw [HST.out, HFA.out, fits_place hro, hrn]))
              have hp3 := HP.out
              rw [HPL.out, pl3_some] at hp3
              obtain ⟨rt, rcy, rz, rco, rf, rl, rwh⟩ := r
              obtain ⟨c0, c1, c2, c3, c4, c5, c6⟩ := hrow
              dsimp only at c0 c1 c2 c3 c4 c5 c6 hwho
              simp only [plc, Value.agg.injEq, Array.mk.injEq, List.cons.injEq, Value.int.injEq, true_and, and_true] at hp3
              obtain ⟨rfl, rfl, rfl⟩ := hp3
              have HP2 : Hid (pl3 (plR fv call d).1 = .agg #[.int .i64 rcy, .int .i64 rz, .int .i64 rco]) := Lib.hid (by rw [HPF.out]; rfl)
              have HP3 : Hid ((plR fv call d).2 = 0) := Lib.hid (by rw [HPF.out])
              have HTF : Hid (TextsIn fv) := Lib.hid (fun r hr => ht r (HFI.out r hr))
              have hfl : fv.length ≤ 9223372036854775807 := by have := HFL.out; rw [HLN.out] at this; omega
              have HR6 := Lib.hid (RowIn.new wr ⟨rt, rcy, rz, rco, rf, rl, rwh⟩)
              have HN6 := Lib.hid ((New.refl wr).alloc (.cells #[.string (B rt), .int .i64 rcy, .int .i64 rz, .int .i64 rco, .int .i64 rf, .int .i64 rl, .bool rwh] 49))
              have srt := B_size rt
              have hrt : rt.length ≤ maxLen := ht _ (List.mem_of_getElem? hr)
              unfold fitB at hfit
              simp only [Bool.and_eq_true] at hfit
              have hfo := hfit.1
              unfold forceB at hfo
              rw [withinB_iff] at hfo
              dsimp only at hfo
              have hfit2 := hfit.2
              clear hro HLNG HWHO HIN HNO hrr hrn hr hat hfit HPL HPF hwv
              cases rwh with
              | true =>
                subst hwho
                rw [if_pos rfl] at hfit2
                have hrc : rt = call := by simpa using hfit2
                subst hrc
                clear hfit2 hlng
                go_wp2_with fail
                refine (air_PlaceOf (some ⟨g, 0, none⟩) fv.length cap fv rt d _ (HMX.out.keep (HNW.out.trans HN6.out)) (HAT.out.keep HN6.out) hfl HTF.out hs).mono ?_
                rintro e w7 ⟨rfl, h7⟩
                rw [HP2.out, HP3.out]
                have HK7 := Lib.hid (h7.alloc (.cells #[.int .i64 rcy, .int .i64 rz, .int .i64 rco] 30))
                obtain ⟨q0, q1, q2, -, -, -⟩ := three_all (pl_new w7 rcy rz rco)
                obtain ⟨p0, p1, p2, -, -, -⟩ := three_all (heap_keep (HN6.out.trans HK7.out) HPW.out)
                obtain ⟨k0, k1, k2, k3, k4, k5, k6⟩ := (HR6.out.keep HK7.out).cells
                simp only [Nat.zero_add] at k1 k2 k3 k4 k5 k6
                clear h7 c0 c1 c2 c3 c4 c5 c6
                go_wp2_with fail
                go_ret
                exact ⟨rfl, HNW.out.trans (HN6.out.trans HK7.out)⟩
              | false =>
                subst hwho
                rw [if_neg (by simp)] at hfit2
                have hlg := hlng rfl
                subst hlg
                clear hlng
                go_wp2_with fail
                refine (law_begins stem rt _ hrt).mono ?_
                rintro e w7 ⟨rfl, rfl⟩
                rw [hfit2]
                go_wp2_with fail
                refine (air_PlaceOf (some ⟨g, 0, none⟩) fv.length cap fv call d _ (HMX.out.keep (HNW.out.trans HN6.out)) (HAT.out.keep HN6.out) hfl HTF.out hs).mono ?_
                rintro e w7 ⟨rfl, h7⟩
                rw [HP2.out, HP3.out]
                have HK7 := Lib.hid (h7.alloc (.cells #[.int .i64 rcy, .int .i64 rz, .int .i64 rco] 30))
                obtain ⟨q0, q1, q2, -, -, -⟩ := three_all (pl_new w7 rcy rz rco)
                obtain ⟨p0, p1, p2, -, -, -⟩ := three_all (heap_keep (HN6.out.trans HK7.out) HPW.out)
                obtain ⟨k0, k1, k2, k3, k4, k5, k6⟩ := (HR6.out.keep HK7.out).cells
                simp only [Nat.zero_add] at k1 k2 k3 k4 k5 k6
                clear h7 c0 c1 c2 c3 c4 c5 c6
                go_wp2_with fail
                go_ret
                exact ⟨rfl, HNW.out.trans (HN6.out.trans HK7.out)⟩
theorem law_rows_at (A : Option Addr) (n c : Nat) (l : List Rw) (s : ByteArray) (d : Int) (w : World) (hm : HasMax w) (hl : RowsAt w A n l) (ht : TextsIn l) (hn : n ≤ c) (hc : c ≤ 9223372036854775807) (hs : s.size ≤ maxLen) :
    Calls Tryz.prog 5 #[.slice A n c, .string s, .int .i64 d] w fun e w' => e = .returned (.bool true) ∧ New w w' := by
  have h := law_rows A n c l (bs s) d w hm hl ht hn hc (by rw [bs_size]; exact hs)
  simpa only [B_bs] using h
namespace LawRows
theorem reads : ∀ t ∈ Tryz.f5.params.toList, Tryz.prog.readableRec t = true ∧ t < Tryz.prog.types.size := by
  rw [Tryz.params5]
  intro t ht
  have ht : t = 22 ∨ t = 9 ∨ t = 3 := by simpa using ht
  rcases ht with rfl | rfl | rfl
  · exact ⟨by kernel_rfl, of_decide_eq_true (by kernel_rfl)⟩
  · exact ⟨by kernel_rfl, of_decide_eq_true (by kernel_rfl)⟩
  · exact ⟨by kernel_rfl, of_decide_eq_true (by kernel_rfl)⟩
set_option maxRecDepth 100000 in
theorem contract (H : Type) (enc : TypeId × Value → H) (W : World) (base : Nat) (args : Array Value) (ds gs : List (DataW H)) (before : List MemPlace)
    (hval : ∀ (j : Nat) t v, Tryz.f5.params[j]? = some t → args[j]? = some v → Value.okWide Tryz.prog W .any base t v)
    (hW : DataW.Whole enc Tryz.prog Tryz.f5.params.toList Rows.airRowsSpec.vars false W args.toList ds gs before) (hS : W.ShapedOpen Tryz.prog) :
    Calls Tryz.prog 5 args W fun e W' => ∃ v, e = .returned v ∧ Rows.airRowsSpec.post enc Tryz.prog Tryz.f5 false true false false W args v W' := by
  have hW' := hW
  obtain ⟨p, q, hA0, hV, rfl, hfz, hnd⟩ := hW
  have hA : DataW.TrodAll enc Tryz.prog W 0 (fun _ => true) true Tryz.f5.params.toList args.toList ds p := hA0
  rw [Tryz.params5] at hA hval
  obtain ⟨v0, vs0, d0, ds0, p0, q0, hargs, rfl, rfl, h0, r0⟩ := trodAll_cons hA
  obtain ⟨v1, vs1, d1, ds1, p1, q1, rfl, rfl, rfl, h1, r1⟩ := trodAll_cons r0
  obtain ⟨v2, vs2, d2, ds2, p2, q2, rfl, rfl, rfl, h2, r2⟩ := trodAll_cons r1
  obtain ⟨rfl, rfl, rfl⟩ := trodAll_nil r2
  obtain rfl : args = #[v0, v1, v2] := by cases args; simp_all
  obtain ⟨rfl, rfl⟩ := trodVars_none hV
  have hv0 := hval 0 22 v0 rfl rfl
  have hv1 := hval 1 9 v1 rfl rfl
  have hv2 := hval 2 3 v2 rfl rfl
  clear hval
  obtain ⟨A0, n0, c0, rfl⟩ := okWide_slice Tryz.underlying22 hv0
  obtain ⟨l0, hl0, ht0, hn0, hc0⟩ := open_rows h0
  obtain ⟨a1, rfl, rfl, rfl, hb1⟩ := Go.ChangeMaps.open_string Tryz.underlying9 hv1 h1
  obtain ⟨a2, rfl, rfl, rfl, hw2⟩ := open_int Tryz.underlying3 hv2 h2
  refine (law_rows_at A0 n0 c0 l0 a1 a2 W (max_of_shaped hS) hl0 ht0 hn0 hc0 hb1).mono fun e W' ⟨he, hb⟩ => ?_
  subst he
  exact ⟨_, rfl, post_true hW' rfl (by kernel_rfl) ⟨rfl, rfl, rfl⟩ reads hb⟩
theorem laid_met (os : Os) : laidMet Tryz.prog Rows.airRowsRow.laid ((laidWorld os).forCall (fun _ _ => 0) ⟨#[], #[.slice none 0 0, .string ⟨#[]⟩, .int .i64 0], []⟩).memory :=
  laidMet_of_run' 8 (by kernel_rfl) (by kernel_rfl)
theorem reads_w (os : Os) {H : Type} (enc : TypeId × Value → H) : ∃ places, DataW.whole enc Tryz.prog ((laidWorld os).forCall (fun _ _ => 0) ⟨#[], #[.slice none 0 0, .string ⟨#[]⟩, .int .i64 0], []⟩).memory Tryz.f5.params.toList Rows.airRowsSpec.vars false #[Value.slice none 0 0, .string ⟨#[]⟩, .int .i64 0].toList 8 = some ([.nil, .lit (.string []), .lit (.int .i64 0)], [], places) :=
  ⟨[], by kernel_rfl⟩
set_option maxRecDepth 100000 in
theorem lifted (os : Os) (started : os.Started) (H : Type) (enc : TypeId × Value → H) (F : Stop.Interp) :
    ReturnsInHanded {} Tryz.checked os 5 .any ((OpenSpec.ofChange Rows.airRowsSpec).preRow enc Tryz.prog Tryz.f5 Rows.airRowsRow.domain false Rows.airRowsRow.laid) (((OpenSpec.ofChange Rows.airRowsSpec).at F).post enc Tryz.prog Tryz.f5 false true false false) := by
  obtain ⟨places, hx⟩ := reads_w os enc
  refine returnsInHanded_of_row (C := Tryz.checked) (s := OpenSpec.ofChange Rows.airRowsSpec) row_own started (by kernel_rfl) Tryz.func5
    (witness_row_at (enc := enc) (C := Tryz.checked) false (laidWorld os) #[.slice none 0 0, .string ⟨#[]⟩, .int .i64 0] rfl (by kernel_rfl) (by kernel_rfl) (by kernel_rfl)
      (OpenSpec.preRow_of_cond 8 hx (by kernel_rfl) (fun k hk => by cases hk) (by kernel_rfl) (laid_met os))) ?_
  intro W base args ds gs before hval hW _ _ _ _ hS _
  exact contract H enc W base args ds gs before hval hW hS
theorem said : Rows.AirRowsSaid :=
  OpenClaim.holds_of_cond 5 Tryz.f5 rfl rfl rfl rfl rfl rfl rfl ⟨rfl, rfl, rfl, rfl, rfl⟩ rfl rfl rfl rfl rfl (by kernel_rfl) Tryz.func5 (by kernel_rfl)
    (of_decide_eq_true (by kernel_rfl)) (by unfold Func.isWrapper; first | (rw [if_pos (by decide +kernel)]; kernel_rfl) | (rw [if_neg (by decide +kernel)]; exact ⟨rfl, rfl⟩))
    (fun os started H enc _ F => by rw [OpenClaim.pre_eq_preRow]; exact lifted os started H enc F)
theorem plain (f : FuncId) (fn : Func) (hf : Tryz.pinned.checked.prog.funcNamed "pileup/pileuplaw01.AirRows" = some f) (hfn : Tryz.pinned.checked.prog.funcs[f]? = some fn) :
    false = Tryz.pinned.checked.prog.looks [] ∧ ∀ (j : Nat) t, fn.params[j]? = some t → Tryz.pinned.checked.prog.wantsStandIn t = false := by
  obtain rfl : f = 5 := Option.some.inj ((show Tryz.prog.funcNamed "pileup/pileuplaw01.AirRows" = some 5 by kernel_rfl).symm.trans hf) |>.symm
  obtain rfl : fn = Tryz.f5 := (Option.some.inj (Tryz.func5.symm.trans hfn)).symm
  refine ⟨by kernel_rfl, fun j t ht => ?_⟩
  rw [Tryz.params5] at ht
  have ht : t = 22 ∨ t = 9 ∨ t = 3 := by simpa using Array.mem_of_getElem? ht
  rcases ht with rfl | rfl | rfl
  · exact (show Tryz.prog.wantsStandIn 22 = false by kernel_rfl)
  · exact (show Tryz.prog.wantsStandIn 9 = false by kernel_rfl)
  · exact (show Tryz.prog.wantsStandIn 3 = false by kernel_rfl)
theorem card : Rows.AirRowsCardSaid :=
  Claim7.holds_tied_plain_at .later [] _ _ _ _ said (fun _ h => by cases h) (by kernel_rfl) (fun _ h => by cases h) airRows_row_tie rfl ⟨rfl, rfl⟩ (by kernel_rfl) rfl plain (by kernel_rfl)
end LawRows

end Go.Proofs.YtkbdmdnahphkkaaGreatDoor
