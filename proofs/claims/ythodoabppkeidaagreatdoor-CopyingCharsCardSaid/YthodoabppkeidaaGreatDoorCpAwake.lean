/-
  The samples at the head of the statements hold. Condition: the tables lie in memory, the library's of powers of ten among them.
-/
import Derived.Test.YthodoabppkeidaaGreatDoorCpRises
import Derived.Test.YthodoabppkeidaaGreatDoorCpPlain
namespace Go.Proofs.YthodoabppkeidaaGreatDoor
open Go Go.RowKit
theorem RowIs.steps {W : World} {g base : Nat} {l : List Stp} (h : RowIs W g 65 (stsC l)) (hb : base ≤ g) (hl : l.length ≤ 1000) : StsAt W base (.slice (some ⟨g, 0, none⟩) l.length l.length) l :=
  ⟨stsC_len l, .inr ⟨g, l.length, (stsC l).toArray, rfl, hb, h, Nat.le_refl _, by unfold maxLen; omega, by simp [stsC_len], by
    rw [List.take_of_length_le (by simp [stsC_len])]⟩⟩
set_option maxHeartbeats 1000000 in
/-- SameSteps of the specification at equal lists. -/
theorem ref_SameSteps (l : List Stp) (b1 b2 : Nat) (v1 v2 : Value) (w : World) (h1 : StsAt w b1 v1 l) (h2 : StsAt w b2 v2 l) (hl : l.length ≤ 1000) :
    Calls Tryz.prog 30 #[v1, v2] w fun e w' => e = .returned (.bool true) ∧ New w w' := by
  obtain ⟨A1, c1, rfl⟩ := owns_form h1
  obtain ⟨A2, c2, rfl⟩ := owns_form h2
  have H1 := Lib.hid h1
  have H2 := Lib.hid h2
  clear h1 h2
  go_enter Tryz.func30, Tryz.ntmps30
  go_wp2_with fail
  go_loopw [5] (fun s5 wr => ∃ j : Nat, j ≤ l.length ∧ s5 = .int .i64 j ∧ New w wr) (fun i _ => l.length - (intOf i).toNat)
  case atStart => exact ⟨0, by omega, rfl, New.refl _⟩
  case round =>
    obtain ⟨j, hj, rfl, hn⟩ := hrel
    have HN := Lib.hid hn
    clear hn
    by_cases hlt : j < l.length
    · have hs1 := (H1.out.keep HN.out).cells (List.getElem?_eq_getElem hlt)
      have hs2 := (H2.out.keep HN.out).cells (List.getElem?_eq_getElem hlt)
      generalize l[j] = t at *
      obtain ⟨g1, k1, e1, -, -, -, x0, x1, x2⟩ := hs1
      obtain ⟨g2, k2, e2, -, -, -, y0, y1, y2⟩ := hs2
      simp only [Value.slice.injEq, true_and] at e1 e2
      obtain ⟨rfl, rfl⟩ := e1
      obtain ⟨rfl, rfl⟩ := e2
      have i1 : (j : Int) < (l.length : Int) := by omega
      go_wp2_with fail
      go_quiet (fail)
      go_wp2_with fail
      refine ⟨⟨j + 1, by omega, by go_num, HN.out.drewN _⟩, by simp [intOf]; omega⟩
    · obtain rfl : j = l.length := by omega
      go_wp2_with fail
      go_ret
      exact ⟨rfl, HN.out⟩
theorem smp_costC (F : List Bytes) : costC F 1 [75, 49, 65, 66, 67] [75, 49, 65, 66, 83] = 2 ∧ hearE 1 [75, 49, 65, 66, 67] [75, 49, 65, 66, 83] = 0 := by
  have h := hearE_mk (mode := 1) (m := .morse) rfl smp_keys1 smp_keys2 (by decide) (by decide)
  exact ⟨by rw [costC_ok h rfl smp_keys1 smp_keys2, smp_cost], h⟩
theorem smp_alC (F : List Bytes) : alC F 2 [68, 76, 49] [76, 49] = [(0, -1, 2), (1, 0, 0), (2, 1, 0)] ∧ hearE 2 [68, 76, 49] [76, 49] = 0 := by
  have h := hearE_mk (mode := 2) (m := .voice) rfl smp_keys3 smp_keys4 (by decide) (by decide)
  refine ⟨?_, h⟩
  have e : alC F 2 [68, 76, 49] [76, 49] = alL (mdC F .voice) [3, 11, 27] [11, 27] := by
    rw [alC, if_pos h, smp_keys3, smp_keys4]
    rfl
  rw [e]
  exact smp_align (mdC F .voice) (mdC_self F .voice) rfl rfl (by rw [mdC_ne F .voice (by decide)]; exact sw_pos .voice (by decide) (by decide) (by decide))
theorem smp_sentC : sentC 1 599 = [53, 78, 78] ∧ digE 1 599 = 0 := by
  refine ⟨?_, rfl⟩
  show sentL .morse 599 = _
  exact smp_sent
theorem smp_riseC : riseC [1, 5, 2, 3, 9] = [1, 5, 6, 7, 9] ∧ serE [1, 5, 2, 3, 9] = 0 := ⟨by rw [riseC, if_pos (by decide), smp_rise], by decide⟩
set_option maxRecDepth 100000 in
set_option maxHeartbeats 4000000 in
theorem law_awake (F : List Bytes) (w : World) (hT : TabAt w F) (hp : HasPow w) : Calls Tryz.prog 10 #[] w fun e w' => e = .returned (.bool true) ∧ New w w' := by
  have HT := Lib.hid hT
  have HP := Lib.hid hp
  clear hT hp
  have H1 : Hid (Calls Tryz.prog 12 #[.string ⟨#[75]⟩] w fun e w' => e = .returned (.tuple #[.string ⟨#[45, 46, 45]⟩, .int .i64 0]) ∧ w = w') := Lib.hid (cp_Code F [75] w HT.out (by decide))
  have H2 : Hid (∀ w', New w w' → Calls Tryz.prog 24 #[.int .i64 1, .string ⟨#[75, 49, 65, 66, 67]⟩, .string ⟨#[75, 49, 65, 66, 83]⟩] w' fun e w'' => e = .returned (.tuple #[.int .i64 2, .int .i64 0]) ∧ New w' w'') := Lib.hid (fun w' hn => by
    have h := cp_Cost F 1 [75, 49, 65, 66, 67] [75, 49, 65, 66, 83] w' (HT.out.keep hn) (by decide) (by decide)
    rw [(smp_costC F).1, (smp_costC F).2] at h
    exact h)
  have H3 : Hid (∀ w', New w w' → Calls Tryz.prog 26 #[.int .i64 2, .string ⟨#[68, 76, 49]⟩, .string ⟨#[76, 49]⟩] w' fun e w'' => ∃ v, e = .returned (.tuple #[v, .int .i64 0]) ∧ (StsAt w'' w'.heap.size v [(0, -1, 2), (1, 0, 0), (2, 1, 0)] ∧ New w' w'')) := Lib.hid (fun w' hn => by
    have h := cp_Align F 2 [68, 76, 49] [76, 49] w' (HT.out.keep hn) (by decide) (by decide)
    rw [(smp_alC F).1, (smp_alC F).2] at h
    exact h)
  have H4 : Hid (∀ w', New w w' → Calls Tryz.prog 39 #[.int .i64 1, .int .i64 599] w' fun e w'' => e = .returned (.tuple #[.string ⟨#[53, 78, 78]⟩, .int .i64 0]) ∧ New w' w'') := Lib.hid (fun w' hn => by
    have h := cp_Digits 1 599 w' (HP.out.keep hn)
    rw [smp_sentC.1, smp_sentC.2] at h
    exact h)
  have H5 : Hid (∀ v w', IntsAt w' v [1, 5, 2, 3, 9] → Calls Tryz.prog 49 #[v] w' fun e w'' => ∃ v', e = .returned (.tuple #[v', .int .i64 0]) ∧ (w''.ownsRow w'.heap.size 3 1 v' 5 (intsV [1, 5, 6, 7, 9]) ∧ New w' w'')) := Lib.hid (fun v w' hv => by
    have h := cp_Rise [1, 5, 2, 3, 9] v w' hv (by decide)
    rw [smp_riseC.1, smp_riseC.2] at h
    exact h)
  go_enter Tryz.func10, Tryz.ntmps10
  go_wp2_with fail
  refine H1.out.mono ?_
  rintro e w' ⟨rfl, rfl⟩
  go_wp2_with fail
  refine (H2.out _ (New.refl _)).mono ?_
  rintro e w2 ⟨rfl, n2⟩
  have N2 := Lib.hid n2
  clear n2
  go_wp2_with fail
  refine (H3.out _ N2.out).mono ?_
  rintro e w3 ⟨v3, rfl, s3, n3⟩
  have N3 := Lib.hid (N2.out.trans n3)
  obtain ⟨A3, C3, rfl⟩ := owns_form s3
  have S3 := Lib.hid s3
  clear n3 s3
  go_wp2_with fail
  refine (H4.out _ N3.out).mono ?_
  rintro e w4 ⟨rfl, n4⟩
  have N4 := Lib.hid n4
  clear n4
  go_wp2_with fail
  have k5 := (New.refl w4).alloc (.cells #[.int .i64 1, .int .i64 5, .int .i64 2, .int .i64 3, .int .i64 9] 3)
  have r5 := RowIs.new w4 3 (intsV [1, 5, 2, 3, 9])
  refine (H5.out _ _ (r5.ints (by decide))).mono ?_
  rintro e w5 ⟨v5, rfl, o5, n5⟩
  have N5 := Lib.hid (k5.trans n5)
  obtain ⟨g5, c5, rfl⟩ := ownsRow_succ o5
  have hsl := owns_sl (cs := intsV [1, 5, 6, 7, 9]) o5
  have q2 : w5.cell? ⟨g5, 2, none⟩ = some (.int .i64 6) := o5.cellAt 2 (by decide)
  have q3 : w5.cell? ⟨g5, 3, none⟩ = some (.int .i64 7) := o5.cellAt 3 (by decide)
  clear k5 r5 n5 o5 hsl
  go_wp2_with fail
  have k6 := (New.refl w5).alloc (.cells #[.int .i64 0, .int .i64 (-1), .int .i64 2, .int .i64 1, .int .i64 0, .int .i64 0, .int .i64 2, .int .i64 1, .int .i64 0] 65)
  have r6 : StsAt _ 0 _ [(0, -1, 2), (1, 0, 0), (2, 1, 0)] := (RowIs.new w5 65 (stsC [(0, -1, 2), (1, 0, 0), (2, 1, 0)])).steps (Nat.zero_le _) (by decide)
  refine (ref_SameSteps [(0, -1, 2), (1, 0, 0), (2, 1, 0)] _ _ _ _ _ (((S3.out.keep N4.out).keep N5.out).keep k6) r6 (by decide)).mono ?_
  rintro e w7 ⟨rfl, n7⟩
  have N7 := Lib.hid (k6.trans n7)
  have l5 := World.block_lt_of_cell? _ _ q2
  have q2' := (N7.out.cell (p := ⟨g5, 2, none⟩) l5).trans q2
  have q3' := (N7.out.cell (p := ⟨g5, 3, none⟩) l5).trans q3
  clear k6 r6 n7 q2 q3 l5
  go_wp2_with fail
  go_ret
  exact ⟨rfl, N3.out.trans (N4.out.trans (N5.out.trans N7.out))⟩
end Go.Proofs.YthodoabppkeidaaGreatDoor
