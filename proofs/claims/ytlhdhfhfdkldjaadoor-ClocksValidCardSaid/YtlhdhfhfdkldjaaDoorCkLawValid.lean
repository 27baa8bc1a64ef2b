/-
  ClocksValid: which clocks, tracks and systems are valid, segments and bounds are as specified. Condition: the variable beginning holds what the program's text lays.
-/
import Derived.Test.YtlhdhfhfdkldjaaDoorCkBds
import Derived.Test.YtlhdhfhfdkldjaaDoorCkAwake
import Derived.Test.YtlhdhfhfdkldjaaDoorCkOpen
namespace Go.Proofs.YtlhdhfhfdkldjaaDoor
open Go Go.RowKit Go.Shelf
open Go.ChangeShapes Go.WideShapes Go.ChangeAt Go.Deep
attribute [local go_sem] Oper.semAt_some
theorem segV_form (t : Tk) (m : Int) : ∃ a e : Int, segV t m = .tuple #[.int .i64 a, .int .i64 e] := by
  unfold segV
  split
  · exact ⟨_, _, rfl⟩
  · exact ⟨_, _, rfl⟩
set_option maxRecDepth 100000 in
set_option maxHeartbeats 8000000 in
theorem law_valid (s : Sy) (A D : Option Addr) (c d : Nat) (t : Tk) (JA : Option Addr) (jc : Nat) (TA : Option Addr) (tc : Nat) (m : Int) (w : World) (hM : SysM w A D s) (hT : TkM w JA TA t) (hbeg : BegA w) :
    Calls Tryd.prog 3 #[.agg #[.slice A s.tracks.length c, .slice D s.ties.length d, .int .i64 s.window], .agg #[.int .i64 t.slip, .int .i64 t.drift, .slice JA t.jumps.length jc, .slice TA t.times.length tc], .int .i64 m] w fun e w' => e = .returned (.bool true) ∧ New w w' := by
  have n1 := (New.refl w).alloc (.cells #[.slice A s.tracks.length c, .slice D s.ties.length d, .int .i64 s.window] 25)
  have n2 := n1.alloc (.cells #[.int .i64 t.slip, .int .i64 t.drift, .slice JA t.jumps.length jc, .slice TA t.times.length tc] 30)
  have r1 := (RowIs.new w 25 [.slice A s.tracks.length c, .slice D s.ties.length d, .int .i64 s.window]).keep ((New.refl _).alloc (.cells #[.int .i64 t.slip, .int .i64 t.drift, .slice JA t.jumps.length jc, .slice TA t.times.length tc] 30))
  have r2 := RowIs.new (w.alloc (.cells #[.slice A s.tracks.length c, .slice D s.ties.length d, .int .i64 s.window] 25)) 30 [.int .i64 t.slip, .int .i64 t.drift, .slice JA t.jumps.length jc, .slice TA t.times.length tc]
  simp only [World.size_alloc] at r2
  have HR1 := Lib.hid r1
  have HR2 := Lib.hid r2
  have HN := Lib.hid n2
  have HJM := hT.1.1
  have HTM := hT.2.1
  have HAW := Lib.hid (law_awake _ ⟨n2.cellOf hbeg.1, n2.cellOf hbeg.2⟩)
  have HFW : Hid (∀ w', New w w' → _) := Lib.hid fun w' h => law_few s A D c d w' (hM.keep h)
  have HSG : Hid (∀ w', New w w' → _) := Lib.hid fun w' h => ck_Segment t m JA jc w' (hT.1.keep h)
  have HRG : Hid (∀ w', New w w' → _) := Lib.hid fun w' h => rf_Segment t m JA jc w' (hT.1.keep h)
  have HBO : Hid (∀ w', New w w' → _) := Lib.hid fun w' h => ck_Bounds s A D c d w' (hM.keep h) ⟨h.cellOf hbeg.1, h.cellOf hbeg.2⟩
  have HRB : Hid (∀ w', New w w' → _) := Lib.hid fun w' h => rf_Bounds s A D c d w' (hM.keep h)
  have HVC : Hid (∀ w', New w w' → _) := Lib.hid fun w' h => ck_ValidClock t JA jc w' (hT.1.keep h)
  have HRVC : Hid (∀ w', New w w' → _) := Lib.hid fun w' h => rf_ValidClock t JA jc w' (hT.1.keep h)
  have HVT : Hid (∀ w', New w w' → _) := Lib.hid fun w' h => ck_ValidTrack t JA TA jc tc w' (hT.keep h)
  have HRVT : Hid (∀ w', New w w' → _) := Lib.hid fun w' h => rf_ValidTrack t JA TA jc tc w' (hT.keep h)
  have HCH : Hid (∀ w', New w w' → _) := Lib.hid fun w' h => ck_Check s A D c d w' (hM.keep h)
  have HRCH : Hid (∀ w', New w w' → _) := Lib.hid fun w' h => rf_Check s A D c d w' (hM.keep h)
  obtain ⟨sa, se, hse⟩ := segV_form t m
  rw [hse] at HSG HRG
  clear hM hT hbeg n1 n2 r1 r2 hse
  generalize clockB t = cb at *
  generalize trackB t = tb at *
  generalize checkE s = ce at *
  generalize bdsOf s = bs at *
  have c0 := HR1.out.cell (i := 0) rfl
  go_enter Tryd.func3, Tryd.ntmps3
  go_wp2_with fail
  refine HAW.out.mono ?_
  rintro e w1 ⟨rfl, m1⟩
  have HN1 := Lib.hid (HN.out.trans m1)
  have HP1 := Lib.hid (HR1.out.keep m1)
  have HQ1 := Lib.hid (HR2.out.keep m1)
  clear c0 m1 HR1 HR2 HAW
  have c0 := HP1.out.cell (i := 0) rfl
  have c1 := HP1.out.cell (i := 1) rfl
  have c2 := HP1.out.cell (i := 2) rfl
  go_wp2_with fail
  refine (HFW.out _ HN1.out).mono ?_
  rintro e w2 ⟨⟨fb, rfl⟩, m2⟩
  have HN2 := Lib.hid (HN1.out.trans m2)
  have HP2 := Lib.hid (HP1.out.keep m2)
  have HQ2 := Lib.hid (HQ1.out.keep m2)
  clear c0 c1 c2 m2 HP1 HQ1 HFW
  have d2 := HQ2.out.cell (i := 2) rfl
  have d3 := HQ2.out.cell (i := 3) rfl
  cases fb with
  | false =>
    go_wp2_with fail
    go_ret
    exact ⟨rfl, HN2.out⟩
  | true =>
  by_cases h1 : 500 < t.times.length
  · have h1' : decide (500 < (t.times.length : Int)) = true := by simp; omega
    go_wp2_with fail
    go_ret
    exact ⟨rfl, HN2.out⟩
  have h1' : decide (500 < (t.times.length : Int)) = false := by simp; omega
  by_cases h2 : 100 < t.jumps.length
  · have h2' : decide (100 < (t.jumps.length : Int)) = true := by simp; omega
    go_wp2_with fail
    go_ret
    exact ⟨rfl, HN2.out⟩
  have h2' : decide (100 < (t.jumps.length : Int)) = false := by simp; omega
  have d0 := HQ2.out.cell (i := 0) rfl
  have d1 := HQ2.out.cell (i := 1) rfl
  go_wp2_with fail
  refine (HSG.out _ HN2.out).mono ?_
  rintro e w3 ⟨rfl, m3⟩
  have HN3 := Lib.hid (HN2.out.trans m3)
  have HP3 := Lib.hid (HP2.out.keep m3)
  have HQ3 := Lib.hid (HQ2.out.keep m3)
  clear d0 d1 d2 d3 m3 HP2 HQ2 HSG
  have d0 := HQ3.out.cell (i := 0) rfl
  have d1 := HQ3.out.cell (i := 1) rfl
  have d2 := HQ3.out.cell (i := 2) rfl
  go_wp2_with fail
  refine (HRG.out _ HN3.out).mono ?_
  rintro e w4 ⟨rfl, m4⟩
  have HN4 := Lib.hid (HN3.out.trans m4)
  have HP4 := Lib.hid (HP3.out.keep m4)
  have HQ4 := Lib.hid (HQ3.out.keep m4)
  clear d0 d1 d2 m4 HP3 HQ3 HRG
  have c0 := HP4.out.cell (i := 0) rfl
  have c1 := HP4.out.cell (i := 1) rfl
  have c2 := HP4.out.cell (i := 2) rfl
  go_wp2_with fail
  refine (HBO.out _ HN4.out).mono ?_
  rintro e w5 ⟨V, rfl, hV, m5⟩
  have HN5 := Lib.hid (HN4.out.trans m5)
  have HP5 := Lib.hid (HP4.out.keep m5)
  have HQ5 := Lib.hid (HQ4.out.keep m5)
  have HV5 := Lib.hid hV
  clear c0 c1 c2 m5 HP4 HQ4 HBO hV
  have c0 := HP5.out.cell (i := 0) rfl
  have c1 := HP5.out.cell (i := 1) rfl
  have c2 := HP5.out.cell (i := 2) rfl
  go_wp2_with fail
  refine (HRB.out _ HN5.out).mono ?_
  rintro e w6 ⟨U, rfl, hU, m6⟩
  have HN6 := Lib.hid (HN5.out.trans m6)
  have HP6 := Lib.hid (HP5.out.keep m6)
  have HQ6 := Lib.hid (HQ5.out.keep m6)
  have HV6 := Lib.hid (HV5.out.keep m6)
  have HU6 := Lib.hid hU
  clear c0 c1 c2 m6 HP5 HQ5 HRB hU HV5
  obtain ⟨bv, hv⟩ := HV6.out
  obtain ⟨bu, hu⟩ := HU6.out
  obtain ⟨VA, vc, rfl⟩ := owns_form hv
  obtain ⟨UA, uc, rfl⟩ := owns_form hu
  clear hv hu
  go_wp2_with fail
  have HK : Hid (∀ w', New w6 w' → (fun w' => New w6 w' ∧ (w'.cell? ⟨w.heap.size, 0, none⟩ = some (.slice A s.tracks.length c) ∧ w'.cell? ⟨w.heap.size, 1, none⟩ = some (.slice D s.ties.length d) ∧ w'.cell? ⟨w.heap.size, 2, none⟩ = some (.int .i64 s.window)) ∧ w'.cell? ⟨w.heap.size + 1, 0, none⟩ = some (.int .i64 t.slip) ∧ w'.cell? ⟨w.heap.size + 1, 1, none⟩ = some (.int .i64 t.drift) ∧ w'.cell? ⟨w.heap.size + 1, 2, none⟩ = some (.slice JA t.jumps.length jc) ∧ w'.cell? ⟨w.heap.size + 1, 3, none⟩ = some (.slice TA t.times.length tc)) w') := Lib.hid fun w' h => ⟨h, ⟨(HP6.out.keep h).cell rfl, (HP6.out.keep h).cell rfl, (HP6.out.keep h).cell rfl⟩, (HQ6.out.keep h).cell rfl, (HQ6.out.keep h).cell rfl, (HQ6.out.keep h).cell rfl, (HQ6.out.keep h).cell rfl⟩
  dsimp only at HK
  cases cb
  all_goals cases tb
  all_goals
    go_region_held3 (fun w' => New w6 w' ∧ (w'.cell? ⟨w.heap.size, 0, none⟩ = some (.slice A s.tracks.length c) ∧ w'.cell? ⟨w.heap.size, 1, none⟩ = some (.slice D s.ties.length d) ∧ w'.cell? ⟨w.heap.size, 2, none⟩ = some (.int .i64 s.window)) ∧ w'.cell? ⟨w.heap.size + 1, 0, none⟩ = some (.int .i64 t.slip) ∧ w'.cell? ⟨w.heap.size + 1, 1, none⟩ = some (.int .i64 t.drift) ∧ w'.cell? ⟨w.heap.size + 1, 2, none⟩ = some (.slice JA t.jumps.length jc) ∧ w'.cell? ⟨w.heap.size + 1, 3, none⟩ = some (.slice TA t.times.length tc))
      (first | exact HK.out _ (New.refl _).drew | exact HK.out _ (New.trans (by first | assumption | exact (by assumption : New _ _ ∧ _).1) (by assumption)))
      (first | (go_at_call 21; refine (HVC.out _ (HN6.out.trans (by first | assumption | exact (New.refl _).drew | exact (by assumption : New _ _ ∧ _).1))).mono ?_; rintro e w' ⟨rfl, hb⟩) | (go_at_call 22; refine (HRVC.out _ (HN6.out.trans (by first | assumption | exact (New.refl _).drew | exact (by assumption : New _ _ ∧ _).1))).mono ?_; rintro e w' ⟨rfl, hb⟩) | (go_at_call 23; refine (HVT.out _ (HN6.out.trans (by first | assumption | exact (New.refl _).drew | exact (by assumption : New _ _ ∧ _).1))).mono ?_; rintro e w' ⟨rfl, hb⟩) | (go_at_call 24; refine (HRVT.out _ (HN6.out.trans (by first | assumption | exact (New.refl _).drew | exact (by assumption : New _ _ ∧ _).1))).mono ?_; rintro e w' ⟨rfl, hb⟩) | (go_at_call 25; refine (HCH.out _ (HN6.out.trans (by first | assumption | exact (New.refl _).drew | exact (by assumption : New _ _ ∧ _).1))).mono ?_; rintro e w' ⟨rfl, hb⟩) | (go_at_call 26; refine (HRCH.out _ (HN6.out.trans (by first | assumption | exact (New.refl _).drew | exact (by assumption : New _ _ ∧ _).1))).mono ?_; rintro e w' ⟨rfl, hb⟩))
  all_goals
    have hn : New w6 w' := by first | assumption | exact (by assumption : New _ w' ∧ _).1
    have HSB := Lib.hid (rf_SameBounds bs _ _ w' (HV6.out.keep hn) (HU6.out.keep hn))
    go_wp2_with fail
    refine HSB.out.mono ?_
    rintro e w8 ⟨rfl, m8⟩
    go_wp2_with fail
    go_ret
    exact ⟨rfl, HN6.out.trans (hn.trans m8)⟩
namespace LawValid
theorem reads : ∀ t ∈ Tryd.f3.params.toList, Tryd.prog.readableRec t = true ∧ t < Tryd.prog.types.size := by
  rw [Tryd.params3]
  intro t ht
  have ht : t = 25 ∨ t = 30 ∨ t = 3 := by simpa using ht
  rcases ht with rfl | rfl | rfl
  · exact ⟨by kernel_rfl, of_decide_eq_true (by kernel_rfl)⟩
  · exact ⟨by kernel_rfl, of_decide_eq_true (by kernel_rfl)⟩
  · exact ⟨by kernel_rfl, of_decide_eq_true (by kernel_rfl)⟩
set_option maxRecDepth 100000 in
theorem contract (H : Type) (enc : TypeId × Value → H) (W : World) (base : Nat) (args : Array Value) (ds gs : List (DataW H)) (before : List MemPlace)
    (hval : ∀ (j : Nat) t v, Tryd.f3.params[j]? = some t → args[j]? = some v → Value.okWide Tryd.prog W .any base t v)
    (hW : DataW.Whole enc Tryd.prog Tryd.f3.params.toList Rows.clocksValidSpec.vars false W args.toList ds gs before) (_ : W.ShapedOpen Tryd.prog) (hlaid : laidMetH Tryd.prog Rows.clocksValidRow.laid W) :
    Calls Tryd.prog 3 args W fun e W' => ∃ v, e = .returned v ∧ Rows.clocksValidSpec.post enc Tryd.prog Tryd.f3 false true false false W args v W' := by
  have hW' := hW
  obtain ⟨p, q, hA0, hV, rfl, hfz, hnd⟩ := hW
  have hA : DataW.TrodAll enc Tryd.prog W 0 (fun _ => true) true Tryd.f3.params.toList args.toList ds p := hA0
  rw [Tryd.params3] at hA hval
  obtain ⟨v0, vs0, d0, ds0, p0, q0, hargs, rfl, rfl, h0, r0⟩ := trodAll_cons hA
  obtain ⟨v1, vs1, d1, ds1, p1, q1, rfl, rfl, rfl, h1, r1⟩ := trodAll_cons r0
  obtain ⟨v2, vs2, d2, ds2, p2, q2, rfl, rfl, rfl, h2, r2⟩ := trodAll_cons r1
  obtain ⟨rfl, rfl, rfl⟩ := trodAll_nil r2
  obtain rfl : args = #[v0, v1, v2] := by cases args; simp_all
  obtain ⟨rfl, rfl⟩ := trodVars_none hV
  have hv0 := hval 0 25 v0 rfl rfl
  have hv1 := hval 1 30 v1 rfl rfl
  have hv2 := hval 2 3 v2 rfl rfl
  clear hval
  obtain ⟨s0, A0, D0, c0, e0, rfl, hM0⟩ := open_sys hv0 h0
  obtain ⟨t1, J1, j1, U1, u1, rfl, hT1⟩ := open_track hv1 h1
  obtain ⟨a2, rfl, rfl, rfl, hw2⟩ := open_int Tryd.underlying3 hv2 h2
  have hbeg : BegA W := beg_of_laid hlaid
  refine (law_valid s0 A0 D0 c0 e0 t1 J1 j1 U1 u1 a2 W hM0 hT1 hbeg).mono fun e W' ⟨he, hb⟩ => ?_
  subst he
  exact ⟨_, rfl, post_true hW' rfl (by kernel_rfl) ⟨rfl, rfl, rfl⟩ reads hb⟩
theorem laid_met (os : Os) : laidMet Tryd.prog Rows.clocksValidRow.laid ((laidWorld os).forCall (fun _ _ => 0) ⟨#[], #[.agg #[.slice none 0 0, .slice none 0 0, .int .i64 0], .agg #[.int .i64 0, .int .i64 0, .slice none 0 0, .slice none 0 0], .int .i64 0], []⟩).memory :=
  laidMet_of_run' 8 (by kernel_rfl) (by kernel_rfl)
theorem reads_w (os : Os) {H : Type} (enc : TypeId × Value → H) : ∃ places, DataW.whole enc Tryd.prog ((laidWorld os).forCall (fun _ _ => 0) ⟨#[], #[.agg #[.slice none 0 0, .slice none 0 0, .int .i64 0], .agg #[.int .i64 0, .int .i64 0, .slice none 0 0, .slice none 0 0], .int .i64 0], []⟩).memory Tryd.f3.params.toList Rows.clocksValidSpec.vars false #[Value.agg #[.slice none 0 0, .slice none 0 0, .int .i64 0], .agg #[.int .i64 0, .int .i64 0, .slice none 0 0, .slice none 0 0], .int .i64 0].toList 8 = some ([.agg [.nil, .nil, .lit (.int .i64 0)], .agg [.agg [.lit (.int .i64 0), .lit (.int .i64 0), .nil], .nil], .lit (.int .i64 0)], [], places) :=
  ⟨[], by kernel_rfl⟩
set_option maxRecDepth 100000 in
theorem lifted (os : Os) (started : os.Started) (H : Type) (enc : TypeId × Value → H) (F : Stop.Interp) :
    ReturnsInHanded {} Tryd.checked os 3 .any ((OpenSpec.ofChange Rows.clocksValidSpec).preRow enc Tryd.prog Tryd.f3 Rows.clocksValidRow.domain false Rows.clocksValidRow.laid) (((OpenSpec.ofChange Rows.clocksValidSpec).at F).post enc Tryd.prog Tryd.f3 false true false false) := by
  obtain ⟨places, hx⟩ := reads_w os enc
  refine returnsInHanded_of_row (C := Tryd.checked) (s := OpenSpec.ofChange Rows.clocksValidSpec) row_own started (by kernel_rfl) Tryd.func3
    (witness_row_at (enc := enc) (C := Tryd.checked) false (laidWorld os) #[.agg #[.slice none 0 0, .slice none 0 0, .int .i64 0], .agg #[.int .i64 0, .int .i64 0, .slice none 0 0, .slice none 0 0], .int .i64 0] rfl (by kernel_rfl) (by kernel_rfl) (by kernel_rfl)
      (OpenSpec.preRow_of_cond 8 hx (by kernel_rfl) (fun k hk => by cases hk) (by kernel_rfl) (laid_met os))) ?_
  intro W base args ds gs before hval hW _ _ _ hlaid hS _
  exact contract H enc W base args ds gs before hval hW hS hlaid
theorem said : Rows.ClocksValidSaid :=
  OpenClaim.holds_of_cond 3 Tryd.f3 rfl rfl rfl rfl rfl rfl rfl ⟨rfl, rfl, rfl, rfl, rfl⟩ rfl rfl rfl rfl rfl (by kernel_rfl) Tryd.func3 (by kernel_rfl)
    (of_decide_eq_true (by kernel_rfl)) (by unfold Func.isWrapper; first | (rw [if_pos (by decide +kernel)]; kernel_rfl) | (rw [if_neg (by decide +kernel)]; exact ⟨rfl, rfl⟩))
    (fun os started H enc _ F => by rw [OpenClaim.pre_eq_preRow]; exact lifted os started H enc F)
theorem plain (f : FuncId) (fn : Func) (hf : Tryd.pinned.checked.prog.funcNamed "pileup/pileuplaw03.ClocksValid" = some f) (hfn : Tryd.pinned.checked.prog.funcs[f]? = some fn) :
    true = Tryd.pinned.checked.prog.looks [] ∧ ∀ (j : Nat) t, fn.params[j]? = some t → Tryd.pinned.checked.prog.wantsStandIn t = false := by
  obtain rfl : f = 3 := Option.some.inj ((show Tryd.prog.funcNamed "pileup/pileuplaw03.ClocksValid" = some 3 by kernel_rfl).symm.trans hf) |>.symm
  obtain rfl : fn = Tryd.f3 := (Option.some.inj (Tryd.func3.symm.trans hfn)).symm
  refine ⟨by kernel_rfl, fun j t ht => ?_⟩
  rw [Tryd.params3] at ht
  have ht : t = 25 ∨ t = 30 ∨ t = 3 := by simpa using Array.mem_of_getElem? ht
  rcases ht with rfl | rfl | rfl
  · exact (show Tryd.prog.wantsStandIn 25 = false by kernel_rfl)
  · exact (show Tryd.prog.wantsStandIn 30 = false by kernel_rfl)
  · exact (show Tryd.prog.wantsStandIn 3 = false by kernel_rfl)
theorem card : Rows.ClocksValidCardSaid :=
  Claim7.holds_tied_plain_at .later [] _ _ _ _ said (fun _ h => by cases h) (by kernel_rfl) (fun _ h => by cases h) clocksValid_row_tie rfl ⟨rfl, rfl⟩ (by kernel_rfl) rfl plain (by kernel_rfl)
end LawValid
end Go.Proofs.YtlhdhfhfdkldjaaDoor
