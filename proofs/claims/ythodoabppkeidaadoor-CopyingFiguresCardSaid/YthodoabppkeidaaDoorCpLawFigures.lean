/-
  CopyingFigures: numbers are read from their own digits, and hearing one for another one costs something. Condition: the tables lie in memory.
-/
import Derived.Test.YthodoabppkeidaaDoorCpFig
import Derived.Test.YthodoabppkeidaaDoorCpAsk
namespace Go.Proofs.YthodoabppkeidaaDoor
open Go Go.RowKit
open Go.ChangeShapes Go.WideShapes Go.ChangeAt Go.Deep
set_option maxRecDepth 100000 in
set_option maxHeartbeats 4000000 in
theorem law_figures (F : List Bytes) (mode a b most : Int) (X Y C : ByteArray) (A7 A8 A9 A10 A11 : Option Addr) (n7 n8 n9 n10 n11 c7 c8 c9 c10 c11 : Nat) (w : World) (hT : TabAt w F) (hp : HasPow w) :
    Calls Tryd.prog 8 #[.agg #[.int .i64 mode, .string X, .string Y, .string C, .int .i64 a, .int .i64 b, .int .i64 most, .slice A7 n7 c7, .slice A8 n8 c8, .slice A9 n9 c9, .slice A10 n10 c10, .slice A11 n11 c11]] w fun e w' => e = .returned (.bool true) ∧ New w w' := by
  have HA : Hid (∀ w', New w w' → Calls Tryd.prog 11 #[] w' fun e w'' => e = .returned (.bool true) ∧ New w' w'') := Lib.hid (fun w' hn => law_awake F w' (hT.keep hn) (hp.keep hn))
  have HD : Hid (∀ w', New w w' → Calls Tryd.prog 28 #[.int .i64 mode, .int .i64 a] w' fun e w'' => e = .returned (.tuple #[.string (B (sentC mode a)), .int .i64 (digE mode a)]) ∧ New w' w'') := Lib.hid (fun w' hn => cp_Digits mode a w' (hp.keep hn))
  have HC : Hid (∀ b w', New w w' → Calls Tryd.prog 30 #[.int .i64 mode, .int .i64 a, .int .i64 b] w' fun e w'' => e = .returned (.tuple #[.int .i64 (cpnC F mode a b : Nat), .int .i64 (cpnE mode a b)]) ∧ New w' w'') := Lib.hid (fun b w' hn => cp_CopyNumber F mode a b w' (hT.keep hn) (hp.keep hn))
  clear hT hp
  generalize hcs : [Value.int .i64 mode, .string X, .string Y, .string C, .int .i64 a, .int .i64 b, .int .i64 most, .slice A7 n7 c7, .slice A8 n8 c8, .slice A9 n9 c9, .slice A10 n10 c10, .slice A11 n11 c11] = cs
  have hk := (New.refl w).alloc (.cells cs.toArray 27)
  have hr := RowIs.new w 27 cs
  subst hcs
  have HK := Lib.hid hk
  have HR := Lib.hid hr
  clear hk hr
  go_enter Tryd.func8, Tryd.ntmps8
  go_wp2_with fail
  refine (HA.out _ HK.out).mono ?_
  rintro e w1 ⟨rfl, n1⟩
  have N1 := Lib.hid (HK.out.trans n1)
  have R1 := Lib.hid (HR.out.keep n1)
  clear n1 HA
  have q0 := R1.out.cell (i := 0) rfl
  have q4 := R1.out.cell (i := 4) rfl
  go_wp2_with fail
  refine (HD.out _ N1.out).mono ?_
  rintro e w2 ⟨rfl, n2⟩
  have N2 := Lib.hid (N1.out.trans n2)
  have R2 := Lib.hid (R1.out.keep n2)
  clear n2 q0 q4
  have hl := sentC_len mode a
  by_cases he : digE mode a = 0
  · have hns := num_sentC he
    have HN : Hid (∀ w', Calls Tryd.prog 29 #[.int .i64 mode, .string (B (sentC mode a))] w' fun e w'' => e = .returned (.tuple #[.int .i64 a, .int .i64 0]) ∧ New w' w'') := Lib.hid (fun w' => by
      have h := cp_Number mode (sentC mode a) w' (by omega)
      rw [hns.1, hns.2] at h
      exact h)
    have hcE : cpnE mode a a = 0 := by rw [cpnE, if_neg (by rw [he]; simp), he]
    have hcC : cpnC F mode a a = 0 := (cpnC_zero F hcE).2 rfl
    have HC1 := Lib.hid (fun w' (hn : New w w') => HC.out a w' hn)
    rw [hcE, hcC] at HC1
    have HC2 := Lib.hid (fun w' (hn : New w w') => HC.out b w' hn)
    have hz := cpnC_zero F (mode := mode) (a := a) (b := b)
    have hss : (B (sentC mode a)).size = (sentC mode a).length := B_size _
    have hl1 := hl.1
    have hl2 := hl.2 he
    rw [← hss] at hl1 hl2
    rw [he]
    clear hns hcE hcC HC HD hss hl he
    generalize B (sentC mode a) = s at *
    generalize cpnE mode a b = E at *
    generalize cpnC F mode a b = M at *
    have q0 := R2.out.cell (i := 0) rfl
    have q4 := R2.out.cell (i := 4) rfl
    go_wp2_with fail
    refine (HN.out w2).mono ?_
    rintro e w3 ⟨rfl, n3⟩
    have N3 := Lib.hid (N2.out.trans n3)
    have R3 := Lib.hid (R2.out.keep n3)
    clear n3 q0 q4
    have q0 := R3.out.cell (i := 0) rfl
    have q4 := R3.out.cell (i := 4) rfl
    go_wp2_with fail
    refine (HC1.out w3 N3.out).mono ?_
    rintro e w4 ⟨rfl, n4⟩
    have N4 := Lib.hid (N3.out.trans n4)
    have R4 := Lib.hid (R3.out.keep n4)
    clear n4 q0 q4
    have q0 := R4.out.cell (i := 0) rfl
    have q4 := R4.out.cell (i := 4) rfl
    have q5 := R4.out.cell (i := 5) rfl
    go_wp2_with fail
    refine (HC2.out w4 N4.out).mono ?_
    rintro e w5 ⟨rfl, n5⟩
    have N5 := Lib.hid (N4.out.trans n5)
    have R5 := Lib.hid (R4.out.keep n5)
    clear n5 q0 q4 q5
    have q4 := R5.out.cell (i := 4) rfl
    have q5 := R5.out.cell (i := 5) rfl
    have i1 : ¬ ((s.size : Int) < 1) := by omega
    have i2 : ¬ ((5 : Int) < (s.size : Int)) := by omega
    by_cases hE : E = 0
    · subst hE
      have hz2 := hz rfl
      by_cases hab : a = b
      · subst hab
        obtain rfl : M = 0 := hz2.2 rfl
        clear hz hz2
        go_wp2_with fail
        all_goals
          go_ret
          exact ⟨by first | rfl | (simp; done) | (simp; omega), N5.out⟩
      · have hM : ¬ ((M : Int) = 0) := fun h => hab (hz2.1 (by omega))
        have hM2 : ((M : Int) == 0) = false := by rw [beq_eq_false_iff_ne]; exact hM
        have hab2 : (a == b) = false := by rw [beq_eq_false_iff_ne]; exact hab
        clear hz hz2
        go_wp2_with fail
        all_goals
          go_ret
          exact ⟨by first | rfl | (simp; done) | (simp; omega), N5.out⟩
    · have hE2 : (E != 0) = true := by rw [bne_iff_ne]; exact hE
      clear hz
      go_wp2_with fail
      all_goals
        go_ret
        exact ⟨by first | rfl | (simp; done) | (simp; omega), N5.out⟩
  · have e2 : sentC mode a = [] := by
      rcases digE_cases mode a with ⟨h, _⟩ | ⟨_, h⟩
      · exact absurd h he
      · exact h
    have hE : (digE mode a != 0) = true := by rw [bne_iff_ne]; exact he
    have e3 : B ([] : Bytes) = ⟨#[]⟩ := rfl
    rw [e2, e3]
    clear HC HD e2 e3 hl
    generalize digE mode a = E at *
    go_wp2_with fail
    all_goals
      go_ret
      exact ⟨by first | rfl | (simp; done) | (simp; omega), N2.out⟩
set_option maxRecDepth 100000 in
theorem law_figures_at (F : List Bytes) (mode a b most : Int) (X Y C : ByteArray) (v7 v8 v9 v10 v11 : Value) (w : World) (hT : TabAt w F) (hp : HasPow w) (h7 : ∃ A n c, v7 = .slice A n c) (h8 : Cell.okWide Tryd.prog w .any 0 23 v8) (h9 : Cell.okWide Tryd.prog w .any 0 24 v9) (h10 : ∃ l, IntsAt w v10 l) (h11 : ∃ l, IntsAt w v11 l) :
    Calls Tryd.prog 8 #[.agg #[.int .i64 mode, .string X, .string Y, .string C, .int .i64 a, .int .i64 b, .int .i64 most, v7, v8, v9, v10, v11]] w fun e w' => e = .returned (.bool true) ∧ New w w' := by
  obtain ⟨A7, n7, c7, rfl⟩ := h7
  obtain ⟨A8, n8, c8, rfl⟩ := slice_of_ok Tryd.underlying23 h8
  obtain ⟨A9, n9, c9, rfl⟩ := slice_of_ok Tryd.underlying24 h9
  obtain ⟨l10, h10⟩ := h10
  obtain ⟨A10, c10, rfl, _⟩ := h10.form
  obtain ⟨l11, h11⟩ := h11
  obtain ⟨A11, c11, rfl, _⟩ := h11.form
  exact law_figures F mode a b most X Y C A7 A8 A9 A10 A11 n7 n8 n9 l10.length l11.length c7 c8 c9 c10 c11 w hT hp
namespace LawFigures
theorem reads : ∀ t ∈ Tryd.f8.params.toList, Tryd.prog.readableRec t = true ∧ t < Tryd.prog.types.size := by
  rw [Tryd.params8]
  intro t ht
  have ht : t = 27 := by simpa using ht
  subst ht
  · exact ⟨by kernel_rfl, of_decide_eq_true (by kernel_rfl)⟩
set_option maxRecDepth 100000 in
theorem contract (H : Type) (enc : TypeId × Value → H) (W : World) (base : Nat) (args : Array Value) (ds gs : List (DataW H)) (before : List MemPlace)
    (hval : ∀ (j : Nat) t v, Tryd.f8.params[j]? = some t → args[j]? = some v → Value.okWide Tryd.prog W .any base t v)
    (hW : DataW.Whole enc Tryd.prog Tryd.f8.params.toList Rows.copyingFiguresSpec.vars false W args.toList ds gs before) (hS : W.ShapedOpen Tryd.prog) (hlaid : laidMetH Tryd.prog Rows.copyingFiguresRow.laid W) :
    Calls Tryd.prog 8 args W fun e W' => ∃ v, e = .returned v ∧ Rows.copyingFiguresSpec.post enc Tryd.prog Tryd.f8 false true false false W args v W' := by
  have hW' := hW
  obtain ⟨p, q, hA0, hV, rfl, hfz, hnd⟩ := hW
  have hA : DataW.TrodAll enc Tryd.prog W 0 (fun _ => true) true Tryd.f8.params.toList args.toList ds p := hA0
  rw [Tryd.params8] at hA hval
  obtain ⟨v0, vs0, d0, ds0, p0, q0, hargs, rfl, rfl, h0, r0⟩ := trodAll_cons hA
  obtain ⟨rfl, rfl, rfl⟩ := trodAll_nil r0
  obtain rfl : args = #[v0] := by cases args; simp_all
  obtain ⟨rfl, rfl⟩ := trodVars_none hV
  have hv0 := hval 0 27 v0 rfl rfl
  clear hval
  obtain ⟨m0, x0, y0, c0, i0, j0, k0, t0, tb0, st0, nu0, ch0, rfl, ha0⟩ := open_ask hv0 h0
  have hpow : HasPow W := pow_of_laid hlaid
  obtain ⟨Fm, htab⟩ := tab_of_row hS hlaid
  refine (law_figures_at Fm m0 i0 j0 k0 x0 y0 c0 t0 tb0 st0 nu0 ch0 W htab hpow ha0.1 ha0.2.1.1 ha0.2.2.1.1 ha0.2.2.2.1 ha0.2.2.2.2).mono fun e W' ⟨he, hb⟩ => ?_
  subst he
  exact ⟨_, rfl, post_true hW' rfl (by kernel_rfl) ⟨rfl, rfl, rfl⟩ reads hb⟩
theorem laid_met (os : Os) : laidMet Tryd.prog Rows.copyingFiguresRow.laid ((laidWorld os).forCall (fun _ _ => 0) ⟨#[], #[.agg #[.int .i64 0, .string ⟨#[]⟩, .string ⟨#[]⟩, .string ⟨#[]⟩, .int .i64 0, .int .i64 0, .int .i64 0, .slice none 0 0, .slice none 0 0, .slice none 0 0, .slice none 0 0, .slice none 0 0]], []⟩).memory :=
  laidMet_of_run' 8 (by kernel_rfl) (by kernel_rfl)
theorem reads_w (os : Os) {H : Type} (enc : TypeId × Value → H) : ∃ places, DataW.whole enc Tryd.prog ((laidWorld os).forCall (fun _ _ => 0) ⟨#[], #[.agg #[.int .i64 0, .string ⟨#[]⟩, .string ⟨#[]⟩, .string ⟨#[]⟩, .int .i64 0, .int .i64 0, .int .i64 0, .slice none 0 0, .slice none 0 0, .slice none 0 0, .slice none 0 0, .slice none 0 0]], []⟩).memory Tryd.f8.params.toList Rows.copyingFiguresSpec.vars false #[Value.agg #[.int .i64 0, .string ⟨#[]⟩, .string ⟨#[]⟩, .string ⟨#[]⟩, .int .i64 0, .int .i64 0, .int .i64 0, .slice none 0 0, .slice none 0 0, .slice none 0 0, .slice none 0 0, .slice none 0 0]].toList 8 = some ([.agg [.lit (.int .i64 0), .lit (.string []), .lit (.string []), .lit (.string []), .lit (.int .i64 0), .lit (.int .i64 0), .lit (.int .i64 0), .nil, .nil, .nil, .nil, .nil]], [], places) :=
  ⟨[], by kernel_rfl⟩
set_option maxRecDepth 100000 in
theorem lifted (os : Os) (started : os.Started) (H : Type) (enc : TypeId × Value → H) (F : Stop.Interp) :
    ReturnsInHanded {} Tryd.checked os 8 .any ((OpenSpec.ofChange Rows.copyingFiguresSpec).preRow enc Tryd.prog Tryd.f8 Rows.copyingFiguresRow.domain false Rows.copyingFiguresRow.laid) (((OpenSpec.ofChange Rows.copyingFiguresSpec).at F).post enc Tryd.prog Tryd.f8 false true false false) := by
  obtain ⟨places, hx⟩ := reads_w os enc
  refine returnsInHanded_of_row (C := Tryd.checked) (s := OpenSpec.ofChange Rows.copyingFiguresSpec) row_own started (by kernel_rfl) Tryd.func8
    (witness_row_at (enc := enc) (C := Tryd.checked) false (laidWorld os) #[.agg #[.int .i64 0, .string ⟨#[]⟩, .string ⟨#[]⟩, .string ⟨#[]⟩, .int .i64 0, .int .i64 0, .int .i64 0, .slice none 0 0, .slice none 0 0, .slice none 0 0, .slice none 0 0, .slice none 0 0]] rfl (by kernel_rfl) (by kernel_rfl) (by kernel_rfl)
      (OpenSpec.preRow_of_cond 8 hx (by kernel_rfl) (fun k hk => by cases hk) (by kernel_rfl) (laid_met os))) ?_
  intro W base args ds gs before hval hW _ _ _ hlaid hS _
  exact contract H enc W base args ds gs before hval hW hS hlaid
theorem said : Rows.CopyingFiguresSaid :=
  OpenClaim.holds_of_cond 8 Tryd.f8 rfl rfl rfl rfl rfl rfl rfl ⟨rfl, rfl, rfl, rfl, rfl⟩ rfl rfl rfl rfl rfl (by kernel_rfl) Tryd.func8 (by kernel_rfl)
    (of_decide_eq_true (by kernel_rfl)) (by unfold Func.isWrapper; first | (rw [if_pos (by decide +kernel)]; kernel_rfl) | (rw [if_neg (by decide +kernel)]; exact ⟨rfl, rfl⟩))
    (fun os started H enc _ F => by rw [OpenClaim.pre_eq_preRow]; exact lifted os started H enc F)
theorem plain (f : FuncId) (fn : Func) (hf : Tryd.pinned.checked.prog.funcNamed "pileup/pileuplaw04.CopyingFigures" = some f) (hfn : Tryd.pinned.checked.prog.funcs[f]? = some fn) :
    false = Tryd.pinned.checked.prog.looks [] ∧ ∀ (j : Nat) t, fn.params[j]? = some t → Tryd.pinned.checked.prog.wantsStandIn t = false := by
  obtain rfl : f = 8 := Option.some.inj ((show Tryd.prog.funcNamed "pileup/pileuplaw04.CopyingFigures" = some 8 by kernel_rfl).symm.trans hf) |>.symm
  obtain rfl : fn = Tryd.f8 := (Option.some.inj (Tryd.func8.symm.trans hfn)).symm
  refine ⟨by kernel_rfl, fun j t ht => ?_⟩
  rw [Tryd.params8] at ht
  have ht : t = 27 := by simpa using Array.mem_of_getElem? ht
  subst ht
  · exact (show Tryd.prog.wantsStandIn 27 = false by kernel_rfl)
theorem card : Rows.CopyingFiguresCardSaid :=
  Claim7.holds_tied_plain_at .later [] _ _ _ _ said (fun _ h => by cases h) (by kernel_rfl) (fun _ h => by cases h) copyingFigures_row_tie rfl ⟨rfl, rfl⟩ (by kernel_rfl) rfl plain (by kernel_rfl)
end LawFigures
end Go.Proofs.YthodoabppkeidaaDoor
