/-
  CopyingChains: the numbers that can stay, the rising list, and how many numbers a rising list changes are as specified. Condition: the tables lie in memory.
-/
import Derived.Test.YthodoabppkeidaaDoorCpRefD
namespace Go.Proofs.YthodoabppkeidaaDoor
open Go Go.RowKit
open Go.ChangeShapes Go.WideShapes Go.ChangeAt Go.Deep
set_option maxRecDepth 100000 in
set_option maxHeartbeats 8000000 in
theorem law_chains (F : List Bytes) (mode a b most : Int) (X Y C : ByteArray) (A7 A8 A9 A10 A11 : Option Addr) (n7 n8 n9 c7 c8 c9 c10 c11 : Nat) (l r : List Int) (w : World) (hT : TabAt w F) (hp : HasPow w)
    (h10 : IntsAt w (.slice A10 l.length c10) l) (h11 : IntsAt w (.slice A11 r.length c11) r) :
    Calls Tryd.prog 3 #[.agg #[.int .i64 mode, .string X, .string Y, .string C, .int .i64 a, .int .i64 b, .int .i64 most, .slice A7 n7 c7, .slice A8 n8 c8, .slice A9 n9 c9, .slice A10 l.length c10, .slice A11 r.length c11]] w fun e w' => e = .returned (.bool true) ∧ New w w' := by
  have HA : Hid (∀ w', New w w' → Calls Tryd.prog 11 #[] w' fun e w'' => e = .returned (.bool true) ∧ New w' w'') := Lib.hid (fun w' hn => law_awake F w' (hT.keep hn) (hp.keep hn))
  have H10 := Lib.hid h10
  have H11 := Lib.hid h11
  clear hT hp h10 h11
  generalize hcs : [Value.int .i64 mode, .string X, .string Y, .string C, .int .i64 a, .int .i64 b, .int .i64 most, .slice A7 n7 c7, .slice A8 n8 c8, .slice A9 n9 c9, .slice A10 l.length c10, .slice A11 r.length c11] = cs
  have hk := (New.refl w).alloc (.cells cs.toArray 27)
  have hr := RowIs.new w 27 cs
  subst hcs
  have HK := Lib.hid hk
  have HR := Lib.hid hr
  clear hk hr
  go_enter Tryd.func3, Tryd.ntmps3
  go_wp2_with fail
  refine (HA.out _ HK.out).mono ?_
  rintro e w1 ⟨rfl, n1⟩
  have N1 := Lib.hid (HK.out.trans n1)
  have R1 := Lib.hid (HR.out.keep n1)
  clear n1 HA
  have q10 := R1.out.cell (i := 10) rfl
  have q11 := R1.out.cell (i := 11) rfl
  by_cases hb : ((100 < l.length ∧ l.length ≤ 400) ∨ 800 < l.length) ∨ 200 < r.length
  · by_cases h1 : 100 < l.length ∧ l.length ≤ 400
    · have i1 : (100 : Int) < (l.length : Int) := by omega
      have i2 : (l.length : Int) ≤ 400 := by omega
      clear hb h1
      go_wp2_with fail
      all_goals
        go_ret
        exact ⟨rfl, N1.out⟩
    · by_cases h2 : 800 < l.length
      · have i1 : (100 : Int) < (l.length : Int) := by omega
        have i2 : ¬ ((l.length : Int) ≤ 400) := by omega
        have i3 : (800 : Int) < (l.length : Int) := by omega
        clear hb h1
        go_wp2_with fail
        all_goals
          go_ret
          exact ⟨rfl, N1.out⟩
      · have i4 : (200 : Int) < (r.length : Int) := by omega
        have i3 : ¬ ((800 : Int) < (l.length : Int)) := by omega
        clear hb
        by_cases h3 : 100 < l.length
        · have i1 : (100 : Int) < (l.length : Int) := by omega
          have i2 : ¬ ((l.length : Int) ≤ 400) := by omega
          clear h1
          go_wp2_with fail
          all_goals
            go_ret
            exact ⟨rfl, N1.out⟩
        · have i1 : ¬ ((100 : Int) < (l.length : Int)) := by omega
          clear h1
          go_wp2_with fail
          all_goals
            go_ret
            exact ⟨rfl, N1.out⟩
  · rw [not_or, not_or, not_and] at hb
    obtain ⟨⟨hb1, hb2⟩, hb3⟩ := hb
    have HCH : Hid (∀ w', New w w' → Calls Tryd.prog 12 #[.slice A10 l.length c10] w' fun e w'' => ∃ v', e = .returned (.tuple #[v', .int .i64 (serE l)]) ∧ (w''.ownsRow w'.heap.size 3 1 v' (keptC l).length (natsV (keptC l)) ∧ New w' w'')) := Lib.hid (fun w' hn => cp_Chain l _ w' (H10.out.keep hn) (by omega))
    have HRC : Hid (∀ w', New w w' → Calls Tryd.prog 13 #[.slice A10 l.length c10] w' fun e w'' => ∃ v', e = .returned (.tuple #[v', .int .i64 (serE l)]) ∧ (w''.ownsRow w'.heap.size 3 1 v' (keptC l).length (natsV (keptC l)) ∧ New w' w'')) := Lib.hid (fun w' hn => ref_Chain l _ w' (H10.out.keep hn) (by omega))
    have HRI : Hid (∀ w', New w w' → Calls Tryd.prog 14 #[.slice A10 l.length c10] w' fun e w'' => ∃ v', e = .returned (.tuple #[v', .int .i64 (serE l)]) ∧ (w''.ownsRow w'.heap.size 3 1 v' (riseC l).length (intsV (riseC l)) ∧ New w' w'')) := Lib.hid (fun w' hn => cp_Rise l _ w' (H10.out.keep hn) (by omega))
    have HRR : Hid (∀ w', New w w' → Calls Tryd.prog 15 #[.slice A10 l.length c10] w' fun e w'' => ∃ v', e = .returned (.tuple #[v', .int .i64 (serE l)]) ∧ (w''.ownsRow w'.heap.size 3 1 v' (riseC l).length (intsV (riseC l)) ∧ New w' w'')) := Lib.hid (fun w' hn => ref_Rise l _ w' (H10.out.keep hn) (by omega))
    have HCR : Hid (∀ w', New w w' → Calls Tryd.prog 16 #[.slice A10 l.length c10, .slice A11 r.length c11] w' fun e w'' => e = .returned (.tuple #[.int .i64 (crC l r : Nat), .int .i64 (crE l r)]) ∧ New w' w'') := Lib.hid (fun w' hn => cp_CheckRise l r _ _ w' (H10.out.keep hn) (H11.out.keep hn) (by omega))
    have HRK : Hid (∀ w', New w w' → Calls Tryd.prog 17 #[.slice A10 l.length c10, .slice A11 r.length c11] w' fun e w'' => e = .returned (.tuple #[.int .i64 (crC l r : Nat), .int .i64 (crE l r)]) ∧ New w' w'') := Lib.hid (fun w' hn => ref_CheckRise l r _ _ w' (H10.out.keep hn) (H11.out.keep hn) (by omega))
    generalize serE l = E at *
    generalize crC l r = M at *
    generalize crE l r = E2 at *
    have i3 : ¬ ((800 : Int) < (l.length : Int)) := by omega
    have i4 : ¬ ((200 : Int) < (r.length : Int)) := by omega
    rcases Classical.em (100 < l.length) with h3 | h3
    case' inl =>
      have i1 : (100 : Int) < (l.length : Int) := by omega
      have i2 : ¬ ((l.length : Int) ≤ 400) := by omega
      clear hb1 hb2 hb3 h3
    case' inr =>
      have i1 : ¬ ((100 : Int) < (l.length : Int)) := by omega
      clear hb1 hb2 hb3 h3
    all_goals
      go_wp2_with fail
      refine (HCH.out _ N1.out).mono ?_
      rintro e w2 ⟨v2, rfl, o2, n2⟩
      have N2 := Lib.hid (N1.out.trans n2)
      have R2 := Lib.hid (R1.out.keep n2)
      have V2 := Lib.hid (nats_at o2)
      obtain ⟨PA2, PC2, rfl⟩ := owns_form o2
      clear n2 o2 q10 q11
      have q10 := R2.out.cell (i := 10) rfl
      go_wp2_with fail
      refine (HRC.out _ N2.out).mono ?_
      rintro e w3 ⟨v3, rfl, o3, n3⟩
      have N3 := Lib.hid (N2.out.trans n3)
      have R3 := Lib.hid (R2.out.keep n3)
      have V2' := Lib.hid (V2.out.keep n3)
      have V3 := Lib.hid (nats_at o3)
      obtain ⟨PA3, PC3, rfl⟩ := owns_form o3
      clear n3 o3 q10 V2
      have q10 := R3.out.cell (i := 10) rfl
      go_wp2_with fail
      refine (HRI.out _ N3.out).mono ?_
      rintro e w4 ⟨v4, rfl, o4, n4⟩
      have N4 := Lib.hid (N3.out.trans n4)
      have R4 := Lib.hid (R3.out.keep n4)
      have M4 := Lib.hid n4
      have V4 := Lib.hid (IntsAt.owns o4)
      obtain ⟨PA4, PC4, rfl⟩ := owns_form o4
      clear n4 o4 q10
      have q10 := R4.out.cell (i := 10) rfl
      go_wp2_with fail
      refine (HRR.out _ N4.out).mono ?_
      rintro e w5 ⟨v5, rfl, o5, n5⟩
      have N5 := Lib.hid (N4.out.trans n5)
      have R5 := Lib.hid (R4.out.keep n5)
      have M5 := Lib.hid (M4.out.trans n5)
      have V4' := Lib.hid (V4.out.keep n5)
      have V5 := Lib.hid (IntsAt.owns o5)
      obtain ⟨PA5, PC5, rfl⟩ := owns_form o5
      clear n5 o5 q10 V4
      have q10 := R5.out.cell (i := 10) rfl
      have q11 := R5.out.cell (i := 11) rfl
      go_wp2_with fail
      refine (HCR.out _ N5.out).mono ?_
      rintro e w6 ⟨rfl, n6⟩
      have N6 := Lib.hid (N5.out.trans n6)
      have R6 := Lib.hid (R5.out.keep n6)
      have M6 := Lib.hid (M5.out.trans n6)
      have M56 := Lib.hid n6
      clear n6 q10 q11
      have q10 := R6.out.cell (i := 10) rfl
      have q11 := R6.out.cell (i := 11) rfl
      go_wp2_with fail
      refine (HRK.out _ N6.out).mono ?_
      rintro e w7 ⟨rfl, n7⟩
      have N7 := Lib.hid (N6.out.trans n7)
      have M7 := Lib.hid (M6.out.trans n7)
      have M57 := Lib.hid (M56.out.trans n7)
      clear n7 q10 q11
      have HSA : Hid (∀ w', New w7 w' → Calls Tryd.prog 18 #[.slice PA2 (keptC l).length PC2, .slice PA3 (keptC l).length PC3] w' fun e w'' => e = .returned (.bool true) ∧ New w' w'') := Lib.hid (fun w' hn => law_same _ _ _ w' ((V2'.out.keep M7.out).keep hn) ((V3.out.keep M7.out).keep hn))
      have HSB : Hid (∀ w', New w7 w' → Calls Tryd.prog 18 #[.slice PA4 (riseC l).length PC4, .slice PA5 (riseC l).length PC5] w' fun e w'' => e = .returned (.bool true) ∧ New w' w'') := Lib.hid (fun w' hn => law_same _ _ _ w' ((V4'.out.keep M57.out).keep hn) ((V5.out.keep M57.out).keep hn))
      clear V2' V3 V4' V5 HCH HRC HRI HRR HCR HRK
      go_wp2_with fail
      refine (HSA.out _ (New.refl _)).mono ?_
      rintro e w8 ⟨rfl, n8⟩
      have N8 := Lib.hid n8
      clear n8
      go_wp2_with fail
      refine (HSB.out _ N8.out).mono ?_
      rintro e w9 ⟨rfl, n9⟩
      have N9 := Lib.hid (N8.out.trans n9)
      clear n9
      go_wp2_with fail
      go_ret
      exact ⟨by first | rfl | (simp; done), N7.out.trans N9.out⟩
set_option maxRecDepth 100000 in
theorem law_chains_at (F : List Bytes) (mode a b most : Int) (X Y C : ByteArray) (v7 v8 v9 v10 v11 : Value) (w : World) (hT : TabAt w F) (hp : HasPow w) (h7 : ∃ A n c, v7 = .slice A n c) (h8 : Cell.okWide Tryd.prog w .any 0 23 v8) (h9 : Cell.okWide Tryd.prog w .any 0 24 v9) (h10 : ∃ l, IntsAt w v10 l) (h11 : ∃ l, IntsAt w v11 l) :
    Calls Tryd.prog 3 #[.agg #[.int .i64 mode, .string X, .string Y, .string C, .int .i64 a, .int .i64 b, .int .i64 most, v7, v8, v9, v10, v11]] w fun e w' => e = .returned (.bool true) ∧ New w w' := by
  obtain ⟨A7, n7, c7, rfl⟩ := h7
  obtain ⟨A8, n8, c8, rfl⟩ := slice_of_ok Tryd.underlying23 h8
  obtain ⟨A9, n9, c9, rfl⟩ := slice_of_ok Tryd.underlying24 h9
  obtain ⟨l10, h10⟩ := h10
  obtain ⟨A10, c10, rfl, _⟩ := h10.form
  obtain ⟨l11, h11⟩ := h11
  obtain ⟨A11, c11, rfl, _⟩ := h11.form
  exact law_chains F mode a b most X Y C A7 A8 A9 A10 A11 n7 n8 n9 c7 c8 c9 c10 c11 l10 l11 w hT hp h10 h11
namespace LawChains
theorem reads : ∀ t ∈ Tryd.f3.params.toList, Tryd.prog.readableRec t = true ∧ t < Tryd.prog.types.size := by
  rw [Tryd.params3]
  intro t ht
  have ht : t = 27 := by simpa using ht
  subst ht
  · exact ⟨by kernel_rfl, of_decide_eq_true (by kernel_rfl)⟩
set_option maxRecDepth 100000 in
theorem contract (H : Type) (enc : TypeId × Value → H) (W : World) (base : Nat) (args : Array Value) (ds gs : List (DataW H)) (before : List MemPlace)
    (hval : ∀ (j : Nat) t v, Tryd.f3.params[j]? = some t → args[j]? = some v → Value.okWide Tryd.prog W .any base t v)
    (hW : DataW.Whole enc Tryd.prog Tryd.f3.params.toList Rows.copyingChainsSpec.vars false W args.toList ds gs before) (hS : W.ShapedOpen Tryd.prog) (hlaid : laidMetH Tryd.prog Rows.copyingChainsRow.laid W) :
    Calls Tryd.prog 3 args W fun e W' => ∃ v, e = .returned v ∧ Rows.copyingChainsSpec.post enc Tryd.prog Tryd.f3 false true false false W args v W' := by
  have hW' := hW
  obtain ⟨p, q, hA0, hV, rfl, hfz, hnd⟩ := hW
  have hA : DataW.TrodAll enc Tryd.prog W 0 (fun _ => true) true Tryd.f3.params.toList args.toList ds p := hA0
  rw [Tryd.params3] at hA hval
  obtain ⟨v0, vs0, d0, ds0, p0, q0, hargs, rfl, rfl, h0, r0⟩ := trodAll_cons hA
  obtain ⟨rfl, rfl, rfl⟩ := trodAll_nil r0
  obtain rfl : args = #[v0] := by cases args; simp_all
  obtain ⟨rfl, rfl⟩ := trodVars_none hV
  have hv0 := hval 0 27 v0 rfl rfl
  clear hval
  obtain ⟨m0, x0, y0, c0, i0, j0, k0, t0, tb0, st0, nu0, ch0, rfl, ha0⟩ := open_ask hv0 h0
  have hpow : HasPow W := pow_of_laid hlaid
  obtain ⟨Fm, htab⟩ := tab_of_row hS hlaid
  refine (law_chains_at Fm m0 i0 j0 k0 x0 y0 c0 t0 tb0 st0 nu0 ch0 W htab hpow ha0.1 ha0.2.1.1 ha0.2.2.1.1 ha0.2.2.2.1 ha0.2.2.2.2).mono fun e W' ⟨he, hb⟩ => ?_
  subst he
  exact ⟨_, rfl, post_true hW' rfl (by kernel_rfl) ⟨rfl, rfl, rfl⟩ reads hb⟩
theorem laid_met (os : Os) : laidMet Tryd.prog Rows.copyingChainsRow.laid ((laidWorld os).forCall (fun _ _ => 0) ⟨#[], #[.agg #[.int .i64 0, .string ⟨#[]⟩, .string ⟨#[]⟩, .string ⟨#[]⟩, .int .i64 0, .int .i64 0, .int .i64 0, .slice none 0 0, .slice none 0 0, .slice none 0 0, .slice none 0 0, .slice none 0 0]], []⟩).memory :=
  laidMet_of_run' 8 (by kernel_rfl) (by kernel_rfl)
theorem reads_w (os : Os) {H : Type} (enc : TypeId × Value → H) : ∃ places, DataW.whole enc Tryd.prog ((laidWorld os).forCall (fun _ _ => 0) ⟨#[], #[.agg #[.int .i64 0, .string ⟨#[]⟩, .string ⟨#[]⟩, .string ⟨#[]⟩, .int .i64 0, .int .i64 0, .int .i64 0, .slice none 0 0, .slice none 0 0, .slice none 0 0, .slice none 0 0, .slice none 0 0]], []⟩).memory Tryd.f3.params.toList Rows.copyingChainsSpec.vars false #[Value.agg #[.int .i64 0, .string ⟨#[]⟩, .string ⟨#[]⟩, .string ⟨#[]⟩, .int .i64 0, .int .i64 0, .int .i64 0, .slice none 0 0, .slice none 0 0, .slice none 0 0, .slice none 0 0, .slice none 0 0]].toList 8 = some ([.agg [.lit (.int .i64 0), .lit (.string []), .lit (.string []), .lit (.string []), .lit (.int .i64 0), .lit (.int .i64 0), .lit (.int .i64 0), .nil, .nil, .nil, .nil, .nil]], [], places) :=
  ⟨[], by kernel_rfl⟩
set_option maxRecDepth 100000 in
theorem lifted (os : Os) (started : os.Started) (H : Type) (enc : TypeId × Value → H) (F : Stop.Interp) :
    ReturnsInHanded {} Tryd.checked os 3 .any ((OpenSpec.ofChange Rows.copyingChainsSpec).preRow enc Tryd.prog Tryd.f3 Rows.copyingChainsRow.domain false Rows.copyingChainsRow.laid) (((OpenSpec.ofChange Rows.copyingChainsSpec).at F).post enc Tryd.prog Tryd.f3 false true false false) := by
  obtain ⟨places, hx⟩ := reads_w os enc
  refine returnsInHanded_of_row (C := Tryd.checked) (s := OpenSpec.ofChange Rows.copyingChainsSpec) row_own started (by kernel_rfl) Tryd.func3
    (witness_row_at (enc := enc) (C := Tryd.checked) false (laidWorld os) #[.agg #[.int .i64 0, .string ⟨#[]⟩, .string ⟨#[]⟩, .string ⟨#[]⟩, .int .i64 0, .int .i64 0, .int .i64 0, .slice none 0 0, .slice none 0 0, .slice none 0 0, .slice none 0 0, .slice none 0 0]] rfl (by kernel_rfl) (by kernel_rfl) (by kernel_rfl)
      (OpenSpec.preRow_of_cond 8 hx (by kernel_rfl) (fun k hk => by cases hk) (by kernel_rfl) (laid_met os))) ?_
  intro W base args ds gs before hval hW _ _ _ hlaid hS _
  exact contract H enc W base args ds gs before hval hW hS hlaid
theorem said : Rows.CopyingChainsSaid :=
  OpenClaim.holds_of_cond 3 Tryd.f3 rfl rfl rfl rfl rfl rfl rfl ⟨rfl, rfl, rfl, rfl, rfl⟩ rfl rfl rfl rfl rfl (by kernel_rfl) Tryd.func3 (by kernel_rfl)
    (of_decide_eq_true (by kernel_rfl)) (by unfold Func.isWrapper; first | (rw [if_pos (by decide +kernel)]; kernel_rfl) | (rw [if_neg (by decide +kernel)]; exact ⟨rfl, rfl⟩))
    (fun os started H enc _ F => by rw [OpenClaim.pre_eq_preRow]; exact lifted os started H enc F)
theorem plain (f : FuncId) (fn : Func) (hf : Tryd.pinned.checked.prog.funcNamed "pileup/pileuplaw04.CopyingChains" = some f) (hfn : Tryd.pinned.checked.prog.funcs[f]? = some fn) :
    false = Tryd.pinned.checked.prog.looks [] ∧ ∀ (j : Nat) t, fn.params[j]? = some t → Tryd.pinned.checked.prog.wantsStandIn t = false := by
  obtain rfl : f = 3 := Option.some.inj ((show Tryd.prog.funcNamed "pileup/pileuplaw04.CopyingChains" = some 3 by kernel_rfl).symm.trans hf) |>.symm
  obtain rfl : fn = Tryd.f3 := (Option.some.inj (Tryd.func3.symm.trans hfn)).symm
  refine ⟨by kernel_rfl, fun j t ht => ?_⟩
  rw [Tryd.params3] at ht
  have ht : t = 27 := by simpa using Array.mem_of_getElem? ht
  subst ht
  · exact (show Tryd.prog.wantsStandIn 27 = false by kernel_rfl)
theorem card : Rows.CopyingChainsCardSaid :=
  Claim7.holds_tied_plain_at .later [] _ _ _ _ said (fun _ h => by cases h) (by kernel_rfl) (fun _ h => by cases h) copyingChains_row_tie rfl ⟨rfl, rfl⟩ (by kernel_rfl) rfl plain (by kernel_rfl)
end LawChains
end Go.Proofs.YthodoabppkeidaaDoor
