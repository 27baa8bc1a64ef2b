/-
  CopyingApart: costs are distances. Condition: the tables lie in memory.
-/
import Derived.Test.YthodoabppkeidaaDoorCpApart
import Derived.Test.YthodoabppkeidaaDoorCpLaid
namespace Go.Proofs.YthodoabppkeidaaDoor
open Go Go.RowKit
open Go.ChangeShapes Go.WideShapes Go.ChangeAt Go.Deep
set_option maxRecDepth 100000 in
set_option maxHeartbeats 4000000 in
theorem law_apart (F : List Bytes) (mode : Int) (S T U : ByteArray) (w : World) (hT : TabAt w F) (hp : HasPow w) :
    Calls Tryd.prog 5 #[.agg #[.int .i64 mode, .string S, .string T, .string U]] w fun e w' => e = .returned (.bool true) ∧ New w w' := by
  have HT := Lib.hid hT
  have HA : Hid (∀ w', New w w' → Calls Tryd.prog 11 #[] w' fun e w'' => e = .returned (.bool true) ∧ New w' w'') := Lib.hid (fun w' hn => law_awake F w' (hT.keep hn) (hp.keep hn))
  have HB := Lib.hid law_brief
  clear hT hp
  have hk := (New.refl w).alloc (.cells #[.int .i64 mode, .string S, .string T, .string U] 41)
  have hr := RowIs.new w 41 [.int .i64 mode, .string S, .string T, .string U]
  have HK := Lib.hid hk
  have HR := Lib.hid hr
  clear hk hr
  go_enter Tryd.func5, Tryd.ntmps5
  go_wp2_with fail
  generalize hW : w.alloc (.cells #[.int .i64 mode, .string S, .string T, .string U] 41) = W at *
  refine (HA.out W HK.out).mono ?_
  rintro e w1 ⟨rfl, n1⟩
  have N1 := Lib.hid (HK.out.trans n1)
  have R1 := Lib.hid (HR.out.keep n1)
  clear n1
  have c1 := R1.out.cell (i := 1) rfl
  have c2 := R1.out.cell (i := 2) rfl
  have c3 := R1.out.cell (i := 3) rfl
  by_cases hs : S.size ≤ 200 ∧ T.size ≤ 200 ∧ U.size ≤ 200
  · obtain ⟨h1, h2, h3⟩ := hs
    have B1 := Lib.hid (HB.out S w1)
    have B2 := Lib.hid (HB.out T w1)
    have B3 := Lib.hid (HB.out U w1)
    rw [decide_eq_true h1] at B1
    rw [decide_eq_true h2] at B2
    rw [decide_eq_true h3] at B3
    go_wp2_with fail
    refine B1.out.mono ?_
    rintro e w' ⟨rfl, rfl⟩
    go_wp2_with fail
    refine B2.out.mono ?_
    rintro e w' ⟨rfl, rfl⟩
    go_wp2_with fail
    refine B3.out.mono ?_
    rintro e w' ⟨rfl, rfl⟩
    have c0 := R1.out.cell (i := 0) rfl
    go_wp2_with fail
    have hCO : ∀ (s t : ByteArray) w', s.size ≤ 200 → t.size ≤ 200 → New w w' → Calls Tryd.prog 23 #[.int .i64 mode, .string s, .string t] w' fun e w'' => e = .returned (.tuple #[.int .i64 (costC F mode (bs s) (bs t) : Nat), .int .i64 (hearE mode (bs s) (bs t))]) ∧ New w' w'' :=
      fun s t w' ls lt hn => cost_at F mode s t w' (HT.out.keep hn) (by omega) (by omega)
    have HCO := Lib.hid hCO
    clear hCO
    refine (HCO.out S T w1 h1 h2 N1.out).mono ?_
    rintro e w2 ⟨rfl, n2⟩
    have N2 := Lib.hid (N1.out.trans n2)
    have R2 := Lib.hid (R1.out.keep n2)
    clear n2 c0 c1 c2 c3
    have c0 := R2.out.cell (i := 0) rfl
    have c2 := R2.out.cell (i := 2) rfl
    have c3 := R2.out.cell (i := 3) rfl
    go_wp2_with fail
    refine (HCO.out T U w2 h2 h3 N2.out).mono ?_
    rintro e w3 ⟨rfl, n3⟩
    have N3 := Lib.hid (N2.out.trans n3)
    have R3 := Lib.hid (R2.out.keep n3)
    clear n3 c0 c2 c3
    have c0 := R3.out.cell (i := 0) rfl
    have c1 := R3.out.cell (i := 1) rfl
    have c3 := R3.out.cell (i := 3) rfl
    go_wp2_with fail
    refine (HCO.out S U w3 h1 h3 N3.out).mono ?_
    rintro e w4 ⟨rfl, n4⟩
    have N4 := Lib.hid (N3.out.trans n4)
    have R4 := Lib.hid (R3.out.keep n4)
    clear n4 c0 c1 c3
    have hz := costC_zero F (mode := mode) (s := bs S) (t := bs T)
    have htr := costC_tri F (mode := mode) (s := bs S) (t := bs T) (u := bs U)
    have hsy := hearE_symm (mode := mode) (s := bs S) (t := bs T)
    have hcs := costC_symm F (mode := mode) (s := bs S) (t := bs T)
    have ha := costC_small F mode (bs S) (bs T)
    have hb := costC_small F mode (bs T) (bs U)
    have hc := costC_small F mode (bs S) (bs U)
    have H4 := Lib.hid (HCO.out T S w4 h2 h1 N4.out)
    generalize hearE mode (bs S) (bs T) = E1 at *
    generalize hearE mode (bs T) (bs U) = E2 at *
    generalize hearE mode (bs S) (bs U) = E3 at *
    generalize hearE mode (bs T) (bs S) = E4 at *
    generalize costC F mode (bs S) (bs T) = A at *
    generalize costC F mode (bs T) (bs U) = A2 at *
    generalize costC F mode (bs S) (bs U) = A3 at *
    generalize costC F mode (bs T) (bs S) = A4 at *
    by_cases e1 : E1 = 0
    · subst e1
      by_cases e2 : E2 = 0
      · subst e2
        by_cases e3 : E3 = 0
        · subst e3
          have HZ := Lib.hid (hz rfl)
          have HTR := Lib.hid (htr rfl rfl rfl)
          have HCS := Lib.hid (hcs rfl)
          obtain rfl := hsy rfl
          clear hz htr hcs hsy
          have c0 := R4.out.cell (i := 0) rfl
          have c1 := R4.out.cell (i := 1) rfl
          have c2 := R4.out.cell (i := 2) rfl
          go_wp2_with fail
          refine H4.out.mono ?_
          rintro e w5 ⟨rfl, n5⟩
          have N5 := Lib.hid (N4.out.trans n5)
          have R5 := Lib.hid (R4.out.keep n5)
          clear n5 c0 c1 c2
          have c0 := R5.out.cell (i := 0) rfl
          have c1 := R5.out.cell (i := 1) rfl
          have c2 := R5.out.cell (i := 2) rfl
          have i1 : IntKind.i64.wrap ((A : Int) + (A2 : Int)) = (A : Int) + (A2 : Int) := IntWalk.i64_in _ (by omega)
          have i2 : (A3 : Int) ≤ (A : Int) + (A2 : Int) := by have := HTR.out; omega
          by_cases hm : mode = 2
          · subst hm
            by_cases hst : S = T
            · subst hst
              obtain rfl : A = 0 := HZ.out.2 rfl
              go_wp2_with fail
              all_goals
                go_ret
                refine ⟨?_, N5.out⟩
                first | rfl | (simp; done) | (simp; omega)
            · have hA : ¬ ((A : Int) = 0) := fun h => hst (bs_inj (HZ.out.1 (by omega)))
              have hA2 : (0 : Int) ≤ (A : Int) := by omega
              have hA3 : ((A : Int) == 0) = false := by rw [beq_eq_false_iff_ne]; exact hA
              have hS2 := str_ne hst
              go_wp2_with fail
              all_goals
                go_ret
                refine ⟨?_, N5.out⟩
                first | rfl | (simp; done) | (simp; omega)
          · obtain rfl : A4 = A := HCS.out hm
            by_cases hst : S = T
            · subst hst
              obtain rfl : A4 = 0 := HZ.out.2 rfl
              go_wp2_with fail
              all_goals
                go_ret
                refine ⟨?_, N5.out⟩
                first | rfl | (simp; done) | (simp; omega)
            · have hA : ¬ ((A4 : Int) = 0) := fun h => hst (bs_inj (HZ.out.1 (by omega)))
              have hA2 : (0 : Int) ≤ (A4 : Int) := by omega
              have hA3 : ((A4 : Int) == 0) = false := by rw [beq_eq_false_iff_ne]; exact hA
              have hS2 := str_ne hst
              go_wp2_with fail
              all_goals
                go_ret
                refine ⟨?_, N5.out⟩
                first | rfl | (simp; done) | (simp; omega)
        · have e3' : (E3 != 0) = true := by rw [bne_iff_ne]; exact e3
          clear hz htr hcs hsy H4
          go_wp2_with fail
          go_ret
          exact ⟨by first | rfl | simp, N4.out⟩
      · have e2' : (E2 != 0) = true := by rw [bne_iff_ne]; exact e2
        clear hz htr hcs hsy H4
        go_wp2_with fail
        go_ret
        exact ⟨by first | rfl | simp, N4.out⟩
    · have e1' : (E1 != 0) = true := by rw [bne_iff_ne]; exact e1
      clear hz htr hcs hsy H4
      go_wp2_with fail
      go_ret
      exact ⟨by first | rfl | simp, N4.out⟩
  · have B1 := Lib.hid (HB.out S w1)
    have B2 := Lib.hid (HB.out T w1)
    have B3 := Lib.hid (HB.out U w1)
    by_cases h1 : S.size ≤ 200
    · by_cases h2 : T.size ≤ 200
      · have h3 : ¬ U.size ≤ 200 := fun h => hs ⟨h1, h2, h⟩
        rw [decide_eq_true h1] at B1
        rw [decide_eq_true h2] at B2
        rw [decide_eq_false h3] at B3
        go_wp2_with fail
        refine B1.out.mono ?_
        rintro e w' ⟨rfl, rfl⟩
        go_wp2_with fail
        refine B2.out.mono ?_
        rintro e w' ⟨rfl, rfl⟩
        go_wp2_with fail
        refine B3.out.mono ?_
        rintro e w' ⟨rfl, rfl⟩
        go_wp2_with fail
        go_ret
        exact ⟨rfl, N1.out⟩
      · rw [decide_eq_true h1] at B1
        rw [decide_eq_false h2] at B2
        go_wp2_with fail
        refine B1.out.mono ?_
        rintro e w' ⟨rfl, rfl⟩
        go_wp2_with fail
        refine B2.out.mono ?_
        rintro e w' ⟨rfl, rfl⟩
        go_wp2_with fail
        go_ret
        exact ⟨rfl, N1.out⟩
    · rw [decide_eq_false h1] at B1
      go_wp2_with fail
      refine B1.out.mono ?_
      rintro e w' ⟨rfl, rfl⟩
      go_wp2_with fail
      go_ret
      exact ⟨rfl, N1.out⟩
namespace LawApart
theorem reads : ∀ t ∈ Tryd.f5.params.toList, Tryd.prog.readableRec t = true ∧ t < Tryd.prog.types.size := by
  rw [Tryd.params5]
  intro t ht
  have ht : t = 41 := by simpa using ht
  subst ht
  · exact ⟨by kernel_rfl, of_decide_eq_true (by kernel_rfl)⟩
set_option maxRecDepth 100000 in
theorem contract (H : Type) (enc : TypeId × Value → H) (W : World) (base : Nat) (args : Array Value) (ds gs : List (DataW H)) (before : List MemPlace)
    (hval : ∀ (j : Nat) t v, Tryd.f5.params[j]? = some t → args[j]? = some v → Value.okWide Tryd.prog W .any base t v)
    (hW : DataW.Whole enc Tryd.prog Tryd.f5.params.toList Rows.copyingApartSpec.vars false W args.toList ds gs before) (hS : W.ShapedOpen Tryd.prog) (hlaid : laidMetH Tryd.prog Rows.copyingApartRow.laid W) :
    Calls Tryd.prog 5 args W fun e W' => ∃ v, e = .returned v ∧ Rows.copyingApartSpec.post enc Tryd.prog Tryd.f5 false true false false W args v W' := by
  have hW' := hW
  obtain ⟨p, q, hA0, hV, rfl, hfz, hnd⟩ := hW
  have hA : DataW.TrodAll enc Tryd.prog W 0 (fun _ => true) true Tryd.f5.params.toList args.toList ds p := hA0
  rw [Tryd.params5] at hA hval
  obtain ⟨v0, vs0, d0, ds0, p0, q0, hargs, rfl, rfl, h0, r0⟩ := trodAll_cons hA
  obtain ⟨rfl, rfl, rfl⟩ := trodAll_nil r0
  obtain rfl : args = #[v0] := by cases args; simp_all
  obtain ⟨rfl, rfl⟩ := trodVars_none hV
  have hv0 := hval 0 41 v0 rfl rfl
  clear hval
  obtain ⟨m0, x0, y0, z0, rfl, rfl⟩ := open_three hv0 h0
  have hpow : HasPow W := pow_of_laid hlaid
  obtain ⟨Fm, htab⟩ := tab_of_row hS hlaid
  refine (law_apart Fm m0 x0 y0 z0 W htab hpow).mono fun e W' ⟨he, hb⟩ => ?_
  subst he
  exact ⟨_, rfl, post_true hW' rfl (by kernel_rfl) ⟨rfl, rfl, rfl⟩ reads hb⟩
theorem laid_met (os : Os) : laidMet Tryd.prog Rows.copyingApartRow.laid ((laidWorld os).forCall (fun _ _ => 0) ⟨#[], #[.agg #[.int .i64 0, .string ⟨#[]⟩, .string ⟨#[]⟩, .string ⟨#[]⟩]], []⟩).memory :=
  laidMet_of_run' 8 (by kernel_rfl) (by kernel_rfl)
theorem reads_w (os : Os) {H : Type} (enc : TypeId × Value → H) : ∃ places, DataW.whole enc Tryd.prog ((laidWorld os).forCall (fun _ _ => 0) ⟨#[], #[.agg #[.int .i64 0, .string ⟨#[]⟩, .string ⟨#[]⟩, .string ⟨#[]⟩]], []⟩).memory Tryd.f5.params.toList Rows.copyingApartSpec.vars false #[Value.agg #[.int .i64 0, .string ⟨#[]⟩, .string ⟨#[]⟩, .string ⟨#[]⟩]].toList 8 = some ([.agg [.lit (.int .i64 0), .lit (.string []), .lit (.string []), .lit (.string [])]], [], places) :=
  ⟨[], by kernel_rfl⟩
set_option maxRecDepth 100000 in
theorem lifted (os : Os) (started : os.Started) (H : Type) (enc : TypeId × Value → H) (F : Stop.Interp) :
    ReturnsInHanded {} Tryd.checked os 5 .any ((OpenSpec.ofChange Rows.copyingApartSpec).preRow enc Tryd.prog Tryd.f5 Rows.copyingApartRow.domain false Rows.copyingApartRow.laid) (((OpenSpec.ofChange Rows.copyingApartSpec).at F).post enc Tryd.prog Tryd.f5 false true false false) := by
  obtain ⟨places, hx⟩ := reads_w os enc
  refine returnsInHanded_of_row (C := Tryd.checked) (s := OpenSpec.ofChange Rows.copyingApartSpec) row_own started (by kernel_rfl) Tryd.func5
    (witness_row_at (enc := enc) (C := Tryd.checked) false (laidWorld os) #[.agg #[.int .i64 0, .string ⟨#[]⟩, .string ⟨#[]⟩, .string ⟨#[]⟩]] rfl (by kernel_rfl) (by kernel_rfl) (by kernel_rfl)
      (OpenSpec.preRow_of_cond 8 hx (by kernel_rfl) (fun k hk => by cases hk) (by kernel_rfl) (laid_met os))) ?_
  intro W base args ds gs before hval hW _ _ _ hlaid hS _
  exact contract H enc W base args ds gs before hval hW hS hlaid
theorem said : Rows.CopyingApartSaid :=
  OpenClaim.holds_of_cond 5 Tryd.f5 rfl rfl rfl rfl rfl rfl rfl ⟨rfl, rfl, rfl, rfl, rfl⟩ rfl rfl rfl rfl rfl (by kernel_rfl) Tryd.func5 (by kernel_rfl)
    (of_decide_eq_true (by kernel_rfl)) (by unfold Func.isWrapper; first | (rw [if_pos (by decide +kernel)]; kernel_rfl) | (rw [if_neg (by decide +kernel)]; exact ⟨rfl, rfl⟩))
    (fun os started H enc _ F => by rw [OpenClaim.pre_eq_preRow]; exact lifted os started H enc F)
theorem plain (f : FuncId) (fn : Func) (hf : Tryd.pinned.checked.prog.funcNamed "pileup/pileuplaw04.CopyingApart" = some f) (hfn : Tryd.pinned.checked.prog.funcs[f]? = some fn) :
    false = Tryd.pinned.checked.prog.looks [] ∧ ∀ (j : Nat) t, fn.params[j]? = some t → Tryd.pinned.checked.prog.wantsStandIn t = false := by
  obtain rfl : f = 5 := Option.some.inj ((show Tryd.prog.funcNamed "pileup/pileuplaw04.CopyingApart" = some 5 by kernel_rfl).symm.trans hf) |>.symm
  obtain rfl : fn = Tryd.f5 := (Option.some.inj (Tryd.func5.symm.trans hfn)).symm
  refine ⟨by kernel_rfl, fun j t ht => ?_⟩
  rw [Tryd.params5] at ht
  have ht : t = 41 := by simpa using Array.mem_of_getElem? ht
  subst ht
  · exact (show Tryd.prog.wantsStandIn 41 = false by kernel_rfl)
theorem card : Rows.CopyingApartCardSaid :=
  Claim7.holds_tied_plain_at .later [] _ _ _ _ said (fun _ h => by cases h) (by kernel_rfl) (fun _ h => by cases h) copyingApart_row_tie rfl ⟨rfl, rfl⟩ (by kernel_rfl) rfl plain (by kernel_rfl)
end LawApart
end Go.Proofs.YthodoabppkeidaaDoor
