/-
  CopyingRises: Rise keeps what can stay, and no rising list keeps more. Condition: the tables lie in memory.
-/
import Derived.Test.YthodoabppkeidaaDoorCpCheck
import Derived.Test.YthodoabppkeidaaDoorCpAsk
import Derived.Deep.CutRange
namespace Go.Proofs.YthodoabppkeidaaDoor
open Go Go.RowKit
open Go.ChangeShapes Go.WideShapes Go.ChangeAt Go.Deep
theorem rsg_at {l : List Int} (h : Rsg 0 l) {j : Nat} (hj : j < l.length) : 1 ≤ l[j] ∧ l[j] ≤ 99999 ∧ ∀ (h0 : 0 < j), l[j - 1]'(by omega) < l[j] := by
  obtain ⟨a1, a2, a3⟩ := rsg_get h (j := j) (k := j) hj (Nat.le_refl _)
  rw [getElem!_pos l j hj] at a1
  refine ⟨by omega, by omega, fun h0 => ?_⟩
  obtain ⟨b1, b2, b3⟩ := rsg_get h (j := j - 1) (k := j) hj (by omega)
  rw [getElem!_pos l (j - 1) (by omega)] at b2
  omega
set_option maxRecDepth 100000 in
set_option maxHeartbeats 2000000 in
theorem ref_Rising (l : List Int) (v : Value) (w : World) (hv : IntsAt w v l) (h : Rsg 0 l) : Calls Tryd.prog 33 #[v] w fun e w' => e = .returned (.bool true) ∧ New w w' := by
  have HV := Lib.hid hv
  have HR := Lib.hid (fun j (hj : j < l.length) => rsg_at h hj)
  obtain ⟨A, c, rfl, b1, b2⟩ := hv.form
  clear hv h
  go_enter Tryd.func33, Tryd.ntmps33
  go_wp2_with fail
  go_loopw [3] (fun s3 wr => ∃ j : Nat, j ≤ l.length ∧ s3 = .int .i64 j ∧ New w wr) (fun i _ => l.length - (intOf i).toNat)
  case atStart => exact ⟨0, by omega, rfl, New.refl _⟩
  case round =>
    obtain ⟨j, hj, rfl, hn⟩ := hrel
    have HN := Lib.hid hn
    clear hn
    by_cases hlt : j < l.length
    · obtain ⟨gb, off, rfl, -, hc⟩ := ints_cell (HV.out.keep HN.out) (by omega)
      have x1 := hc j hlt
      obtain ⟨r1, r2, r3⟩ := HR.out j hlt
      have i1 : (j : Int) < (l.length : Int) := by omega
      have n1 : ¬ (l[j] < 1) := by omega
      have n2 : ¬ (99999 < l[j]) := by omega
      by_cases h0 : 0 < j
      · have r4 := r3 h0
        have hpr : j - 1 < l.length := by omega
        have x2 := hc (j - 1) hpr
        have n3 : ¬ (l[j] ≤ l[j - 1]'hpr) := by omega
        have i2 : IntKind.i64.wrap ((j : Int) - 1) = (j : Int) - 1 := IntWalk.i64_in _ (by omega)
        have i3 : ((j : Int) - 1).toNat = j - 1 := by omega
        have i4 : 0 ≤ (j : Int) - 1 := by omega
        have i5 : (j : Int) - 1 < (l.length : Int) := by omega
        have i6 : (0 : Int) < (j : Int) := by omega
        have k1 : (1 : Int) ≤ (j : Int) := by omega
        have k2 : (j : Int) ≤ (l.length : Int) := by omega
        have k3 : 1 ≤ j := by omega
        clear hc r1 r2 r3 r4
        generalize l[j]'hlt = x at *
        generalize l[j - 1]'hpr = y at *
        go_upto_region 4 with fail
        go_quiet (fail)
        go_wp2_with fail
        refine ⟨⟨j + 1, by omega, by go_num, HN.out.drewN _⟩, by simp [intOf]; omega⟩
      · obtain rfl : j = 0 := by omega
        rw [Nat.add_zero] at x1
        have i7 : (0 : Int) < (l.length : Int) := by omega
        clear hc r1 r2 r3
        generalize l[0]'hlt = x at *
        go_upto_region 4 with fail
        go_quiet (fail)
        go_wp2_with fail
        refine ⟨⟨1, by omega, by go_num, HN.out.drewN _⟩, by simp [intOf]; omega⟩
    · obtain rfl : j = l.length := by omega
      go_wp2_with fail
      go_ret
      exact ⟨rfl, HN.out⟩
theorem rise_facts {l : List Int} (he : serE l = 0) : crE l (riseL l) = 0 ∧ crC l (riseL l) + (keptI l).length = l.length ∧
    ∀ x ∈ keptI l, x < l.length ∧ ∀ h : x < l.length, (riseL l)[x]'(by rw [riseL_len]; exact h) = l[x] := by
  obtain ⟨h1, h2⟩ := serE_ok he
  have hl : l.length ≤ 1000 := by omega
  have hr := rise_rsg hl
  have e1 : crE l (riseL l) = 0 := by
    rw [crE, if_neg (by rw [he]; simp), if_neg]
    rw [not_or]
    exact ⟨by rw [riseL_len]; simp, by rw [rsgB_iff.2 hr]; simp⟩
  refine ⟨e1, ?_, fun x hx => ?_⟩
  · rw [crC, if_pos e1]
    have h3 := neq_places (l := l) (r := riseL l)
    rw [rise_keeps hl] at h3
    rw [keptI, List.length_map]
    exact h3
  · have hk := (keptI_mem hl).1 hx
    obtain ⟨a1, a2, a3, a4⟩ := kept_mem hl hk
    refine ⟨a1, fun h => ?_⟩
    have h3 := riseL_at l h
    rw [List.getElem?_eq_getElem (by rw [riseL_len]; exact h)] at h3
    rw [Option.some.inj h3, rzA, if_neg a4, a3, List.getD_eq_getElem?_getD, List.getElem?_eq_getElem h]
    rfl
theorem rise_best {l r : List Int} (he : serE l = 0) (hr : crE l r = 0) : crC l (riseL l) ≤ crC l r := by
  obtain ⟨h1, h2⟩ := serE_ok he
  obtain ⟨_, h3, h4⟩ := crE_zero hr
  obtain ⟨e1, e2, _⟩ := rise_facts he
  have h5 := eq_most (by omega) h4 h3
  have h6 := neq_places (l := l) (r := r)
  have e3 : crC l r = neqN l r l.length := if_pos hr
  have e4 : (keptI l).length = (kept l).length := by rw [keptI, List.length_map]
  omega
set_option maxRecDepth 100000 in
set_option maxHeartbeats 8000000 in
theorem law_rises (F : List Bytes) (mode a b most : Int) (X Y C : ByteArray) (A7 A8 A9 A10 A11 : Option Addr) (n7 n8 n9 c7 c8 c9 c10 c11 : Nat) (l r : List Int) (w : World) (hT : TabAt w F) (hp : HasPow w)
    (h10 : IntsAt w (.slice A10 l.length c10) l) (h11 : IntsAt w (.slice A11 r.length c11) r) :
    Calls Tryd.prog 10 #[.agg #[.int .i64 mode, .string X, .string Y, .string C, .int .i64 a, .int .i64 b, .int .i64 most, .slice A7 n7 c7, .slice A8 n8 c8, .slice A9 n9 c9, .slice A10 l.length c10, .slice A11 r.length c11]] w fun e w' => e = .returned (.bool true) ∧ New w w' := by
  have HA : Hid (∀ w', New w w' → Calls Tryd.prog 11 #[] w' fun e w'' => e = .returned (.bool true) ∧ New w' w'') := Lib.hid (fun w' hn => law_awake F w' (hT.keep hn) (hp.keep hn))
  have H10 := Lib.hid h10
  have H11 := Lib.hid h11
  clear hT hp h10 h11
  generalize hcs : [Value.int .i64 mode, .string X, .string Y, .string C, .int .i64 a, .int .i64 b, .int .i64 most, .slice A7 n7 c7, .slice A8 n8 c8, .slice A9 n9 c9, .slice A10 l.length c10, .slice A11 r.length c11] = cs
  have hk := (New.refl w).alloc (.cells cs.toArray 27)
  have hr := RowIs.new w 27 cs
  subst hcs
  have HK := Lib.hid hk
  have HR := Lib.hid hr
  clear hk hr
  go_enter Tryd.func10, Tryd.ntmps10
  go_wp2_with fail
  refine (HA.out _ HK.out).mono ?_
  rintro e w1 ⟨rfl, n1⟩
  have N1 := Lib.hid (HK.out.trans n1)
  have R1 := Lib.hid (HR.out.keep n1)
  clear n1 HA
  have q10 := R1.out.cell (i := 10) rfl
  have q11 := R1.out.cell (i := 11) rfl
  by_cases hb1 : l.length ≤ 100
  · have i1 : ¬ ((100 : Int) < (l.length : Int)) := by omega
    by_cases hb2 : r.length ≤ 200
    · have i2 : ¬ ((200 : Int) < (r.length : Int)) := by omega
      have HRI : Hid (∀ w', New w w' → Calls Tryd.prog 14 #[.slice A10 l.length c10] w' fun e w'' => ∃ v', e = .returned (.tuple #[v', .int .i64 (serE l)]) ∧ (w''.ownsRow w'.heap.size 3 1 v' (riseC l).length (intsV (riseC l)) ∧ New w' w'')) := Lib.hid (fun w' hn => cp_Rise l _ w' (H10.out.keep hn) (by omega))
      have HCH : Hid (∀ w', New w w' → Calls Tryd.prog 12 #[.slice A10 l.length c10] w' fun e w'' => ∃ v', e = .returned (.tuple #[v', .int .i64 (serE l)]) ∧ (w''.ownsRow w'.heap.size 3 1 v' (keptC l).length (natsV (keptC l)) ∧ New w' w'')) := Lib.hid (fun w' hn => cp_Chain l _ w' (H10.out.keep hn) (by omega))
      go_wp2_with fail
      refine (HRI.out _ N1.out).mono ?_
      rintro e w2 ⟨v2, rfl, o2, n2⟩
      have N2 := Lib.hid (N1.out.trans n2)
      have R2 := Lib.hid (R1.out.keep n2)
      obtain ⟨RA, RC, rfl⟩ := owns_form o2
      have O2 := Lib.hid o2
      clear n2 o2 q10 q11
      have q10 := R2.out.cell (i := 10) rfl
      go_wp2_with fail
      refine (HCH.out _ N2.out).mono ?_
      rintro e w3 ⟨v3, rfl, o3, n3⟩
      have N3 := Lib.hid (N2.out.trans n3)
      have R3 := Lib.hid (R2.out.keep n3)
      obtain ⟨KA, KC, rfl⟩ := owns_form o3
      have O3 := Lib.hid o3
      have O2' := Lib.hid (owns_keep O2.out n3)
      clear n3 o3 q10
      by_cases he : serE l = 0
      · have f1 := rise_facts he
        have f2 := rise_best (l := l) (r := r) he
        have e1 : riseC l = riseL l := if_pos he
        have e2 : keptC l = keptI l := if_pos he
        rw [e1] at O2'
        have hrl := riseL_len l
        have hle : (riseC l).length = l.length := by rw [e1, hrl]
        have hke : (keptC l).length = (keptI l).length := by rw [e2]
        rw [e2] at O3
        have hkl : (keptI l).length ≤ l.length := by have := f1.2.1; omega
        rw [hrl] at O2'
        rw [he, hle, hke]
        have hrs : Rsg 0 (riseL l) := rise_rsg (by omega)
        have HI2 : Hid (IntsAt w3 (.slice RA l.length RC) (riseL l)) := Lib.hid (IntsAt.owns (base := w1.heap.size) (l := riseL l) (by rw [hrl]; exact O2'.out))
        have HCR1 : Hid (Calls Tryd.prog 16 #[.slice A10 l.length c10, .slice RA l.length RC] w3 fun e w'' => e = .returned (.tuple #[.int .i64 (crC l (riseL l) : Nat), .int .i64 0]) ∧ New w3 w'') := Lib.hid (by
          have h := cp_CheckRise l (riseL l) _ _ w3 (H10.out.keep N3.out) HI2.out (by omega)
          rw [f1.1] at h
          exact h)
        have HCR2 : Hid (∀ w', New w w' → Calls Tryd.prog 16 #[.slice A10 l.length c10, .slice A11 r.length c11] w' fun e w'' => e = .returned (.tuple #[.int .i64 (crC l r : Nat), .int .i64 (crE l r)]) ∧ New w' w'') := Lib.hid (fun w' hn => cp_CheckRise l r _ _ w' (H10.out.keep hn) (H11.out.keep hn) (by omega))
        have HRI2 : Hid (∀ w', New w3 w' → Calls Tryd.prog 33 #[.slice RA l.length RC] w' fun e w'' => e = .returned (.bool true) ∧ New w' w'') := Lib.hid (fun w' hn => ref_Rising (riseL l) _ w' (HI2.out.keep hn) hrs)
        have F1 := Lib.hid f1
        have F2 := Lib.hid f2
        have hn1 := f1.2.1
        rw [e2] at hke
        have O3' := Lib.hid O3.out
        clear e1 e2 hrl hle hke hrs f1 f2 HRI HCH O2 O2' he
        have q10 := R3.out.cell (i := 10) rfl
        go_wp2_with fail
        refine HCR1.out.mono ?_
        rintro e w4 ⟨rfl, n4⟩
        have N4 := Lib.hid (N3.out.trans n4)
        have N34 := Lib.hid n4
        have R4 := Lib.hid (R3.out.keep n4)
        clear n4 q10
        have q10 := R4.out.cell (i := 10) rfl
        have q11 := R4.out.cell (i := 11) rfl
        go_wp2_with fail
        refine (HCR2.out w4 N4.out).mono ?_
        rintro e w5 ⟨rfl, n5⟩
        have N5 := Lib.hid (N4.out.trans n5)
        have N35 := Lib.hid (N34.out.trans n5)
        have R5 := Lib.hid (R4.out.keep n5)
        clear n5 q10 q11
        have q10 := R5.out.cell (i := 10) rfl
        go_wp2_with fail
        refine (HRI2.out w5 N35.out).mono ?_
        rintro e w6 ⟨rfl, n6⟩
        have N6 := Lib.hid (N5.out.trans n6)
        have N36 := Lib.hid (N35.out.trans n6)
        have R6 := Lib.hid (R5.out.keep n6)
        clear n6 q10
        have q10 := R6.out.cell (i := 10) rfl
        have j1 : IntKind.i64.wrap ((l.length : Int) - ((keptI l).length : Int)) = (l.length : Int) - ((keptI l).length : Int) := IntWalk.i64_in _ (by omega)
        have j2 : (crC l (riseL l) : Int) = (l.length : Int) - ((keptI l).length : Int) := by omega
        go_wp2_with fail
        have d1 : decide ((100 : Int) < (l.length : Int)) = false := decide_eq_false (by omega)
        have d2 : decide ((200 : Int) < (r.length : Int)) = false := decide_eq_false (by omega)
        simp only [d1, d2, Bool.or_self]
        have HF2 : Hid (crE l r = 0 → (l.length : Int) - ((keptI l).length : Int) ≤ (crC l r : Int)) := Lib.hid (fun h => by have := F2.out h; omega)
        clear d1 d2 q10 j1 j2 hn1 F2
        have hkn : (natsV (keptI l)).length = (keptI l).length := natsV_len _
        go_loopw [12] (fun s12 wr => ∃ j : Nat, j ≤ (keptI l).length ∧ s12 = .int .i64 j ∧ New w6 wr) (fun i _ => (keptI l).length - (intOf i).toNat)
        case atStart => exact ⟨0, by omega, rfl, New.refl _⟩
        case round =>
          obtain ⟨j, hj, rfl, hn⟩ := hrel
          have HN := Lib.hid hn
          have HN3 := Lib.hid (N36.out.trans hn)
          clear hn
          by_cases hlt : j < (keptI l).length
          · obtain ⟨xl, hx2⟩ := F1.out.2.2 _ (List.getElem_mem hlt)
            have hx3 := hx2 xl
            obtain ⟨lb, lo, rfl, -, lc⟩ := ints_cell (H10.out.keep (N3.out.trans HN3.out)) (by omega)
            have y1 := lc _ xl
            obtain ⟨rb, ro, rfl, -, rc⟩ := ints_cell (HI2.out.keep HN3.out) (by rw [riseL_len]; omega)
            have y2 := rc _ (show (keptI l)[j] < (riseL l).length by rw [riseL_len]; exact xl)
            rw [hx3] at y2
            have hsl := owns_sl (cs := natsV (keptI l)) (by rw [hkn]; exact owns_keep O3'.out HN3.out)
            rw [SlAt, hkn] at hsl
            obtain ⟨KA', KC', hke, -, -, hkc⟩ := hsl
            obtain ⟨kb, ko, rfl, kl, kc⟩ := hkc (by omega)
            simp only [Value.slice.injEq, true_and] at hke
            obtain ⟨rfl, rfl⟩ := hke
            have y3 : wr.cell? ⟨kb, ko + j, none⟩ = some (.int .i64 ((keptI l)[j] : Nat)) := by
              refine kc j _ ?_
              rw [natsV, List.getElem?_map, List.getElem?_eq_getElem hlt]
              rfl
            have q10 := (R6.out.keep HN.out).cell (i := 10) rfl
            clear lc rc kc hkc hx2 hx3
            generalize l[(keptI l)[j]]'xl = z at *
            generalize (keptI l)[j] = x at *
            have k1 : (x : Int) < (l.length : Int) := by omega
            have k2 : (j : Int) < ((keptI l).length : Int) := by omega
            have k3 : ¬ ((x : Int) < 0) := by omega
            have k4 : ¬ ((l.length : Int) ≤ (x : Int)) := by omega
            go_upto_region 15 with fail
            go_quiet (fail)
            go_wp2_with fail
            refine ⟨⟨j + 1, by omega, by go_num, HN.out.drewN _⟩, by simp [intOf]; omega⟩
          · obtain rfl : j = (keptI l).length := by omega
            by_cases hE : crE l r = 0
            · have hf := HF2.out hE
              go_wp2_with fail
              all_goals
                go_ret
                exact ⟨by first | rfl | (simp; done) | (simp; omega), N6.out.trans HN.out⟩
            · have hE2 : (crE l r != 0) = true := by rw [bne_iff_ne]; exact hE
              go_wp2_with fail
              all_goals
                go_ret
                exact ⟨by first | rfl | (simp; done) | (simp; omega), N6.out.trans HN.out⟩
      · have hE : (serE l != 0) = true := by rw [bne_iff_ne]; exact he
        have e1 : (riseC l).length = 0 := by rw [riseC, if_neg he]; rfl
        have e2 : (keptC l).length = 0 := by rw [keptC, if_neg he]; rfl
        rw [e1, e2]
        clear e1 e2 O2 O3 O2'
        generalize serE l = E at *
        go_wp2_with fail
        all_goals
          go_ret
          exact ⟨by first | rfl | (simp; done) | (simp; omega), N3.out⟩
    · have i2 : (200 : Int) < (r.length : Int) := by omega
      go_wp2_with fail
      go_ret
      exact ⟨rfl, N1.out⟩
  · have i1 : (100 : Int) < (l.length : Int) := by omega
    go_wp2_with fail
    go_ret
    exact ⟨rfl, N1.out⟩
set_option maxRecDepth 100000 in
theorem law_rises_at (F : List Bytes) (mode a b most : Int) (X Y C : ByteArray) (v7 v8 v9 v10 v11 : Value) (w : World) (hT : TabAt w F) (hp : HasPow w) (h7 : ∃ A n c, v7 = .slice A n c) (h8 : Cell.okWide Tryd.prog w .any 0 23 v8) (h9 : Cell.okWide Tryd.prog w .any 0 24 v9) (h10 : ∃ l, IntsAt w v10 l) (h11 : ∃ l, IntsAt w v11 l) :
    Calls Tryd.prog 10 #[.agg #[.int .i64 mode, .string X, .string Y, .string C, .int .i64 a, .int .i64 b, .int .i64 most, v7, v8, v9, v10, v11]] w fun e w' => e = .returned (.bool true) ∧ New w w' := by
  obtain ⟨A7, n7, c7, rfl⟩ := h7
  obtain ⟨A8, n8, c8, rfl⟩ := slice_of_ok Tryd.underlying23 h8
  obtain ⟨A9, n9, c9, rfl⟩ := slice_of_ok Tryd.underlying24 h9
  obtain ⟨l10, h10⟩ := h10
  obtain ⟨A10, c10, rfl, _⟩ := h10.form
  obtain ⟨l11, h11⟩ := h11
  obtain ⟨A11, c11, rfl, _⟩ := h11.form
  exact law_rises F mode a b most X Y C A7 A8 A9 A10 A11 n7 n8 n9 c7 c8 c9 c10 c11 l10 l11 w hT hp h10 h11
namespace LawRises
theorem reads : ∀ t ∈ Tryd.f10.params.toList, Tryd.prog.readableRec t = true ∧ t < Tryd.prog.types.size := by
  rw [Tryd.params10]
  intro t ht
  have ht : t = 27 := by simpa using ht
  subst ht
  · exact ⟨by kernel_rfl, of_decide_eq_true (by kernel_rfl)⟩
set_option maxRecDepth 100000 in
theorem contract (H : Type) (enc : TypeId × Value → H) (W : World) (base : Nat) (args : Array Value) (ds gs : List (DataW H)) (before : List MemPlace)
    (hval : ∀ (j : Nat) t v, Tryd.f10.params[j]? = some t → args[j]? = some v → Value.okWide Tryd.prog W .any base t v)
    (hW : DataW.Whole enc Tryd.prog Tryd.f10.params.toList Rows.copyingRisesSpec.vars false W args.toList ds gs before) (hS : W.ShapedOpen Tryd.prog) (hlaid : laidMetH Tryd.prog Rows.copyingRisesRow.laid W) :
    Calls Tryd.prog 10 args W fun e W' => ∃ v, e = .returned v ∧ Rows.copyingRisesSpec.post enc Tryd.prog Tryd.f10 false true false false W args v W' := by
  have hW' := hW
  obtain ⟨p, q, hA0, hV, rfl, hfz, hnd⟩ := hW
  have hA : DataW.TrodAll enc Tryd.prog W 0 (fun _ => true) true Tryd.f10.params.toList args.toList ds p := hA0
  rw [Tryd.params10] at hA hval
  obtain ⟨v0, vs0, d0, ds0, p0, q0, hargs, rfl, rfl, h0, r0⟩ := trodAll_cons hA
  obtain ⟨rfl, rfl, rfl⟩ := trodAll_nil r0
  obtain rfl : args = #[v0] := by cases args; simp_all
  obtain ⟨rfl, rfl⟩ := trodVars_none hV
  have hv0 := hval 0 27 v0 rfl rfl
  clear hval
  obtain ⟨m0, x0, y0, c0, i0, j0, k0, t0, tb0, st0, nu0, ch0, rfl, ha0⟩ := open_ask hv0 h0
  have hpow : HasPow W := pow_of_laid hlaid
  obtain ⟨Fm, htab⟩ := tab_of_row hS hlaid
  refine (law_rises_at Fm m0 i0 j0 k0 x0 y0 c0 t0 tb0 st0 nu0 ch0 W htab hpow ha0.1 ha0.2.1.1 ha0.2.2.1.1 ha0.2.2.2.1 ha0.2.2.2.2).mono fun e W' ⟨he, hb⟩ => ?_
  subst he
  exact ⟨_, rfl, post_true hW' rfl (by kernel_rfl) ⟨rfl, rfl, rfl⟩ reads hb⟩
theorem laid_met (os : Os) : laidMet Tryd.prog Rows.copyingRisesRow.laid ((laidWorld os).forCall (fun _ _ => 0) ⟨#[], #[.agg #[.int .i64 0, .string ⟨#[]⟩, .string ⟨#[]⟩, .string ⟨#[]⟩, .int .i64 0, .int .i64 0, .int .i64 0, .slice none 0 0, .slice none 0 0, .slice none 0 0, .slice none 0 0, .slice none 0 0]], []⟩).memory :=
  laidMet_of_run' 8 (by kernel_rfl) (by kernel_rfl)
theorem reads_w (os : Os) {H : Type} (enc : TypeId × Value → H) : ∃ places, DataW.whole enc Tryd.prog ((laidWorld os).forCall (fun _ _ => 0) ⟨#[], #[.agg #[.int .i64 0, .string ⟨#[]⟩, .string ⟨#[]⟩, .string ⟨#[]⟩, .int .i64 0, .int .i64 0, .int .i64 0, .slice none 0 0, .slice none 0 0, .slice none 0 0, .slice none 0 0, .slice none 0 0]], []⟩).memory Tryd.f10.params.toList Rows.copyingRisesSpec.vars false #[Value.agg #[.int .i64 0, .string ⟨#[]⟩, .string ⟨#[]⟩, .string ⟨#[]⟩, .int .i64 0, .int .i64 0, .int .i64 0, .slice none 0 0, .slice none 0 0, .slice none 0 0, .slice none 0 0, .slice none 0 0]].toList 8 = some ([.agg [.lit (.int .i64 0), .lit (.string []), .lit (.string []), .lit (.string []), .lit (.int .i64 0), .lit (.int .i64 0), .lit (.int .i64 0), .nil, .nil, .nil, .nil, .nil]], [], places) :=
  ⟨[], by kernel_rfl⟩
set_option maxRecDepth 100000 in
theorem lifted (os : Os) (started : os.Started) (H : Type) (enc : TypeId × Value → H) (F : Stop.Interp) :
    ReturnsInHanded {} Tryd.checked os 10 .any ((OpenSpec.ofChange Rows.copyingRisesSpec).preRow enc Tryd.prog Tryd.f10 Rows.copyingRisesRow.domain false Rows.copyingRisesRow.laid) (((OpenSpec.ofChange Rows.copyingRisesSpec).at F).post enc Tryd.prog Tryd.f10 false true false false) := by
  obtain ⟨places, hx⟩ := reads_w os enc
  refine returnsInHanded_of_row (C := Tryd.checked) (s := OpenSpec.ofChange Rows.copyingRisesSpec) row_own started (by kernel_rfl) Tryd.func10
    (witness_row_at (enc := enc) (C := Tryd.checked) false (laidWorld os) #[.agg #[.int .i64 0, .string ⟨#[]⟩, .string ⟨#[]⟩, .string ⟨#[]⟩, .int .i64 0, .int .i64 0, .int .i64 0, .slice none 0 0, .slice none 0 0, .slice none 0 0, .slice none 0 0, .slice none 0 0]] rfl (by kernel_rfl) (by kernel_rfl) (by kernel_rfl)
      (OpenSpec.preRow_of_cond 8 hx (by kernel_rfl) (fun k hk => by cases hk) (by kernel_rfl) (laid_met os))) ?_
  intro W base args ds gs before hval hW _ _ _ hlaid hS _
  exact contract H enc W base args ds gs before hval hW hS hlaid
theorem said : Rows.CopyingRisesSaid :=
  OpenClaim.holds_of_cond 10 Tryd.f10 rfl rfl rfl rfl rfl rfl rfl ⟨rfl, rfl, rfl, rfl, rfl⟩ rfl rfl rfl rfl rfl (by kernel_rfl) Tryd.func10 (by kernel_rfl)
    (of_decide_eq_true (by kernel_rfl)) (by unfold Func.isWrapper; first | (rw [if_pos (by decide +kernel)]; kernel_rfl) | (rw [if_neg (by decide +kernel)]; exact ⟨rfl, rfl⟩))
    (fun os started H enc _ F => by rw [OpenClaim.pre_eq_preRow]; exact lifted os started H enc F)
theorem plain (f : FuncId) (fn : Func) (hf : Tryd.pinned.checked.prog.funcNamed "pileup/pileuplaw04.CopyingRises" = some f) (hfn : Tryd.pinned.checked.prog.funcs[f]? = some fn) :
    false = Tryd.pinned.checked.prog.looks [] ∧ ∀ (j : Nat) t, fn.params[j]? = some t → Tryd.pinned.checked.prog.wantsStandIn t = false := by
  obtain rfl : f = 10 := Option.some.inj ((show Tryd.prog.funcNamed "pileup/pileuplaw04.CopyingRises" = some 10 by kernel_rfl).symm.trans hf) |>.symm
  obtain rfl : fn = Tryd.f10 := (Option.some.inj (Tryd.func10.symm.trans hfn)).symm
  refine ⟨by kernel_rfl, fun j t ht => ?_⟩
  rw [Tryd.params10] at ht
  have ht : t = 27 := by simpa using Array.mem_of_getElem? ht
  subst ht
  · exact (show Tryd.prog.wantsStandIn 27 = false by kernel_rfl)
theorem card : Rows.CopyingRisesCardSaid :=
  Claim7.holds_tied_plain_at .later [] _ _ _ _ said (fun _ h => by cases h) (by kernel_rfl) (fun _ h => by cases h) copyingRises_row_tie rfl ⟨rfl, rfl⟩ (by kernel_rfl) rfl plain (by kernel_rfl)
end LawRises
end Go.Proofs.YthodoabppkeidaaDoor
