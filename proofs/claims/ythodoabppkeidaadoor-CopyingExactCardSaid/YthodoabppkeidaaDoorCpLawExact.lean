/-
  CopyingExact: a line that copies a call and an exchange exactly costs nothing, any other one something. Condition: the tables lie in memory.
-/
import Derived.Test.YthodoabppkeidaaDoorCpSent
namespace Go.Proofs.YthodoabppkeidaaDoor
open Go Go.RowKit
open Go.ChangeShapes Go.WideShapes Go.ChangeAt Go.Deep
set_option maxRecDepth 100000 in
set_option maxHeartbeats 4000000 in
theorem law_exact (F : List Bytes) (x y z : Bool) (S H : ByteArray) (a b c n k mode t s1 s2 s3 g1 g2 g3 : Int) (w : World) (hT : TabAt w F) (hp : HasPow w) :
    Calls Tryd.prog 9 #[layV x y z, sentV S a b c n k mode t H s1 s2 s3 g1 g2 g3] w fun e w' => e = .returned (.bool true) ∧ New w w' := by
  have HT := Lib.hid hT
  have HP := Lib.hid hp
  have HA : Hid (∀ w', New w w' → Calls Tryd.prog 11 #[] w' fun e w'' => e = .returned (.bool true) ∧ New w' w'') := Lib.hid (fun w' hn => law_awake F w' (hT.keep hn) (hp.keep hn))
  have HB := Lib.hid law_brief
  clear hT hp
  have hk0 := ((New.refl w).alloc (.cells #[.bool x, .bool y, .bool z] 57)).alloc (.cells #[.string S, .int .i64 a, .int .i64 b, .int .i64 c, .int .i64 n, .int .i64 k, .int .i64 mode, .int .i64 t, .string H, .int .i64 s1, .int .i64 s2, .int .i64 s3, .int .i64 g1, .int .i64 g2, .int .i64 g3] 63)
  have HK0 := Lib.hid hk0
  have hk1 := (New.refl (w.alloc (.cells #[.bool x, .bool y, .bool z] 57))).alloc (.cells #[.string S, .int .i64 a, .int .i64 b, .int .i64 c, .int .i64 n, .int .i64 k, .int .i64 mode, .int .i64 t, .string H, .int .i64 s1, .int .i64 s2, .int .i64 s3, .int .i64 g1, .int .i64 g2, .int .i64 g3] 63)
  have R0 := Lib.hid ((RowIs.new w 57 [.bool x, .bool y, .bool z]).keep hk1)
  have R1 := Lib.hid (RowIs.new (w.alloc (.cells #[.bool x, .bool y, .bool z] 57)) 63 [.string S, .int .i64 a, .int .i64 b, .int .i64 c, .int .i64 n, .int .i64 k, .int .i64 mode, .int .i64 t, .string H, .int .i64 s1, .int .i64 s2, .int .i64 s3, .int .i64 g1, .int .i64 g2, .int .i64 g3])
  clear hk0 hk1
  simp only [World.size_alloc] at R1
  unfold layV sentV
  go_enter Tryd.func9, Tryd.ntmps9
  go_wp2_with fail
  generalize hW : (w.alloc (.cells #[.bool x, .bool y, .bool z] 57)).alloc (.cells #[.string S, .int .i64 a, .int .i64 b, .int .i64 c, .int .i64 n, .int .i64 k, .int .i64 mode, .int .i64 t, .string H, .int .i64 s1, .int .i64 s2, .int .i64 s3, .int .i64 g1, .int .i64 g2, .int .i64 g3] 63) = W at *
  clear hW
  refine (HA.out W HK0.out).mono ?_
  rintro e w1 ⟨rfl, n1⟩
  have N1 := Lib.hid n1
  clear n1
  have q0 := (R1.out.keep N1.out).cell (i := 0) rfl
  have q8 := (R1.out.keep N1.out).cell (i := 8) rfl
  have B1 := Lib.hid (HB.out S w1)
  have B2 := Lib.hid (HB.out H w1)
  by_cases h1 : S.size ≤ 200
  · by_cases h2 : H.size ≤ 200
    · rw [decide_eq_true h1] at B1
      rw [decide_eq_true h2] at B2
      go_wp2_with fail
      refine B1.out.mono ?_
      rintro e w' ⟨rfl, rfl⟩
      go_wp2_with fail
      refine B2.out.mono ?_
      rintro e w' ⟨rfl, rfl⟩
      clear B1 B2 q0 q8
      have HCL : Hid (∀ (H' : ByteArray) (a' b' c' : Int) w', H'.size ≤ 200 → New W w' → Calls Tryd.prog 31 #[.agg #[.bool x, .bool y, .bool z], .string S, .agg #[.int .i64 a, .int .i64 b, .int .i64 c], .agg #[.int .i64 n, .int .i64 k, .int .i64 mode, .int .i64 t, .string H', .int .i64 s1, .int .i64 s2, .int .i64 s3, .int .i64 a', .int .i64 b', .int .i64 c']] w' fun e w'' =>
          e = .returned (.tuple #[.int .i64 (lnC F mode (bs S) (bs H') x y z a b c a' b' c' : Nat), .int .i64 (lnE mode (bs S) (bs H') x y z a b c a' b' c')]) ∧ New w' w'') :=
        Lib.hid (fun H' a' b' c' w' l2 hn => cp_CopyLine F x y z S H' a b c n k mode t s1 s2 s3 a' b' c' w' (HT.out.keep (HK0.out.trans hn)) (HP.out.keep (HK0.out.trans hn)) (by omega) (by omega))
      have HCO : Hid (∀ w', New W w' → Calls Tryd.prog 23 #[.int .i64 mode, .string S, .string H] w' fun e w'' => e = .returned (.tuple #[.int .i64 (costC F mode (bs S) (bs H) : Nat), .int .i64 (hearE mode (bs S) (bs H))]) ∧ New w' w'') := Lib.hid (fun w' hn => cost_at F mode S H w' (HT.out.keep (HK0.out.trans hn)) (by omega) (by omega))
      have HCX : Hid (∀ w', New W w' → Calls Tryd.prog 32 #[.agg #[.bool x, .bool y, .bool z], .int .i64 mode, .agg #[.int .i64 a, .int .i64 b, .int .i64 c], .agg #[.int .i64 g1, .int .i64 g2, .int .i64 g3]] w' fun e w'' => e = .returned (.tuple #[.int .i64 (exC F mode x y z a b c g1 g2 g3 : Nat), .int .i64 (exE mode x y z a b c g1 g2 g3)]) ∧ New w' w'') := Lib.hid (fun w' hn => cp_CopyExchange F mode x y z a b c g1 g2 g3 w' (HT.out.keep (HK0.out.trans hn)) (HP.out.keep (HK0.out.trans hn)))
      have al0 := (R0.out.keep N1.out).cell (i := 0) rfl
      have al1 := (R0.out.keep N1.out).cell (i := 1) rfl
      have al2 := (R0.out.keep N1.out).cell (i := 2) rfl
      have as0 := (R1.out.keep N1.out).cell (i := 0) rfl
      have as1 := (R1.out.keep N1.out).cell (i := 1) rfl
      have as2 := (R1.out.keep N1.out).cell (i := 2) rfl
      have as3 := (R1.out.keep N1.out).cell (i := 3) rfl
      have as4 := (R1.out.keep N1.out).cell (i := 4) rfl
      have as5 := (R1.out.keep N1.out).cell (i := 5) rfl
      have as6 := (R1.out.keep N1.out).cell (i := 6) rfl
      have as7 := (R1.out.keep N1.out).cell (i := 7) rfl
      have as8 := (R1.out.keep N1.out).cell (i := 8) rfl
      have as9 := (R1.out.keep N1.out).cell (i := 9) rfl
      have as10 := (R1.out.keep N1.out).cell (i := 10) rfl
      have as11 := (R1.out.keep N1.out).cell (i := 11) rfl
      have as12 := (R1.out.keep N1.out).cell (i := 12) rfl
      have as13 := (R1.out.keep N1.out).cell (i := 13) rfl
      have as14 := (R1.out.keep N1.out).cell (i := 14) rfl
      go_wp2_with fail
      refine (HCL.out H g1 g2 g3 w1 h2 N1.out).mono ?_
      rintro e w2 ⟨rfl, n2⟩
      have N2 := Lib.hid (N1.out.trans n2)
      clear n2 al0 al1 al2 as0 as1 as2 as3 as4 as5 as6 as7 as8 as9 as10 as11 as12 as13 as14
      by_cases he : lnE mode (bs S) (bs H) x y z a b c g1 g2 g3 = 0
      · obtain ⟨f1, f2⟩ := lnE_zero he
        have hlc : lnC F mode (bs S) (bs H) x y z a b c g1 g2 g3 = costC F mode (bs S) (bs H) + exC F mode x y z a b c g1 g2 g3 := by rw [lnC, if_pos he]
        obtain ⟨f3, f4⟩ := ln_self F he
        have f5 := costC_zero F f1
        have f6 := exC_zero F f2
        have f7 := costC_small F mode (bs S) (bs H)
        have f8 := exC_small F mode x y z a b c g1 g2 g3
        have HC2 := Lib.hid (fun w' (hn : New W w') => HCL.out S a b c w' h1 hn)
        rw [f3, f4] at HC2
        rw [f1] at HCO
        rw [f2] at HCX
        rw [he, hlc]
        clear HCL f1 f2 f3 f4 he hlc
        have F5 : Hid (costC F mode (bs S) (bs H) = 0 ↔ bs S = bs H) := Lib.hid f5
        have F6 := Lib.hid f6
        clear f5 f6
        generalize costC F mode (bs S) (bs H) = C1 at *
        generalize exC F mode x y z a b c g1 g2 g3 = C2 at *
        have i1 : IntKind.i64.wrap ((C1 : Int) + (C2 : Int)) = (C1 : Int) + (C2 : Int) := IntWalk.i64_in _ (by omega)
        have bs0 := (R1.out.keep N2.out).cell (i := 0) rfl
        have bs6 := (R1.out.keep N2.out).cell (i := 6) rfl
        have bs8 := (R1.out.keep N2.out).cell (i := 8) rfl
        go_wp2_with fail
        refine (HCO.out w2 N2.out).mono ?_
        rintro e w3 ⟨rfl, n3⟩
        have N3 := Lib.hid (N2.out.trans n3)
        clear n3 bs0 bs6 bs8
        have cl0 := (R0.out.keep N3.out).cell (i := 0) rfl
        have cl1 := (R0.out.keep N3.out).cell (i := 1) rfl
        have cl2 := (R0.out.keep N3.out).cell (i := 2) rfl
        have cs1 := (R1.out.keep N3.out).cell (i := 1) rfl
        have cs2 := (R1.out.keep N3.out).cell (i := 2) rfl
        have cs3 := (R1.out.keep N3.out).cell (i := 3) rfl
        have cs6 := (R1.out.keep N3.out).cell (i := 6) rfl
        have cs12 := (R1.out.keep N3.out).cell (i := 12) rfl
        have cs13 := (R1.out.keep N3.out).cell (i := 13) rfl
        have cs14 := (R1.out.keep N3.out).cell (i := 14) rfl
        go_wp2_with fail
        refine (HCX.out w3 N3.out).mono ?_
        rintro e w4 ⟨rfl, n4⟩
        have N4 := Lib.hid (N3.out.trans n4)
        clear n4 cl0 cl1 cl2 cs1 cs2 cs3 cs6 cs12 cs13 cs14
        have ds0 := (R1.out.keep N4.out).cell (i := 0) rfl
        have ds1 := (R1.out.keep N4.out).cell (i := 1) rfl
        have ds2 := (R1.out.keep N4.out).cell (i := 2) rfl
        have ds3 := (R1.out.keep N4.out).cell (i := 3) rfl
        have ds4 := (R1.out.keep N4.out).cell (i := 4) rfl
        have ds5 := (R1.out.keep N4.out).cell (i := 5) rfl
        have ds6 := (R1.out.keep N4.out).cell (i := 6) rfl
        have ds7 := (R1.out.keep N4.out).cell (i := 7) rfl
        have ds8 := (R1.out.keep N4.out).cell (i := 8) rfl
        have ds9 := (R1.out.keep N4.out).cell (i := 9) rfl
        have ds10 := (R1.out.keep N4.out).cell (i := 10) rfl
        have ds11 := (R1.out.keep N4.out).cell (i := 11) rfl
        have ds12 := (R1.out.keep N4.out).cell (i := 12) rfl
        have ds13 := (R1.out.keep N4.out).cell (i := 13) rfl
        have ds14 := (R1.out.keep N4.out).cell (i := 14) rfl
        have N5 := Lib.hid (N4.out.trans ((New.refl w4).alloc (.cells #[.int .i64 n, .int .i64 k, .int .i64 mode, .int .i64 t, .string H, .int .i64 s1, .int .i64 s2, .int .i64 s3, .int .i64 g1, .int .i64 g2, .int .i64 g3] 61)))
        have N6 := Lib.hid (N4.out.trans ((New.refl w4).alloc (.cells #[.int .i64 n, .int .i64 k, .int .i64 mode, .int .i64 t, .string S, .int .i64 s1, .int .i64 s2, .int .i64 s3, .int .i64 g1, .int .i64 g2, .int .i64 g3] 61)))
        have N7 := Lib.hid (N4.out.trans ((New.refl w4).alloc (.cells #[.int .i64 n, .int .i64 k, .int .i64 mode, .int .i64 t, .string S, .int .i64 s1, .int .i64 s2, .int .i64 s3, .int .i64 a, .int .i64 b, .int .i64 c] 61)))
        have RL2 := Lib.hid (RowIs.new w4 61 [.int .i64 n, .int .i64 k, .int .i64 mode, .int .i64 t, .string S, .int .i64 s1, .int .i64 s2, .int .i64 s3, .int .i64 a, .int .i64 b, .int .i64 c])
        have e0 := (R1.out.keep N5.out).cell (i := 0) rfl
        have e6 := (R1.out.keep N6.out).cell (i := 1) rfl
        have e7 := (R1.out.keep N6.out).cell (i := 2) rfl
        have e8 := (R1.out.keep N6.out).cell (i := 3) rfl
        have gl0 := (R0.out.keep N7.out).cell (i := 0) rfl
        have gl1 := (R0.out.keep N7.out).cell (i := 1) rfl
        have gl2 := (R0.out.keep N7.out).cell (i := 2) rfl
        have gs0 := (R1.out.keep N7.out).cell (i := 0) rfl
        have gs1 := (R1.out.keep N7.out).cell (i := 1) rfl
        have gs2 := (R1.out.keep N7.out).cell (i := 2) rfl
        have gs3 := (R1.out.keep N7.out).cell (i := 3) rfl
        have gn0 := RL2.out.cell (i := 0) rfl
        have gn1 := RL2.out.cell (i := 1) rfl
        have gn2 := RL2.out.cell (i := 2) rfl
        have gn3 := RL2.out.cell (i := 3) rfl
        have gn4 := RL2.out.cell (i := 4) rfl
        have gn5 := RL2.out.cell (i := 5) rfl
        have gn6 := RL2.out.cell (i := 6) rfl
        have gn7 := RL2.out.cell (i := 7) rfl
        have gn8 := RL2.out.cell (i := 8) rfl
        have gn9 := RL2.out.cell (i := 9) rfl
        have gn10 := RL2.out.cell (i := 10) rfl
        go_wp2_with fail
        refine (HC2.out _ N7.out).mono ?_
        rintro e w8 ⟨rfl, n8⟩
        have N8 := Lib.hid (N7.out.trans n8)
        clear n8 e0 e6 e7 e8 gl0 gl1 gl2 gs0 gs1 gs2 gs3 gn0 gn1 gn2 gn3 gn4 gn5 gn6 gn7 gn8 gn9 gn10 ds0 ds1 ds2 ds3 ds4 ds5 ds6 ds7 ds8 ds9 ds10 ds11 ds12 ds13 ds14
        have k0 := (R1.out.keep N8.out).cell (i := 0) rfl
        have k1 := (R1.out.keep N8.out).cell (i := 1) rfl
        have k2 := (R1.out.keep N8.out).cell (i := 2) rfl
        have k3 := (R1.out.keep N8.out).cell (i := 3) rfl
        have k8 := (R1.out.keep N8.out).cell (i := 8) rfl
        have k12 := (R1.out.keep N8.out).cell (i := 12) rfl
        have k13 := (R1.out.keep N8.out).cell (i := 13) rfl
        have k14 := (R1.out.keep N8.out).cell (i := 14) rfl
        clear HCO HCX HC2
        by_cases hSH : S = H
        · subst hSH
          obtain rfl : C1 = 0 := F5.out.2 rfl
          by_cases hall : a = g1 ∧ b = g2 ∧ c = g3
          · obtain rfl : C2 = 0 := F6.out.2 hall
            obtain ⟨rfl, rfl, rfl⟩ := hall
            go_wp2_with fail
            all_goals
              go_ret
              refine ⟨?_, HK0.out.trans N8.out⟩
              first | rfl | (simp; done) | (simp; omega)
          · have hC : ¬ C2 = 0 := fun h => hall (F6.out.1 h)
            have hn : (((0 : Nat) : Int) + (C2 : Int) == 0) = false := by rw [beq_eq_false_iff_ne]; omega
            have hn2 : ((C2 : Int) == 0) = false := by rw [beq_eq_false_iff_ne]; omega
            by_cases ha : a = g1
            · subst ha
              by_cases hb : b = g2
              · subst hb
                have hc : (c == g3) = false := by rw [beq_eq_false_iff_ne]; exact fun h => hall ⟨rfl, rfl, h⟩
                clear hall hC
                go_wp2_with fail
                all_goals
                  go_ret
                  refine ⟨?_, HK0.out.trans N8.out⟩
                  first | rfl | (simp; done) | (simp; omega)
              · have hb2 : (b == g2) = false := by rw [beq_eq_false_iff_ne]; exact hb
                clear hall hC hb
                go_wp2_with fail
                all_goals
                  go_ret
                  refine ⟨?_, HK0.out.trans N8.out⟩
                  first | rfl | (simp; done) | (simp; omega)
            · have ha2 : (a == g1) = false := by rw [beq_eq_false_iff_ne]; exact ha
              clear hall hC ha
              go_wp2_with fail
              all_goals
                go_ret
                refine ⟨?_, HK0.out.trans N8.out⟩
                first | rfl | (simp; done) | (simp; omega)
        · have hs2 := str_ne hSH
          have hC : ¬ C1 = 0 := fun h => hSH (bs_inj (F5.out.1 h))
          have hn : ((C1 : Int) + (C2 : Int) == 0) = false := by rw [beq_eq_false_iff_ne]; omega
          clear hSH hC
          go_wp2_with fail
          all_goals
            go_ret
            refine ⟨?_, HK0.out.trans N8.out⟩
            first | rfl | (simp; done) | (simp; omega)
      · have hlc : lnC F mode (bs S) (bs H) x y z a b c g1 g2 g3 = 0 := by rw [lnC, if_neg he]
        have he2 : (lnE mode (bs S) (bs H) x y z a b c g1 g2 g3 != 0) = true := by rw [bne_iff_ne]; exact he
        rw [hlc]
        clear HCL HCO HCX he hlc
        generalize lnE mode (bs S) (bs H) x y z a b c g1 g2 g3 = E at *
        go_wp2_with fail
        go_ret
        exact ⟨by first | rfl | simp, HK0.out.trans N2.out⟩
    · rw [decide_eq_true h1] at B1
      rw [decide_eq_false h2] at B2
      go_wp2_with fail
      refine B1.out.mono ?_
      rintro e w' ⟨rfl, rfl⟩
      go_wp2_with fail
      refine B2.out.mono ?_
      rintro e w' ⟨rfl, rfl⟩
      go_wp2_with fail
      go_ret
      exact ⟨rfl, HK0.out.trans N1.out⟩
  · rw [decide_eq_false h1] at B1
    go_wp2_with fail
    refine B1.out.mono ?_
    rintro e w' ⟨rfl, rfl⟩
    go_wp2_with fail
    go_ret
    exact ⟨rfl, HK0.out.trans N1.out⟩
namespace LawExact
theorem reads : ∀ t ∈ Tryd.f9.params.toList, Tryd.prog.readableRec t = true ∧ t < Tryd.prog.types.size := by
  rw [Tryd.params9]
  intro t ht
  have ht : t = 57 ∨ t = 63 := by simpa using ht
  rcases ht with rfl | rfl
  · exact ⟨by kernel_rfl, of_decide_eq_true (by kernel_rfl)⟩
  · exact ⟨by kernel_rfl, of_decide_eq_true (by kernel_rfl)⟩
set_option maxRecDepth 100000 in
theorem contract (H : Type) (enc : TypeId × Value → H) (W : World) (base : Nat) (args : Array Value) (ds gs : List (DataW H)) (before : List MemPlace)
    (hval : ∀ (j : Nat) t v, Tryd.f9.params[j]? = some t → args[j]? = some v → Value.okWide Tryd.prog W .any base t v)
    (hW : DataW.Whole enc Tryd.prog Tryd.f9.params.toList Rows.copyingExactSpec.vars false W args.toList ds gs before) (hS : W.ShapedOpen Tryd.prog) (hlaid : laidMetH Tryd.prog Rows.copyingExactRow.laid W) :
    Calls Tryd.prog 9 args W fun e W' => ∃ v, e = .returned v ∧ Rows.copyingExactSpec.post enc Tryd.prog Tryd.f9 false true false false W args v W' := by
  have hW' := hW
  obtain ⟨p, q, hA0, hV, rfl, hfz, hnd⟩ := hW
  have hA : DataW.TrodAll enc Tryd.prog W 0 (fun _ => true) true Tryd.f9.params.toList args.toList ds p := hA0
  rw [Tryd.params9] at hA hval
  obtain ⟨v0, vs0, d0, ds0, p0, q0, hargs, rfl, rfl, h0, r0⟩ := trodAll_cons hA
  obtain ⟨v1, vs1, d1, ds1, p1, q1, rfl, rfl, rfl, h1, r1⟩ := trodAll_cons r0
  obtain ⟨rfl, rfl, rfl⟩ := trodAll_nil r1
  obtain rfl : args = #[v0, v1] := by cases args; simp_all
  obtain ⟨rfl, rfl⟩ := trodVars_none hV
  have hv0 := hval 0 57 v0 rfl rfl
  have hv1 := hval 1 63 v1 rfl rfl
  clear hval
  obtain ⟨x0, y0, z0, rfl⟩ := open_layout hv0
  obtain ⟨S1, H1, a1, b1, c1, n1, k1, m1, t1, s1, u1, r1, g1, e1, f1, rfl⟩ := open_sent hv1
  have hpow : HasPow W := pow_of_laid hlaid
  obtain ⟨Fm, htab⟩ := tab_of_row hS hlaid
  refine (law_exact Fm x0 y0 z0 S1 H1 a1 b1 c1 n1 k1 m1 t1 s1 u1 r1 g1 e1 f1 W htab hpow).mono fun e W' ⟨he, hb⟩ => ?_
  subst he
  exact ⟨_, rfl, post_true hW' rfl (by kernel_rfl) ⟨rfl, rfl, rfl⟩ reads hb⟩
theorem laid_met (os : Os) : laidMet Tryd.prog Rows.copyingExactRow.laid ((laidWorld os).forCall (fun _ _ => 0) ⟨#[], #[.agg #[.bool false, .bool false, .bool false], .agg #[.string ⟨#[]⟩, .int .i64 0, .int .i64 0, .int .i64 0, .int .i64 0, .int .i64 0, .int .i64 0, .int .i64 0, .string ⟨#[]⟩, .int .i64 0, .int .i64 0, .int .i64 0, .int .i64 0, .int .i64 0, .int .i64 0]], []⟩).memory :=
  laidMet_of_run' 8 (by kernel_rfl) (by kernel_rfl)
theorem reads_w (os : Os) {H : Type} (enc : TypeId × Value → H) : ∃ places, DataW.whole enc Tryd.prog ((laidWorld os).forCall (fun _ _ => 0) ⟨#[], #[.agg #[.bool false, .bool false, .bool false], .agg #[.string ⟨#[]⟩, .int .i64 0, .int .i64 0, .int .i64 0, .int .i64 0, .int .i64 0, .int .i64 0, .int .i64 0, .string ⟨#[]⟩, .int .i64 0, .int .i64 0, .int .i64 0, .int .i64 0, .int .i64 0, .int .i64 0]], []⟩).memory Tryd.f9.params.toList Rows.copyingExactSpec.vars false #[Value.agg #[.bool false, .bool false, .bool false], .agg #[.string ⟨#[]⟩, .int .i64 0, .int .i64 0, .int .i64 0, .int .i64 0, .int .i64 0, .int .i64 0, .int .i64 0, .string ⟨#[]⟩, .int .i64 0, .int .i64 0, .int .i64 0, .int .i64 0, .int .i64 0, .int .i64 0]].toList 8 = some ([.agg [.lit (.bool false), .lit (.bool false), .lit (.bool false)], .agg [.lit (.string []), .agg [.lit (.int .i64 0), .lit (.int .i64 0), .lit (.int .i64 0)], .agg [.lit (.int .i64 0), .lit (.int .i64 0), .lit (.int .i64 0), .lit (.int .i64 0), .lit (.string []), .agg [.lit (.int .i64 0), .lit (.int .i64 0), .lit (.int .i64 0)], .agg [.lit (.int .i64 0), .lit (.int .i64 0), .lit (.int .i64 0)]]]], [], places) :=
  ⟨[], by kernel_rfl⟩
set_option maxRecDepth 100000 in
theorem lifted (os : Os) (started : os.Started) (H : Type) (enc : TypeId × Value → H) (F : Stop.Interp) :
    ReturnsInHanded {} Tryd.checked os 9 .any ((OpenSpec.ofChange Rows.copyingExactSpec).preRow enc Tryd.prog Tryd.f9 Rows.copyingExactRow.domain false Rows.copyingExactRow.laid) (((OpenSpec.ofChange Rows.copyingExactSpec).at F).post enc Tryd.prog Tryd.f9 false true false false) := by
  obtain ⟨places, hx⟩ := reads_w os enc
  refine returnsInHanded_of_row (C := Tryd.checked) (s := OpenSpec.ofChange Rows.copyingExactSpec) row_own started (by kernel_rfl) Tryd.func9
    (witness_row_at (enc := enc) (C := Tryd.checked) false (laidWorld os) #[.agg #[.bool false, .bool false, .bool false], .agg #[.string ⟨#[]⟩, .int .i64 0, .int .i64 0, .int .i64 0, .int .i64 0, .int .i64 0, .int .i64 0, .int .i64 0, .string ⟨#[]⟩, .int .i64 0, .int .i64 0, .int .i64 0, .int .i64 0, .int .i64 0, .int .i64 0]] rfl (by kernel_rfl) (by kernel_rfl) (by kernel_rfl)
      (OpenSpec.preRow_of_cond 8 hx (by kernel_rfl) (fun k hk => by cases hk) (by kernel_rfl) (laid_met os))) ?_
  intro W base args ds gs before hval hW _ _ _ hlaid hS _
  exact contract H enc W base args ds gs before hval hW hS hlaid
theorem said : Rows.CopyingExactSaid :=
  OpenClaim.holds_of_cond 9 Tryd.f9 rfl rfl rfl rfl rfl rfl rfl ⟨rfl, rfl, rfl, rfl, rfl⟩ rfl rfl rfl rfl rfl (by kernel_rfl) Tryd.func9 (by kernel_rfl)
    (of_decide_eq_true (by kernel_rfl)) (by unfold Func.isWrapper; first | (rw [if_pos (by decide +kernel)]; kernel_rfl) | (rw [if_neg (by decide +kernel)]; exact ⟨rfl, rfl⟩))
    (fun os started H enc _ F => by rw [OpenClaim.pre_eq_preRow]; exact lifted os started H enc F)
theorem plain (f : FuncId) (fn : Func) (hf : Tryd.pinned.checked.prog.funcNamed "pileup/pileuplaw04.CopyingExact" = some f) (hfn : Tryd.pinned.checked.prog.funcs[f]? = some fn) :
    false = Tryd.pinned.checked.prog.looks [] ∧ ∀ (j : Nat) t, fn.params[j]? = some t → Tryd.pinned.checked.prog.wantsStandIn t = false := by
  obtain rfl : f = 9 := Option.some.inj ((show Tryd.prog.funcNamed "pileup/pileuplaw04.CopyingExact" = some 9 by kernel_rfl).symm.trans hf) |>.symm
  obtain rfl : fn = Tryd.f9 := (Option.some.inj (Tryd.func9.symm.trans hfn)).symm
  refine ⟨by kernel_rfl, fun j t ht => ?_⟩
  rw [Tryd.params9] at ht
  have ht : t = 57 ∨ t = 63 := by simpa using Array.mem_of_getElem? ht
  rcases ht with rfl | rfl
  · exact (show Tryd.prog.wantsStandIn 57 = false by kernel_rfl)
  · exact (show Tryd.prog.wantsStandIn 63 = false by kernel_rfl)
theorem card : Rows.CopyingExactCardSaid :=
  Claim7.holds_tied_plain_at .later [] _ _ _ _ said (fun _ h => by cases h) (by kernel_rfl) (fun _ h => by cases h) copyingExact_row_tie rfl ⟨rfl, rfl⟩ (by kernel_rfl) rfl plain (by kernel_rfl)
end LawExact
end Go.Proofs.YthodoabppkeidaaDoor
