/-
  CopyingWitness: alignments and tables prove the least cost. Condition: the tables lie in memory.
-/
import Derived.Test.YthodoabppkeidaaDoorCpOpen
namespace Go.Proofs.YthodoabppkeidaaDoor
open Go Go.RowKit
open Go.ChangeShapes Go.WideShapes Go.ChangeAt Go.Deep
/-- What the program's own table proves. -/
theorem says_own {F : List Bytes} {m : Md} {a b : List Nat} (la : a.length ≤ 64) (lb : b.length ≤ 64) {C E : Int} (h : TblSays (mdC F m) a b (tabI (mdC F m) a b) C E) : E = 0 ∧ C = (lc (mdC F m) a b : Nat) := by
  have hf : Fits a b (tabI (mdC F m) a b) := tabI_fits (fun i k => Nat.le_trans (lc_small (by rw [List.length_take]; omega) (by rw [List.length_take]; omega)) (by decide))
  rcases h with ⟨h1, h2, _⟩ | ⟨_, _, h3⟩
  · exact ⟨h1, by rw [h2, tabI_end]⟩
  · exact absurd ⟨hf, tabI_zero, tabI_prv⟩ h3
/-- What a table of anyone proves. -/
theorem says_any {c : Cs Nat} {a b : List Nat} {rs : List (List Int)} {C E : Int} (h : TblSays c a b rs C E) : E ≠ 0 ∨ (E = 0 ∧ C ≤ (lc c a b : Nat)) := by
  rcases h with ⟨h1, h2, _, h4, h5⟩ | ⟨h1, _, _⟩
  · exact .inr ⟨h1, by rw [h2]; exact prv_least h5 h4⟩
  · exact .inl (by omega)
set_option maxRecDepth 100000 in
set_option maxHeartbeats 4000000 in
theorem law_witness (F : List Bytes) (mode A B0 most : Int) (s t : Bytes) (C : ByteArray) (A7 A8 A9 A10 A11 : Option Addr) (n7 n10 n11 c7 c8 c9 c10 c11 : Nat) (rs : List (List Int)) (l : List StI) (w : World) (hT : TabAt w F) (hp : HasPow w)
    (h8 : TblAt w (.slice A8 rs.length c8) rs) (h9 : StiAt w (.slice A9 l.length c9) l) :
    Calls Tryd.prog 6 #[.agg #[.int .i64 mode, .string (B s), .string (B t), .string C, .int .i64 A, .int .i64 B0, .int .i64 most, .slice A7 n7 c7, .slice A8 rs.length c8, .slice A9 l.length c9, .slice A10 n10 c10, .slice A11 n11 c11]] w fun e w' => e = .returned (.bool true) ∧ New w w' := by
  have HA : Hid (∀ w', New w w' → Calls Tryd.prog 11 #[] w' fun e w'' => e = .returned (.bool true) ∧ New w' w'') := Lib.hid (fun w' hn => law_awake F w' (hT.keep hn) (hp.keep hn))
  have HB := Lib.hid law_brief
  have HT := Lib.hid hT
  have H8 := Lib.hid h8
  have H9 := Lib.hid h9
  clear hT hp h8 h9
  generalize hcs : [Value.int .i64 mode, .string (B s), .string (B t), .string C, .int .i64 A, .int .i64 B0, .int .i64 most, .slice A7 n7 c7, .slice A8 rs.length c8, .slice A9 l.length c9, .slice A10 n10 c10, .slice A11 n11 c11] = cs
  have hk := (New.refl w).alloc (.cells cs.toArray 27)
  have hr := RowIs.new w 27 cs
  subst hcs
  have HK := Lib.hid hk
  have HR := Lib.hid hr
  clear hk hr
  go_enter Tryd.func6, Tryd.ntmps6
  go_wp2_with fail
  refine (HA.out _ HK.out).mono ?_
  rintro e w1 ⟨rfl, n1⟩
  have N1 := Lib.hid (HK.out.trans n1)
  have R1 := Lib.hid (HR.out.keep n1)
  clear n1 HA HK HR
  have q1 := R1.out.cell (i := 1) rfl
  have q2 := R1.out.cell (i := 2) rfl
  have q8 := R1.out.cell (i := 8) rfl
  have q9 := R1.out.cell (i := 9) rfl
  have B1 := Lib.hid (HB.out (B s) w1)
  have B2 := Lib.hid (HB.out (B t) w1)
  by_cases h1 : (B s).size ≤ 200
  · rw [decide_eq_true h1] at B1
    by_cases h2 : (B t).size ≤ 200
    · rw [decide_eq_true h2] at B2
      have ls : s.length ≤ 1000000 := by rw [B_size] at h1; omega
      have lt : t.length ≤ 1000000 := by rw [B_size] at h2; omega
      clear h1 h2
      by_cases h3 : l.length ≤ 200
      · by_cases h4 : rs.length ≤ 100
        · have i3 : ¬ ((200 : Int) < (l.length : Int)) := by omega
          have i4 : ¬ ((100 : Int) < (rs.length : Int)) := by omega
          have q0 := R1.out.cell (i := 0) rfl
          go_wp2_with fail
          refine B1.out.mono ?_
          rintro e w' ⟨rfl, rfl⟩
          go_wp2_with fail
          refine B2.out.mono ?_
          rintro e w' ⟨rfl, rfl⟩
          go_wp2_with fail
          refine (cp_Cost F mode s t w1 (HT.out.keep N1.out) ls lt).mono ?_
          rintro e w2 ⟨rfl, n2⟩
          have N2 := Lib.hid (N1.out.trans n2)
          have R2 := Lib.hid (R1.out.keep n2)
          clear n2 q0 q1 q2 q8 q9
          have q0 := R2.out.cell (i := 0) rfl
          have q1 := R2.out.cell (i := 1) rfl
          have q2 := R2.out.cell (i := 2) rfl
          go_wp2_with fail
          refine (cp_Align F mode s t w2 (HT.out.keep N2.out) ls lt).mono ?_
          rintro e w3 ⟨va, rfl, sa, n3⟩
          obtain ⟨AA, CA, rfl⟩ := owns_form sa
          have SA := Lib.hid sa
          have N3 := Lib.hid (N2.out.trans n3)
          have R3 := Lib.hid (R2.out.keep n3)
          clear n3 sa q0 q1 q2
          have q0 := R3.out.cell (i := 0) rfl
          have q1 := R3.out.cell (i := 1) rfl
          have q2 := R3.out.cell (i := 2) rfl
          go_wp2_with fail
          refine (cp_Table F mode s t w3 (HT.out.keep N3.out) ls lt).mono ?_
          rintro e w4 ⟨vt, rfl, st, n4⟩
          obtain ⟨AT, CT, rfl, -, -⟩ := st.form
          have ST := Lib.hid st
          have SA4 := Lib.hid (SA.out.keep n4)
          have N4 := Lib.hid (N3.out.trans n4)
          have R4 := Lib.hid (R3.out.keep n4)
          clear n4 st q0 q1 q2 SA
          by_cases he : hearE mode s t = 0
          · obtain ⟨m, a, b, hm, ha, hb, l64, t64⟩ := hearE_ok he
            have eA : alC F mode s t = alL (mdC F m) a b := by rw [alC, if_pos he, hm, ha, hb]
            have eT : tbC F mode s t = tabI (mdC F m) a b := by rw [tbC, if_pos he, hm, ha, hb]
            have eC := costC_ok (F := F) he hm ha hb
            have la : a.length ≤ 64 := by rw [keysOf_len ha]; exact l64
            have lb : b.length ≤ 64 := by rw [keysOf_len hb]; exact t64
            rw [he, eC]
            rw [eA] at SA4 ⊢
            rw [eT] at ST ⊢
            have HCA : Hid (∀ (l' : List StI) v w', StiAt w' v l' → New w w' → Calls Tryd.prog 26 #[.int .i64 mode, .string (B s), .string (B t), v] w' fun e w'' => e = .returned (ckvV (ckG (mdC F m) a b (0, 0) 0 l')) ∧ New w' w'') :=
              Lib.hid (fun l' v w' hv hn => cp_CheckAlign_ok F m mode s t l' v w' (HT.out.keep hn) hv hm ha hb l64 t64)
            have HCT : Hid (∀ (rs' : List (List Int)) v w', TblAt w' v rs' → New w w' → Calls Tryd.prog 27 #[.int .i64 mode, .string (B s), .string (B t), v] w' fun e w'' => ∃ C E, e = .returned (.tuple #[.int .i64 C, .int .i64 E]) ∧ (TblSays (mdC F m) a b rs' C E ∧ New w' w'')) :=
              Lib.hid (fun rs' v w' hv hn => cp_CheckTable_ok F m mode s t rs' v w' (HT.out.keep hn) hv hm ha hb l64 t64)
            have HLE : Hid (∀ k, ckG (mdC F m) a b (0, 0) 0 l = some k → lc (mdC F m) a b ≤ k) := Lib.hid (fun k hk => ckG_least hk)
            have HSA : Hid (∀ C E : Int, TblSays (mdC F m) a b (tabI (mdC F m) a b) C E → E = 0 ∧ C = (lc (mdC F m) a b : Nat)) := Lib.hid (fun C E h => says_own la lb h)
            have HSB : Hid (∀ C E : Int, TblSays (mdC F m) a b rs C E → E ≠ 0 ∨ (E = 0 ∧ C ≤ (lc (mdC F m) a b : Nat))) := Lib.hid (fun C E h => says_any h)
            have HC1 : Hid (Calls Tryd.prog 26 #[.int .i64 mode, .string (B s), .string (B t), .slice AA (alL (mdC F m) a b).length CA] w4 fun e w'' => e = .returned (.tuple #[.int .i64 (lc (mdC F m) a b : Nat), .int .i64 0]) ∧ New w4 w'') := Lib.hid (by
              have h := HCA.out _ _ w4 SA4.out.sti N4.out
              rw [ckG_own] at h
              exact h)
            have hlc : lc (mdC F m) a b ≤ 1000 := lc_small la lb
            clear he hm ha hb l64 t64 eA eT eC la lb
            have HC2 : Hid (∀ w', New w w' → Calls Tryd.prog 26 #[.int .i64 mode, .string (B s), .string (B t), .slice A9 l.length c9] w' fun e w'' => e = .returned (ckvV (ckG (mdC F m) a b (0, 0) 0 l)) ∧ New w' w'') := Lib.hid (fun w' hn => HCA.out l _ w' (H9.out.keep hn) hn)
            clear HCA
            have q0 := R4.out.cell (i := 0) rfl
            have q1 := R4.out.cell (i := 1) rfl
            have q2 := R4.out.cell (i := 2) rfl
            generalize lc (mdC F m) a b = LC at *
            cases hKO : ckG (mdC F m) a b (0, 0) 0 l with
            | none =>
              rw [hKO] at HC2
              unfold ckvV at HC2
              dsimp only at HC2
              clear HLE hKO
              go_wp2_with fail
              refine HC1.out.mono ?_
              rintro e w5 ⟨rfl, n5⟩
              have N5 := Lib.hid (N4.out.trans n5)
              have R5 := Lib.hid (R4.out.keep n5)
              have ST5 := Lib.hid (ST.out.keep n5)
              clear n5 q0 q1 q2
              have q0 := R5.out.cell (i := 0) rfl
              have q1 := R5.out.cell (i := 1) rfl
              have q2 := R5.out.cell (i := 2) rfl
              go_wp2_with fail
              refine (HCT.out _ _ w5 ST5.out N5.out).mono ?_
              rintro e w6 ⟨C1, E1, rfl, hs1, n6⟩
              obtain ⟨rfl, rfl⟩ := HSA.out _ _ hs1
              have N6 := Lib.hid (N5.out.trans n6)
              have R6 := Lib.hid (R5.out.keep n6)
              clear n6 hs1 q0 q1 q2
              have q0 := R6.out.cell (i := 0) rfl
              have q1 := R6.out.cell (i := 1) rfl
              have q2 := R6.out.cell (i := 2) rfl
              have q9 := R6.out.cell (i := 9) rfl
              go_wp2_with fail
              refine (HC2.out w6 N6.out).mono ?_
              rintro e w7 ⟨rfl, n7⟩
              have N7 := Lib.hid (N6.out.trans n7)
              have R7 := Lib.hid (R6.out.keep n7)
              clear n7 q0 q1 q2 q9
              have q0 := R7.out.cell (i := 0) rfl
              have q1 := R7.out.cell (i := 1) rfl
              have q2 := R7.out.cell (i := 2) rfl
              have q8 := R7.out.cell (i := 8) rfl
              go_wp2_with fail
              refine (HCT.out _ _ w7 (H8.out.keep N7.out) N7.out).mono ?_
              rintro e w8 ⟨C2, E2, rfl, hs2, n8⟩
              have N8 := Lib.hid (N7.out.trans n8)
              clear n8 q0 q1 q2 q8
              rcases HSB.out _ _ hs2 with hE | ⟨rfl, hC⟩
              · have hE2 : (E2 != 0) = true := by rw [bne_iff_ne]; exact hE
                clear hs2 hE
                go_wp2_with fail
                all_goals
                  go_ret
                  exact ⟨by first | rfl | (simp; done) | (simp; omega), N8.out⟩
              · clear hs2
                go_wp2_with fail
                all_goals
                  go_ret
                  exact ⟨by first | rfl | (simp; done) | (simp; omega), N8.out⟩
            | some k =>
              have hk := HLE.out k hKO
              have hk2 : (LC : Int) ≤ (k : Int) := by omega
              rw [hKO] at HC2
              unfold ckvV at HC2
              dsimp only at HC2
              clear HLE hKO hk
              go_wp2_with fail
              refine HC1.out.mono ?_
              rintro e w5 ⟨rfl, n5⟩
              have N5 := Lib.hid (N4.out.trans n5)
              have R5 := Lib.hid (R4.out.keep n5)
              have ST5 := Lib.hid (ST.out.keep n5)
              clear n5 q0 q1 q2
              have q0 := R5.out.cell (i := 0) rfl
              have q1 := R5.out.cell (i := 1) rfl
              have q2 := R5.out.cell (i := 2) rfl
              go_wp2_with fail
              refine (HCT.out _ _ w5 ST5.out N5.out).mono ?_
              rintro e w6 ⟨C1, E1, rfl, hs1, n6⟩
              obtain ⟨rfl, rfl⟩ := HSA.out _ _ hs1
              have N6 := Lib.hid (N5.out.trans n6)
              have R6 := Lib.hid (R5.out.keep n6)
              clear n6 hs1 q0 q1 q2
              have q0 := R6.out.cell (i := 0) rfl
              have q1 := R6.out.cell (i := 1) rfl
              have q2 := R6.out.cell (i := 2) rfl
              have q9 := R6.out.cell (i := 9) rfl
              go_wp2_with fail
              refine (HC2.out w6 N6.out).mono ?_
              rintro e w7 ⟨rfl, n7⟩
              have N7 := Lib.hid (N6.out.trans n7)
              have R7 := Lib.hid (R6.out.keep n7)
              clear n7 q0 q1 q2 q9
              have q0 := R7.out.cell (i := 0) rfl
              have q1 := R7.out.cell (i := 1) rfl
              have q2 := R7.out.cell (i := 2) rfl
              have q8 := R7.out.cell (i := 8) rfl
              go_wp2_with fail
              refine (HCT.out _ _ w7 (H8.out.keep N7.out) N7.out).mono ?_
              rintro e w8 ⟨C2, E2, rfl, hs2, n8⟩
              have N8 := Lib.hid (N7.out.trans n8)
              clear n8 q0 q1 q2 q8
              rcases HSB.out _ _ hs2 with hE | ⟨rfl, hC⟩
              · have hE2 : (E2 != 0) = true := by rw [bne_iff_ne]; exact hE
                clear hs2 hE
                go_wp2_with fail
                all_goals
                  go_ret
                  exact ⟨by first | rfl | (simp; done) | (simp; omega), N8.out⟩
              · clear hs2
                go_wp2_with fail
                all_goals
                  go_ret
                  exact ⟨by first | rfl | (simp; done) | (simp; omega), N8.out⟩
          · have he2 : (hearE mode s t != 0) = true := by rw [bne_iff_ne]; exact he
            have eA : alC F mode s t = [] := if_neg he
            have eT : tbC F mode s t = [] := if_neg he
            rw [eA, eT]
            clear SA4 ST eA eT he
            generalize costC F mode s t = CC at *
            generalize hearE mode s t = E at *
            go_wp2_with fail
            go_ret
            exact ⟨by first | rfl | (simp; done) | (simp; omega), N4.out⟩
        · have i3 : ¬ ((200 : Int) < (l.length : Int)) := by omega
          have i4 : ((100 : Int) < (rs.length : Int)) := by omega
          go_wp2_with fail
          refine B1.out.mono ?_
          rintro e w' ⟨rfl, rfl⟩
          go_wp2_with fail
          refine B2.out.mono ?_
          rintro e w' ⟨rfl, rfl⟩
          go_wp2_with fail
          go_ret
          exact ⟨rfl, N1.out⟩
      · have i3 : ((200 : Int) < (l.length : Int)) := by omega
        go_wp2_with fail
        refine B1.out.mono ?_
        rintro e w' ⟨rfl, rfl⟩
        go_wp2_with fail
        refine B2.out.mono ?_
        rintro e w' ⟨rfl, rfl⟩
        go_wp2_with fail
        go_ret
        exact ⟨rfl, N1.out⟩
    · rw [decide_eq_false h2] at B2
      go_wp2_with fail
      refine B1.out.mono ?_
      rintro e w' ⟨rfl, rfl⟩
      go_wp2_with fail
      refine B2.out.mono ?_
      rintro e w' ⟨rfl, rfl⟩
      go_wp2_with fail
      go_ret
      exact ⟨rfl, N1.out⟩
  · rw [decide_eq_false h1] at B1
    go_wp2_with fail
    refine B1.out.mono ?_
    rintro e w' ⟨rfl, rfl⟩
    go_wp2_with fail
    go_ret
    exact ⟨rfl, N1.out⟩
set_option maxRecDepth 100000 in
theorem law_witness_at (F : List Bytes) (mode a b most : Int) (X Y C : ByteArray) (v7 v8 v9 v10 v11 : Value) (w : World) (hT : TabAt w F) (hp : HasPow w) (h7 : ∃ A n c, v7 = .slice A n c) (h8 : ∃ rs, TblAt w v8 rs) (h9 : ∃ l, StiAt w v9 l) (h10 : ∃ l, IntsAt w v10 l) (h11 : ∃ l, IntsAt w v11 l) :
    Calls Tryd.prog 6 #[.agg #[.int .i64 mode, .string X, .string Y, .string C, .int .i64 a, .int .i64 b, .int .i64 most, v7, v8, v9, v10, v11]] w fun e w' => e = .returned (.bool true) ∧ New w w' := by
  obtain ⟨A7, n7, c7, rfl⟩ := h7
  obtain ⟨rs, h8⟩ := h8
  obtain ⟨A8, c8, rfl, _⟩ := h8.form
  obtain ⟨l, h9⟩ := h9
  obtain ⟨A9, c9, rfl, _⟩ := h9.form
  obtain ⟨l10, h10⟩ := h10
  obtain ⟨A10, c10, rfl, _⟩ := h10.form
  obtain ⟨l11, h11⟩ := h11
  obtain ⟨A11, c11, rfl, _⟩ := h11.form
  have h := law_witness F mode a b most (bs X) (bs Y) C A7 A8 A9 A10 A11 n7 l10.length l11.length c7 c8 c9 c10 c11 rs l w hT hp h8 h9
  rw [B_bs, B_bs] at h
  exact h
namespace LawWitness
theorem reads : ∀ t ∈ Tryd.f6.params.toList, Tryd.prog.readableRec t = true ∧ t < Tryd.prog.types.size := by
  rw [Tryd.params6]
  intro t ht
  have ht : t = 27 := by simpa using ht
  subst ht
  · exact ⟨by kernel_rfl, of_decide_eq_true (by kernel_rfl)⟩
set_option maxRecDepth 100000 in
theorem contract (H : Type) (enc : TypeId × Value → H) (W : World) (base : Nat) (args : Array Value) (ds gs : List (DataW H)) (before : List MemPlace)
    (hval : ∀ (j : Nat) t v, Tryd.f6.params[j]? = some t → args[j]? = some v → Value.okWide Tryd.prog W .any base t v)
    (hW : DataW.Whole enc Tryd.prog Tryd.f6.params.toList Rows.copyingWitnessSpec.vars false W args.toList ds gs before) (hS : W.ShapedOpen Tryd.prog) (hlaid : laidMetH Tryd.prog Rows.copyingWitnessRow.laid W) :
    Calls Tryd.prog 6 args W fun e W' => ∃ v, e = .returned v ∧ Rows.copyingWitnessSpec.post enc Tryd.prog Tryd.f6 false true false false W args v W' := by
  have hW' := hW
  obtain ⟨p, q, hA0, hV, rfl, hfz, hnd⟩ := hW
  have hA : DataW.TrodAll enc Tryd.prog W 0 (fun _ => true) true Tryd.f6.params.toList args.toList ds p := hA0
  rw [Tryd.params6] at hA hval
  obtain ⟨v0, vs0, d0, ds0, p0, q0, hargs, rfl, rfl, h0, r0⟩ := trodAll_cons hA
  obtain ⟨rfl, rfl, rfl⟩ := trodAll_nil r0
  obtain rfl : args = #[v0] := by cases args; simp_all
  obtain ⟨rfl, rfl⟩ := trodVars_none hV
  have hv0 := hval 0 27 v0 rfl rfl
  clear hval
  obtain ⟨m0, x0, y0, c0, i0, j0, k0, t0, tb0, st0, nu0, ch0, rfl, ha0⟩ := open_ask hv0 h0
  have hpow : HasPow W := pow_of_laid hlaid
  obtain ⟨Fm, htab⟩ := tab_of_row hS hlaid
  obtain ⟨_, _, hTB⟩ := ha0.2.1.2
  obtain ⟨_, _, hST⟩ := ha0.2.2.1.2
  refine (law_witness_at Fm m0 i0 j0 k0 x0 y0 c0 t0 tb0 st0 nu0 ch0 W htab hpow ha0.1 (open_tbl ha0.2.1.1 hTB) (open_stis ha0.2.2.1.1 hST) ha0.2.2.2.1 ha0.2.2.2.2).mono fun e W' ⟨he, hb⟩ => ?_
  subst he
  exact ⟨_, rfl, post_true hW' rfl (by kernel_rfl) ⟨rfl, rfl, rfl⟩ reads hb⟩
theorem laid_met (os : Os) : laidMet Tryd.prog Rows.copyingWitnessRow.laid ((laidWorld os).forCall (fun _ _ => 0) ⟨#[], #[.agg #[.int .i64 0, .string ⟨#[]⟩, .string ⟨#[]⟩, .string ⟨#[]⟩, .int .i64 0, .int .i64 0, .int .i64 0, .slice none 0 0, .slice none 0 0, .slice none 0 0, .slice none 0 0, .slice none 0 0]], []⟩).memory :=
  laidMet_of_run' 8 (by kernel_rfl) (by kernel_rfl)
theorem reads_w (os : Os) {H : Type} (enc : TypeId × Value → H) : ∃ places, DataW.whole enc Tryd.prog ((laidWorld os).forCall (fun _ _ => 0) ⟨#[], #[.agg #[.int .i64 0, .string ⟨#[]⟩, .string ⟨#[]⟩, .string ⟨#[]⟩, .int .i64 0, .int .i64 0, .int .i64 0, .slice none 0 0, .slice none 0 0, .slice none 0 0, .slice none 0 0, .slice none 0 0]], []⟩).memory Tryd.f6.params.toList Rows.copyingWitnessSpec.vars false #[Value.agg #[.int .i64 0, .string ⟨#[]⟩, .string ⟨#[]⟩, .string ⟨#[]⟩, .int .i64 0, .int .i64 0, .int .i64 0, .slice none 0 0, .slice none 0 0, .slice none 0 0, .slice none 0 0, .slice none 0 0]].toList 8 = some ([.agg [.lit (.int .i64 0), .lit (.string []), .lit (.string []), .lit (.string []), .lit (.int .i64 0), .lit (.int .i64 0), .lit (.int .i64 0), .nil, .nil, .nil, .nil, .nil]], [], places) :=
  ⟨[], by kernel_rfl⟩
set_option maxRecDepth 100000 in
theorem lifted (os : Os) (started : os.Started) (H : Type) (enc : TypeId × Value → H) (F : Stop.Interp) :
    ReturnsInHanded {} Tryd.checked os 6 .any ((OpenSpec.ofChange Rows.copyingWitnessSpec).preRow enc Tryd.prog Tryd.f6 Rows.copyingWitnessRow.domain false Rows.copyingWitnessRow.laid) (((OpenSpec.ofChange Rows.copyingWitnessSpec).at F).post enc Tryd.prog Tryd.f6 false true false false) := by
  obtain ⟨places, hx⟩ := reads_w os enc
  refine returnsInHanded_of_row (C := Tryd.checked) (s := OpenSpec.ofChange Rows.copyingWitnessSpec) row_own started (by kernel_rfl) Tryd.func6
    (witness_row_at (enc := enc) (C := Tryd.checked) false (laidWorld os) #[.agg #[.int .i64 0, .string ⟨#[]⟩, .string ⟨#[]⟩, .string ⟨#[]⟩, .int .i64 0, .int .i64 0, .int .i64 0, .slice none 0 0, .slice none 0 0, .slice none 0 0, .slice none 0 0, .slice none 0 0]] rfl (by kernel_rfl) (by kernel_rfl) (by kernel_rfl)
      (OpenSpec.preRow_of_cond 8 hx (by kernel_rfl) (fun k hk => by cases hk) (by kernel_rfl) (laid_met os))) ?_
  intro W base args ds gs before hval hW _ _ _ hlaid hS _
  exact contract H enc W base args ds gs before hval hW hS hlaid
theorem said : Rows.CopyingWitnessSaid :=
  OpenClaim.holds_of_cond 6 Tryd.f6 rfl rfl rfl rfl rfl rfl rfl ⟨rfl, rfl, rfl, rfl, rfl⟩ rfl rfl rfl rfl rfl (by kernel_rfl) Tryd.func6 (by kernel_rfl)
    (of_decide_eq_true (by kernel_rfl)) (by unfold Func.isWrapper; first | (rw [if_pos (by decide +kernel)]; kernel_rfl) | (rw [if_neg (by decide +kernel)]; exact ⟨rfl, rfl⟩))
    (fun os started H enc _ F => by rw [OpenClaim.pre_eq_preRow]; exact lifted os started H enc F)
theorem plain (f : FuncId) (fn : Func) (hf : Tryd.pinned.checked.prog.funcNamed "pileup/pileuplaw04.CopyingWitness" = some f) (hfn : Tryd.pinned.checked.prog.funcs[f]? = some fn) :
    false = Tryd.pinned.checked.prog.looks [] ∧ ∀ (j : Nat) t, fn.params[j]? = some t → Tryd.pinned.checked.prog.wantsStandIn t = false := by
  obtain rfl : f = 6 := Option.some.inj ((show Tryd.prog.funcNamed "pileup/pileuplaw04.CopyingWitness" = some 6 by kernel_rfl).symm.trans hf) |>.symm
  obtain rfl : fn = Tryd.f6 := (Option.some.inj (Tryd.func6.symm.trans hfn)).symm
  refine ⟨by kernel_rfl, fun j t ht => ?_⟩
  rw [Tryd.params6] at ht
  have ht : t = 27 := by simpa using Array.mem_of_getElem? ht
  subst ht
  · exact (show Tryd.prog.wantsStandIn 27 = false by kernel_rfl)
theorem card : Rows.CopyingWitnessCardSaid :=
  Claim7.holds_tied_plain_at .later [] _ _ _ _ said (fun _ h => by cases h) (by kernel_rfl) (fun _ h => by cases h) copyingWitness_row_tie rfl ⟨rfl, rfl⟩ (by kernel_rfl) rfl plain (by kernel_rfl)
end LawWitness
end Go.Proofs.YthodoabppkeidaaDoor
