/-
  CopyingChars: codes, families, and the costs of swaps, misses and extras are as specified. Condition: the tables lie in memory as the program's text lays them.
-/
import Derived.Test.YthodoabppkeidaaGreatDoorCpSwap
import Derived.Test.YthodoabppkeidaaGreatDoorCpAsk
namespace Go.Proofs.YthodoabppkeidaaGreatDoor
open Go Go.RowKit
open Go.ChangeShapes Go.WideShapes Go.ChangeAt Go.Deep
set_option maxRecDepth 100000 in
set_option maxHeartbeats 4000000 in
theorem law_chars (mode a b most : Int) (x y c : Bytes) (A7 A8 A9 A10 A11 : Option Addr) (n7 n8 n9 n10 n11 c7 c8 c9 c10 c11 : Nat) (w : World) (hT : TabAt w famsL) (hp : HasPow w) :
    Calls Tryz.prog 3 #[.agg #[.int .i64 mode, .string (B x), .string (B y), .string (B c), .int .i64 a, .int .i64 b, .int .i64 most, .slice A7 n7 c7, .slice A8 n8 c8, .slice A9 n9 c9, .slice A10 n10 c10, .slice A11 n11 c11]] w fun e w' => e = .returned (.bool true) ∧ New w w' := by
  have HA : Hid (∀ w', New w w' → Calls Tryz.prog 10 #[] w' fun e w'' => e = .returned (.bool true) ∧ New w' w'') := Lib.hid (fun w' hn => law_awake famsL w' (hT.keep hn) (hp.keep hn))
  have HB := Lib.hid law_brief
  have HT := Lib.hid hT
  clear hT hp
  generalize hcs : [Value.int .i64 mode, .string (B x), .string (B y), .string (B c), .int .i64 a, .int .i64 b, .int .i64 most, .slice A7 n7 c7, .slice A8 n8 c8, .slice A9 n9 c9, .slice A10 n10 c10, .slice A11 n11 c11] = cs
  have hk := (New.refl w).alloc (.cells cs.toArray 27)
  have hr := RowIs.new w 27 cs
  subst hcs
  have HK := Lib.hid hk
  have HR := Lib.hid hr
  clear hk hr
  go_enter Tryz.func3, Tryz.ntmps3
  go_wp2_with fail
  refine (HA.out _ HK.out).mono ?_
  rintro e w0 ⟨rfl, n1⟩
  have N0 := Lib.hid (HK.out.trans n1)
  have R0 := Lib.hid (HR.out.keep n1)
  clear n1 HA HK HR
  have q1 := R0.out.cell (i := 1) rfl
  have q2 := R0.out.cell (i := 2) rfl
  have q3 := R0.out.cell (i := 3) rfl
  have B1 := Lib.hid (HB.out (B x) w0)
  have B2 := Lib.hid (HB.out (B y) w0)
  have B3 := Lib.hid (HB.out (B c) w0)
  by_cases h1 : (B x).size ≤ 200
  · rw [decide_eq_true h1] at B1
    by_cases h2 : (B y).size ≤ 200
    · rw [decide_eq_true h2] at B2
      by_cases h3 : (B c).size ≤ 200
      · rw [decide_eq_true h3] at B3
        have lx : x.length ≤ 1000000 := by rw [B_size] at h1; omega
        have ly : y.length ≤ 1000000 := by rw [B_size] at h2; omega
        have lc0 : c.length ≤ 1000000 := by rw [B_size] at h3; omega
        have hT := HT.out
        have K0 : Hid (∀ w', New w w' → Calls Tryz.prog 12 #[.string (B x)] w' fun e w'' => e = .returned (.tuple #[.string (cdS x), .int .i64 (cdE x)]) ∧ New w' w'') := Lib.hid (fun w' hn => (cp_Code famsL x w' (hT.keep hn) lx).mono (fun e w'' ⟨h1, h2⟩ => ⟨h1.trans (congrArg Ending.returned (code_parts x)), h2 ▸ New.refl _⟩))
        have K1 : Hid (∀ w', New w w' → Calls Tryz.prog 13 #[.string (B x)] w' fun e w'' => e = .returned (.tuple #[.string (cdS x), .int .i64 (cdE x)]) ∧ New w' w'') := Lib.hid (fun w' hn => (ref_Code x w' lx).mono (fun e w'' ⟨h1, h2⟩ => ⟨h1.trans (congrArg Ending.returned (code_parts x)), h2⟩))
        have K2 : Hid (∀ w', New w w' → Calls Tryz.prog 14 #[.string (B c)] w' fun e w'' => e = .returned (.tuple #[.string (chS c), .int .i64 (chE c)]) ∧ New w' w'') := Lib.hid (fun w' hn => by have h := cp_Char famsL c w' (hT.keep hn) lc0; rw [char_parts] at h; exact h)
        have K3 : Hid (∀ w', New w w' → Calls Tryz.prog 15 #[.string (B c)] w' fun e w'' => e = .returned (.tuple #[.string (chS c), .int .i64 (chE c)]) ∧ New w' w'') := Lib.hid (fun w' hn => by have h := ref_Char c w'; rw [char_parts] at h; exact h)
        have K4 : Hid (∀ w', New w w' → Calls Tryz.prog 16 #[.string (B x)] w' fun e w'' => e = .returned (.tuple #[.int .i64 (fmN x), .int .i64 (cdE x)]) ∧ New w' w'') := Lib.hid (fun w' hn => (cp_Family famsL x w' (hT.keep hn) lx).mono (fun e w'' ⟨h1, h2⟩ => ⟨h1.trans (congrArg Ending.returned (fam_parts x)), h2 ▸ New.refl _⟩))
        have K5 : Hid (∀ w', New w w' → Calls Tryz.prog 17 #[.string (B x)] w' fun e w'' => e = .returned (.tuple #[.int .i64 (fmN x), .int .i64 (cdE x)]) ∧ New w' w'') := Lib.hid (fun w' hn => (ref_Family x w' lx).mono (fun e w'' ⟨h1, h2⟩ => ⟨h1.trans (congrArg Ending.returned (fam_parts x)), h2⟩))
        have K6 : Hid (∀ w', New w w' → Calls Tryz.prog 18 #[.int .i64 mode, .string (B x), .string (B y)] w' fun e w'' => e = .returned (.tuple #[.int .i64 (swN mode x y), .int .i64 (swE mode x y)]) ∧ New w' w'') := Lib.hid (fun w' hn => cp_Swap mode x y w' (hT.keep hn) lx ly)
        have K7 : Hid (∀ w', New w w' → Calls Tryz.prog 19 #[.int .i64 mode, .string (B x), .string (B y)] w' fun e w'' => e = .returned (.tuple #[.int .i64 (swN mode x y), .int .i64 (swE mode x y)]) ∧ New w' w'') := Lib.hid (fun w' hn => ref_Swap mode x y w' lx ly)
        have K8 : Hid (∀ w', New w w' → Calls Tryz.prog 20 #[.int .i64 mode] w' fun e w'' => e = .returned (.tuple #[.int .i64 (msN mode), .int .i64 (msE mode)]) ∧ New w' w'') := Lib.hid (fun w' hn => cp_Miss mode w')
        have K9 : Hid (∀ w', New w w' → Calls Tryz.prog 21 #[.int .i64 mode] w' fun e w'' => e = .returned (.tuple #[.int .i64 (msN mode), .int .i64 (msE mode)]) ∧ New w' w'') := Lib.hid (fun w' hn => (ref_Miss mode w').mono (fun e w'' ⟨h1, h2⟩ => ⟨h1, h2 ▸ New.refl _⟩))
        have K10 : Hid (∀ w', New w w' → Calls Tryz.prog 22 #[.int .i64 mode] w' fun e w'' => e = .returned (.tuple #[.int .i64 (xtN mode), .int .i64 (msE mode)]) ∧ New w' w'') := Lib.hid (fun w' hn => cp_Extra mode w')
        have K11 : Hid (∀ w', New w w' → Calls Tryz.prog 23 #[.int .i64 mode] w' fun e w'' => e = .returned (.tuple #[.int .i64 (xtN mode), .int .i64 (msE mode)]) ∧ New w' w'') := Lib.hid (fun w' hn => (ref_Extra mode w').mono (fun e w'' ⟨h1, h2⟩ => ⟨h1, h2 ▸ New.refl _⟩))
        clear hT lx ly lc0 h1 h2 h3 HB
        generalize cdS x = v1 at *
        generalize cdE x = v2 at *
        generalize chS c = v3 at *
        generalize chE c = v4 at *
        generalize fmN x = v5 at *
        generalize swN mode x y = v6 at *
        generalize swE mode x y = v7 at *
        generalize msN mode = v8 at *
        generalize msE mode = v9 at *
        generalize xtN mode = v10 at *
        go_wp2_with fail
        refine B1.out.mono ?_
        rintro e w' ⟨rfl, rfl⟩
        go_wp2_with fail
        refine B2.out.mono ?_
        rintro e w' ⟨rfl, rfl⟩
        go_wp2_with fail
        refine B3.out.mono ?_
        rintro e w' ⟨rfl, rfl⟩
        clear q1 q2 q3
        have q1 := R0.out.cell (i := 1) rfl
        go_wp2_with fail
        refine (K0.out _ N0.out).mono ?_
        rintro e w1 ⟨rfl, n1⟩
        have N1 := Lib.hid (N0.out.trans n1)
        have R1 := Lib.hid (R0.out.keep n1)
        clear n1 K0 R0 q1
        have q1 := R1.out.cell (i := 1) rfl
        go_wp2_with fail
        refine (K1.out _ N1.out).mono ?_
        rintro e w2 ⟨rfl, n1⟩
        have N2 := Lib.hid (N1.out.trans n1)
        have R2 := Lib.hid (R1.out.keep n1)
        clear n1 K1 R1 q1
        have q3 := R2.out.cell (i := 3) rfl
        go_wp2_with fail
        refine (K2.out _ N2.out).mono ?_
        rintro e w3 ⟨rfl, n1⟩
        have N3 := Lib.hid (N2.out.trans n1)
        have R3 := Lib.hid (R2.out.keep n1)
        clear n1 K2 R2 q3
        have q3 := R3.out.cell (i := 3) rfl
        go_wp2_with fail
        refine (K3.out _ N3.out).mono ?_
        rintro e w4 ⟨rfl, n1⟩
        have N4 := Lib.hid (N3.out.trans n1)
        have R4 := Lib.hid (R3.out.keep n1)
        clear n1 K3 R3 q3
        have q1 := R4.out.cell (i := 1) rfl
        go_wp2_with fail
        refine (K4.out _ N4.out).mono ?_
        rintro e w5 ⟨rfl, n1⟩
        have N5 := Lib.hid (N4.out.trans n1)
        have R5 := Lib.hid (R4.out.keep n1)
        clear n1 K4 R4 q1
        have q1 := R5.out.cell (i := 1) rfl
        go_wp2_with fail
        refine (K5.out _ N5.out).mono ?_
        rintro e w6 ⟨rfl, n1⟩
        have N6 := Lib.hid (N5.out.trans n1)
        have R6 := Lib.hid (R5.out.keep n1)
        clear n1 K5 R5 q1
        have q0 := R6.out.cell (i := 0) rfl
        have q1 := R6.out.cell (i := 1) rfl
        have q2 := R6.out.cell (i := 2) rfl
        go_wp2_with fail
        refine (K6.out _ N6.out).mono ?_
        rintro e w7 ⟨rfl, n1⟩
        have N7 := Lib.hid (N6.out.trans n1)
        have R7 := Lib.hid (R6.out.keep n1)
        clear n1 K6 R6 q0 q1 q2
        have q0 := R7.out.cell (i := 0) rfl
        have q1 := R7.out.cell (i := 1) rfl
        have q2 := R7.out.cell (i := 2) rfl
        go_wp2_with fail
        refine (K7.out _ N7.out).mono ?_
        rintro e w8 ⟨rfl, n1⟩
        have N8 := Lib.hid (N7.out.trans n1)
        have R8 := Lib.hid (R7.out.keep n1)
        clear n1 K7 R7 q0 q1 q2
        have q0 := R8.out.cell (i := 0) rfl
        go_wp2_with fail
        refine (K8.out _ N8.out).mono ?_
        rintro e w9 ⟨rfl, n1⟩
        have N9 := Lib.hid (N8.out.trans n1)
        have R9 := Lib.hid (R8.out.keep n1)
        clear n1 K8 R8 q0
        have q0 := R9.out.cell (i := 0) rfl
        go_wp2_with fail
        refine (K9.out _ N9.out).mono ?_
        rintro e w10 ⟨rfl, n1⟩
        have N10 := Lib.hid (N9.out.trans n1)
        have R10 := Lib.hid (R9.out.keep n1)
        clear n1 K9 R9 q0
        have q0 := R10.out.cell (i := 0) rfl
        go_wp2_with fail
        refine (K10.out _ N10.out).mono ?_
        rintro e w11 ⟨rfl, n1⟩
        have N11 := Lib.hid (N10.out.trans n1)
        have R11 := Lib.hid (R10.out.keep n1)
        clear n1 K10 R10 q0
        have q0 := R11.out.cell (i := 0) rfl
        go_wp2_with fail
        refine (K11.out _ N11.out).mono ?_
        rintro e w12 ⟨rfl, n1⟩
        have N12 := Lib.hid (N11.out.trans n1)
        have R12 := Lib.hid (R11.out.keep n1)
        clear n1 K11 R11 q0
        go_wp2_with fail
        all_goals
          go_ret
          exact ⟨by first | rfl | (simp; done), N12.out⟩
      · rw [decide_eq_false h3] at B3
        go_wp2_with fail
        refine B1.out.mono ?_
        rintro e w' ⟨rfl, rfl⟩
        go_wp2_with fail
        refine B2.out.mono ?_
        rintro e w' ⟨rfl, rfl⟩
        go_wp2_with fail
        refine B3.out.mono ?_
        rintro e w' ⟨rfl, rfl⟩
        go_wp2_with fail
        go_ret
        exact ⟨rfl, N0.out⟩
    · rw [decide_eq_false h2] at B2
      go_wp2_with fail
      refine B1.out.mono ?_
      rintro e w' ⟨rfl, rfl⟩
      go_wp2_with fail
      refine B2.out.mono ?_
      rintro e w' ⟨rfl, rfl⟩
      go_wp2_with fail
      go_ret
      exact ⟨rfl, N0.out⟩
  · rw [decide_eq_false h1] at B1
    go_wp2_with fail
    refine B1.out.mono ?_
    rintro e w' ⟨rfl, rfl⟩
    go_wp2_with fail
    go_ret
    exact ⟨rfl, N0.out⟩
set_option maxRecDepth 100000 in
theorem law_chars_at (mode a b most : Int) (X Y C : ByteArray) (v7 v8 v9 v10 v11 : Value) (w : World) (hT : TabAt w famsL) (hp : HasPow w) (h7 : ∃ A n c, v7 = .slice A n c) (h8 : Cell.okWide Tryz.prog w .any 0 23 v8) (h9 : Cell.okWide Tryz.prog w .any 0 24 v9) (h10 : ∃ l, IntsAt w v10 l) (h11 : ∃ l, IntsAt w v11 l) :
    Calls Tryz.prog 3 #[.agg #[.int .i64 mode, .string X, .string Y, .string C, .int .i64 a, .int .i64 b, .int .i64 most, v7, v8, v9, v10, v11]] w fun e w' => e = .returned (.bool true) ∧ New w w' := by
  obtain ⟨A7, n7, c7, rfl⟩ := h7
  obtain ⟨A8, n8, c8, rfl⟩ := slice_of_ok Tryz.underlying23 h8
  obtain ⟨A9, n9, c9, rfl⟩ := slice_of_ok Tryz.underlying24 h9
  obtain ⟨l10, h10⟩ := h10
  obtain ⟨A10, c10, rfl, _⟩ := h10.form
  obtain ⟨l11, h11⟩ := h11
  obtain ⟨A11, c11, rfl, _⟩ := h11.form
  have h := law_chars mode a b most (bs X) (bs Y) (bs C) A7 A8 A9 A10 A11 n7 n8 n9 l10.length l11.length c7 c8 c9 c10 c11 w hT hp
  rw [B_bs, B_bs, B_bs] at h
  exact h
namespace LawChars
theorem reads : ∀ t ∈ Tryz.f3.params.toList, Tryz.prog.readableRec t = true ∧ t < Tryz.prog.types.size := by
  rw [Tryz.params3]
  intro t ht
  have ht : t = 27 := by simpa using ht
  subst ht
  · exact ⟨by kernel_rfl, of_decide_eq_true (by kernel_rfl)⟩
set_option maxRecDepth 100000 in
theorem contract (H : Type) (enc : TypeId × Value → H) (W : World) (base : Nat) (args : Array Value) (ds gs : List (DataW H)) (before : List MemPlace)
    (hval : ∀ (j : Nat) t v, Tryz.f3.params[j]? = some t → args[j]? = some v → Value.okWide Tryz.prog W .any base t v)
    (hW : DataW.Whole enc Tryz.prog Tryz.f3.params.toList Rows.copyingCharsSpec.vars false W args.toList ds gs before) (hS : W.ShapedOpen Tryz.prog) (hlaid : laidMetH Tryz.prog Rows.copyingCharsRow.laid W) :
    Calls Tryz.prog 3 args W fun e W' => ∃ v, e = .returned v ∧ Rows.copyingCharsSpec.post enc Tryz.prog Tryz.f3 false true false false W args v W' := by
  have hW' := hW
  obtain ⟨p, q, hA0, hV, rfl, hfz, hnd⟩ := hW
  have hA : DataW.TrodAll enc Tryz.prog W 0 (fun _ => true) true Tryz.f3.params.toList args.toList ds p := hA0
  rw [Tryz.params3] at hA hval
  obtain ⟨v0, vs0, d0, ds0, p0, q0, hargs, rfl, rfl, h0, r0⟩ := trodAll_cons hA
  obtain ⟨rfl, rfl, rfl⟩ := trodAll_nil r0
  obtain rfl : args = #[v0] := by cases args; simp_all
  obtain ⟨rfl, rfl⟩ := trodVars_none hV
  have hv0 := hval 0 27 v0 rfl rfl
  clear hval
  obtain ⟨m0, x0, y0, c0, i0, j0, k0, t0, tb0, st0, nu0, ch0, rfl, ha0⟩ := open_ask hv0 h0
  have hpow : HasPow W := pow_of_laid hlaid
  have htab := tab_codes hS hlaid
  refine (law_chars_at m0 i0 j0 k0 x0 y0 c0 t0 tb0 st0 nu0 ch0 W htab hpow ha0.1 ha0.2.1.1 ha0.2.2.1.1 ha0.2.2.2.1 ha0.2.2.2.2).mono fun e W' ⟨he, hb⟩ => ?_
  subst he
  exact ⟨_, rfl, post_true hW' rfl (by kernel_rfl) ⟨rfl, rfl, rfl⟩ reads hb⟩
theorem laid_met (os : Os) : laidMet Tryz.prog Rows.copyingCharsRow.laid ((laidWorldF os).forCall (fun _ _ => 0) ⟨#[], #[.agg #[.int .i64 0, .string ⟨#[]⟩, .string ⟨#[]⟩, .string ⟨#[]⟩, .int .i64 0, .int .i64 0, .int .i64 0, .slice none 0 0, .slice none 0 0, .slice none 0 0, .slice none 0 0, .slice none 0 0]], []⟩).memory :=
  laidMet_of_run' 8 (by kernel_rfl) (by kernel_rfl)
theorem reads_w (os : Os) {H : Type} (enc : TypeId × Value → H) : ∃ places, DataW.whole enc Tryz.prog ((laidWorldF os).forCall (fun _ _ => 0) ⟨#[], #[.agg #[.int .i64 0, .string ⟨#[]⟩, .string ⟨#[]⟩, .string ⟨#[]⟩, .int .i64 0, .int .i64 0, .int .i64 0, .slice none 0 0, .slice none 0 0, .slice none 0 0, .slice none 0 0, .slice none 0 0]], []⟩).memory Tryz.f3.params.toList Rows.copyingCharsSpec.vars false #[Value.agg #[.int .i64 0, .string ⟨#[]⟩, .string ⟨#[]⟩, .string ⟨#[]⟩, .int .i64 0, .int .i64 0, .int .i64 0, .slice none 0 0, .slice none 0 0, .slice none 0 0, .slice none 0 0, .slice none 0 0]].toList 8 = some ([.agg [.lit (.int .i64 0), .lit (.string []), .lit (.string []), .lit (.string []), .lit (.int .i64 0), .lit (.int .i64 0), .lit (.int .i64 0), .nil, .nil, .nil, .nil, .nil]], [], places) :=
  ⟨[], by kernel_rfl⟩
set_option maxRecDepth 100000 in
theorem lifted (os : Os) (started : os.Started) (H : Type) (enc : TypeId × Value → H) (F : Stop.Interp) :
    ReturnsInHanded {} Tryz.checked os 3 .any ((OpenSpec.ofChange Rows.copyingCharsSpec).preRow enc Tryz.prog Tryz.f3 Rows.copyingCharsRow.domain false Rows.copyingCharsRow.laid) (((OpenSpec.ofChange Rows.copyingCharsSpec).at F).post enc Tryz.prog Tryz.f3 false true false false) := by
  obtain ⟨places, hx⟩ := reads_w os enc
  refine returnsInHanded_of_row (C := Tryz.checked) (s := OpenSpec.ofChange Rows.copyingCharsSpec) row_own started (by kernel_rfl) Tryz.func3
    (witness_row_at (enc := enc) (C := Tryz.checked) false (laidWorldF os) #[.agg #[.int .i64 0, .string ⟨#[]⟩, .string ⟨#[]⟩, .string ⟨#[]⟩, .int .i64 0, .int .i64 0, .int .i64 0, .slice none 0 0, .slice none 0 0, .slice none 0 0, .slice none 0 0, .slice none 0 0]] rfl (by kernel_rfl) (by kernel_rfl) (by kernel_rfl)
      (OpenSpec.preRow_of_cond 8 hx (by kernel_rfl) (fun k hk => by cases hk) (by kernel_rfl) (laid_met os))) ?_
  intro W base args ds gs before hval hW _ _ _ hlaid hS _
  exact contract H enc W base args ds gs before hval hW hS hlaid
theorem said : Rows.CopyingCharsSaid :=
  OpenClaim.holds_of_cond 3 Tryz.f3 rfl rfl rfl rfl rfl rfl rfl ⟨rfl, rfl, rfl, rfl, rfl⟩ rfl rfl rfl rfl rfl (by kernel_rfl) Tryz.func3 (by kernel_rfl)
    (of_decide_eq_true (by kernel_rfl)) (by unfold Func.isWrapper; first | (rw [if_pos (by decide +kernel)]; kernel_rfl) | (rw [if_neg (by decide +kernel)]; exact ⟨rfl, rfl⟩))
    (fun os started H enc _ F => by rw [OpenClaim.pre_eq_preRow]; exact lifted os started H enc F)
theorem plain (f : FuncId) (fn : Func) (hf : Tryz.pinned.checked.prog.funcNamed "pileup/pileuplaw04.CopyingChars" = some f) (hfn : Tryz.pinned.checked.prog.funcs[f]? = some fn) :
    false = Tryz.pinned.checked.prog.looks [] ∧ ∀ (j : Nat) t, fn.params[j]? = some t → Tryz.pinned.checked.prog.wantsStandIn t = false := by
  obtain rfl : f = 3 := Option.some.inj ((show Tryz.prog.funcNamed "pileup/pileuplaw04.CopyingChars" = some 3 by kernel_rfl).symm.trans hf) |>.symm
  obtain rfl : fn = Tryz.f3 := (Option.some.inj (Tryz.func3.symm.trans hfn)).symm
  refine ⟨by kernel_rfl, fun j t ht => ?_⟩
  rw [Tryz.params3] at ht
  have ht : t = 27 := by simpa using Array.mem_of_getElem? ht
  subst ht
  · exact (show Tryz.prog.wantsStandIn 27 = false by kernel_rfl)
theorem card : Rows.CopyingCharsCardSaid :=
  Claim7.holds_tied_plain_at .later [] _ _ _ _ said (fun _ h => by cases h) (by kernel_rfl) (fun _ h => by cases h) copyingChars_row_tie rfl ⟨rfl, rfl⟩ (by kernel_rfl) rfl plain (by kernel_rfl)
end LawChars
end Go.Proofs.YthodoabppkeidaaGreatDoor
