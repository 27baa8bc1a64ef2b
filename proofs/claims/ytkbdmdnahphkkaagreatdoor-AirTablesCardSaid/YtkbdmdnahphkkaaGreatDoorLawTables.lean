/-
  The law AirTables returns true for every list of rows, every text and every day, and leaves its input as it was. Conditions: those of its given row and card, no other.
-/
import Derived.Test.YtkbdmdnahphkkaaGreatDoorRow
import Derived.Test.YtkbdmdnahphkkaaGreatDoorOpenRows
import Derived.Test.YtkbdmdnahphkkaaGreatDoorTabRefP
namespace Go.Proofs.YtkbdmdnahphkkaaGreatDoor
open Go.RowKit
open Go.ChangeShapes Go.WideShapes Go.ChangeAt Go.Deep
theorem pl3_agg (o : Option (Int × Int × Int)) : ∃ x y z : Int, pl3 o = .agg #[.int .i64 x, .int .i64 y, .int .i64 z] := by
  cases o with
  | none => exact ⟨0, 0, 0, rfl⟩
  | some p => exact ⟨p.1, p.2.1, p.2.2, rfl⟩
set_option maxRecDepth 4000 in
set_option maxHeartbeats 4000000 in
theorem law_tables (A : Option Addr) (n c : Nat) (l : List Rw) (call : Bytes) (d : Int) (w : World) (hm : HasMax w) (hl : RowsAt w A n l) (ht : TextsIn l) (hn : n ≤ c) (hc : c ≤ 9223372036854775807) (hs : call.length ≤ maxLen) :
    Calls Tryz.prog 3 #[.slice A n c, .string (B call), .int .i64 d] w fun e w' => e = .returned (.bool true) ∧ New w w' := by
  have HL := Lib.hid hl
  have hn9 : n ≤ 9223372036854775807 := by omega
  have sc := B_size call
  clear hl hn hc
  go_enter Tryz.func3, Tryz.ntmps3
  go_wp2_with fail
  refine (law_awake w hm).mono ?_
  rintro e w1 ⟨rfl, h1⟩
  have HN := Lib.hid h1
  replace hm := hm.keep h1
  clear h1
  by_cases g1 : 50 < n ∧ n ≤ 400
  · obtain ⟨g1, g2⟩ := g1
    have i1 : (50 : Int) < (n : Int) := by omega
    have i2 : (n : Int) ≤ 400 := by omega
    go_wp2_with fail
    go_ret
    exact ⟨rfl, HN.out⟩
  by_cases g2 : 500 < n
  · have i1 : (50 : Int) < (n : Int) := by omega
    have i2 : ¬ (n : Int) ≤ 400 := by omega
    have i3 : (500 : Int) < (n : Int) := by omega
    go_wp2_with fail
    go_ret
    exact ⟨rfl, HN.out⟩
  by_cases g3 : 1000 < call.length
  · have i5 : (1000 : Int) < (call.length : Int) := by omega
    by_cases g4 : 50 < n
    · have i1 : (50 : Int) < (n : Int) := by omega
      have i2 : ¬ (n : Int) ≤ 400 := by omega
      have i3 : ¬ (500 : Int) < (n : Int) := by omega
      go_wp2_with fail
      go_ret
      exact ⟨rfl, HN.out⟩
    · have i1 : ¬ (50 : Int) < (n : Int) := by omega
      have i3 : ¬ (500 : Int) < (n : Int) := by omega
      go_wp2_with fail
      go_ret
      exact ⟨rfl, HN.out⟩
  have hc5 : call.length ≤ 100000 := by omega
  have i3 : ¬ (500 : Int) < (n : Int) := by omega
  have i5 : ¬ (1000 : Int) < (call.length : Int) := by omega
  have i1 : ¬ ((50 : Int) < (n : Int) ∧ (n : Int) ≤ 400) := by omega
  have main : ∀ (i : Int), True := fun _ => trivial
  clear main
  rcases (show (¬ (50 : Int) < (n : Int)) ∨ ((50 : Int) < (n : Int) ∧ ¬ (n : Int) ≤ 400) by omega) with j1 | ⟨j1, j2⟩
  case' inl => go_wp2_with fail
  case' inr => go_wp2_with fail
  all_goals
    refine (air_Overlap A n c l w1 (HL.out.keep HN.out) hn9 ht).mono ?_
    rintro e w2 ⟨rfl, h2⟩
    replace HN := Lib.hid (HN.out.trans h2)
    replace hm := hm.keep h2
    clear h2
    unfold over3
    obtain ⟨o, ho⟩ : ∃ o, overV l = o := ⟨_, rfl⟩
    have HO : Hid (overV l = o) := Lib.hid ho
    rw [ho]
    clear ho
    go_wp2_with fail
    refine (ref_Overlap A n c l w2 (HL.out.keep HN.out) hn9 ht).mono ?_
    rintro e w3 ⟨rfl, h3⟩
    replace HN := Lib.hid (HN.out.trans h3)
    replace hm := hm.keep h3
    clear h3
    unfold over3
    rw [HO.out]
    go_wp2_with fail
    refine (air_RowOf A n c l call d w3 hm (HL.out.keep HN.out) hn9 ht hs).mono ?_
    rintro e w4 ⟨rfl, h4⟩
    replace HN := Lib.hid (HN.out.trans h4)
    replace hm := hm.keep h4
    clear h4
    obtain ⟨rr, hrr⟩ : ∃ rr, rowR l call d = rr := ⟨_, rfl⟩
    have HR : Hid (rowR l call d = rr) := Lib.hid hrr
    rw [hrr]
    clear hrr
    go_wp2_with fail
    refine (ref_RowOf A n c l call d w4 (HL.out.keep HN.out) hn9 ht hc5).mono ?_
    rintro e w5 ⟨rfl, h5⟩
    replace HN := Lib.hid (HN.out.trans h5)
    replace hm := hm.keep h5
    clear h5
    rw [HR.out]
    go_wp2_with fail
    refine (air_PlaceOf A n c l call d w5 hm (HL.out.keep HN.out) hn9 ht hs).mono ?_
    rintro e w6 ⟨rfl, h6⟩
    replace HN := Lib.hid (HN.out.trans h6)
    clear h6 hm
    obtain ⟨x, y, z, hp⟩ := pl3_agg (plR l call d).1
    obtain ⟨pe, hpe⟩ : ∃ pe, (plR l call d).2 = pe := ⟨_, rfl⟩
    have HP := Lib.hid hp
    have HE := Lib.hid hpe
    rw [hp, hpe]
    clear hp hpe
    have HA := Lib.hid ((New.refl w6).alloc (.cells #[.int .i64 x, .int .i64 y, .int .i64 z] 30))
    have HC := Lib.hid (pl_new w6 x y z)
    go_wp2_with fail
    refine (ref_PlaceOf A n c l call d _ (HL.out.keep (HN.out.trans HA.out)) hn9 ht hc5).mono ?_
    rintro e w7 ⟨rfl, h7⟩
    rw [HP.out, HE.out]
    have HB := Lib.hid ((New.refl w7).alloc (.cells #[.int .i64 x, .int .i64 y, .int .i64 z] 30))
    have HD := Lib.hid (pl_new w7 x y z)
    have HC2 := Lib.hid (heap_keep (h7.alloc (.cells #[.int .i64 x, .int .i64 y, .int .i64 z] 30)) HC.out)
    replace HN := Lib.hid (HN.out.trans (HA.out.trans (h7.alloc (.cells #[.int .i64 x, .int .i64 y, .int .i64 z] 30))))
    clear h7 HA HC HP HE HR HO
    go_wp2_with fail
    refine (air_ValidTable A n c l _ (HL.out.keep HN.out) hn9 ht).mono ?_
    rintro e w8 ⟨rfl, h8⟩
    go_wp2_with fail
    refine (ref_ValidTable A n c l w8 (HL.out.keep (HN.out.trans h8)) hn9 ht).mono ?_
    rintro e w9 ⟨rfl, h9⟩
    obtain ⟨c0, c1, c2, -, -, -⟩ := three_all (heap_keep (h8.trans h9) HC2.out)
    obtain ⟨e0, e1, e2, -, -, -⟩ := three_all (heap_keep (h8.trans h9) HD.out)
    replace HN := Lib.hid (HN.out.trans (h8.trans h9))
    clear h8 h9
    generalize tabB l = tb at *
    go_wp2_with fail
    go_ret
    exact ⟨rfl, HN.out⟩
theorem law_tables_at (A : Option Addr) (n c : Nat) (l : List Rw) (s : ByteArray) (d : Int) (w : World) (hm : HasMax w) (hl : RowsAt w A n l) (ht : TextsIn l) (hn : n ≤ c) (hc : c ≤ 9223372036854775807) (hs : s.size ≤ maxLen) :
    Calls Tryz.prog 3 #[.slice A n c, .string s, .int .i64 d] w fun e w' => e = .returned (.bool true) ∧ New w w' := by
  have h := law_tables A n c l (bs s) d w hm hl ht hn hc (by rw [bs_size]; exact hs)
  simpa only [B_bs] using h
namespace LawTables
theorem reads : ∀ t ∈ Tryz.f3.params.toList, Tryz.prog.readableRec t = true ∧ t < Tryz.prog.types.size := by
  rw [Tryz.params3]
  intro t ht
  have ht : t = 22 ∨ t = 9 ∨ t = 3 := by simpa using ht
  rcases ht with rfl | rfl | rfl
  · exact ⟨by kernel_rfl, of_decide_eq_true (by kernel_rfl)⟩
  · exact ⟨by kernel_rfl, of_decide_eq_true (by kernel_rfl)⟩
  · exact ⟨by kernel_rfl, of_decide_eq_true (by kernel_rfl)⟩
set_option maxRecDepth 100000 in
theorem contract (H : Type) (enc : TypeId × Value → H) (W : World) (base : Nat) (args : Array Value) (ds gs : List (DataW H)) (before : List MemPlace)
    (hval : ∀ (j : Nat) t v, Tryz.f3.params[j]? = some t → args[j]? = some v → Value.okWide Tryz.prog W .any base t v)
    (hW : DataW.Whole enc Tryz.prog Tryz.f3.params.toList Rows.airTablesSpec.vars false W args.toList ds gs before) (hS : W.ShapedOpen Tryz.prog) :
    Calls Tryz.prog 3 args W fun e W' => ∃ v, e = .returned v ∧ Rows.airTablesSpec.post enc Tryz.prog Tryz.f3 false true false false W args v W' := by
  have hW' := hW
  obtain ⟨p, q, hA0, hV, rfl, hfz, hnd⟩ := hW
  have hA : DataW.TrodAll enc Tryz.prog W 0 (fun _ => true) true Tryz.f3.params.toList args.toList ds p := hA0
  rw [Tryz.params3] at hA hval
  obtain ⟨v0, vs0, d0, ds0, p0, q0, hargs, rfl, rfl, h0, r0⟩ := trodAll_cons hA
  obtain ⟨v1, vs1, d1, ds1, p1, q1, rfl, rfl, rfl, h1, r1⟩ := trodAll_cons r0
  obtain ⟨v2, vs2, d2, ds2, p2, q2, rfl, rfl, rfl, h2, r2⟩ := trodAll_cons r1
  obtain ⟨rfl, rfl, rfl⟩ := trodAll_nil r2
  obtain rfl : args = #[v0, v1, v2] := by cases args; simp_all
  obtain ⟨rfl, rfl⟩ := trodVars_none hV
  have hv0 := hval 0 22 v0 rfl rfl
  have hv1 := hval 1 9 v1 rfl rfl
  have hv2 := hval 2 3 v2 rfl rfl
  clear hval
  obtain ⟨A0, n0, c0, rfl⟩ := okWide_slice Tryz.underlying22 hv0
  obtain ⟨l0, hl0, ht0, hn0, hc0⟩ := open_rows h0
  obtain ⟨a1, rfl, rfl, rfl, hb1⟩ := Go.ChangeMaps.open_string Tryz.underlying9 hv1 h1
  obtain ⟨a2, rfl, rfl, rfl, hw2⟩ := open_int Tryz.underlying3 hv2 h2
  refine (law_tables_at A0 n0 c0 l0 a1 a2 W (max_of_shaped hS) hl0 ht0 hn0 hc0 hb1).mono fun e W' ⟨he, hb⟩ => ?_
  subst he
  exact ⟨_, rfl, post_true hW' rfl (by kernel_rfl) ⟨rfl, rfl, rfl⟩ reads hb⟩
theorem laid_met (os : Os) : laidMet Tryz.prog Rows.airTablesRow.laid ((laidWorld os).forCall (fun _ _ => 0) ⟨#[], #[.slice none 0 0, .string ⟨#[]⟩, .int .i64 0], []⟩).memory :=
  laidMet_of_run' 8 (by kernel_rfl) (by kernel_rfl)
theorem reads_w (os : Os) {H : Type} (enc : TypeId × Value → H) : ∃ places, DataW.whole enc Tryz.prog ((laidWorld os).forCall (fun _ _ => 0) ⟨#[], #[.slice none 0 0, .string ⟨#[]⟩, .int .i64 0], []⟩).memory Tryz.f3.params.toList Rows.airTablesSpec.vars false #[Value.slice none 0 0, .string ⟨#[]⟩, .int .i64 0].toList 8 = some ([.nil, .lit (.string []), .lit (.int .i64 0)], [], places) :=
  ⟨[], by kernel_rfl⟩
set_option maxRecDepth 100000 in
theorem lifted (os : Os) (started : os.Started) (H : Type) (enc : TypeId × Value → H) (F : Stop.Interp) :
    ReturnsInHanded {} Tryz.checked os 3 .any ((OpenSpec.ofChange Rows.airTablesSpec).preRow enc Tryz.prog Tryz.f3 Rows.airTablesRow.domain false Rows.airTablesRow.laid) (((OpenSpec.ofChange Rows.airTablesSpec).at F).post enc Tryz.prog Tryz.f3 false true false false) := by
  obtain ⟨places, hx⟩ := reads_w os enc
  refine returnsInHanded_of_row (C := Tryz.checked) (s := OpenSpec.ofChange Rows.airTablesSpec) row_own started (by kernel_rfl) Tryz.func3
    (witness_row_at (enc := enc) (C := Tryz.checked) false (laidWorld os) #[.slice none 0 0, .string ⟨#[]⟩, .int .i64 0] rfl (by kernel_rfl) (by kernel_rfl) (by kernel_rfl)
      (OpenSpec.preRow_of_cond 8 hx (by kernel_rfl) (fun k hk => by cases hk) (by kernel_rfl) (laid_met os))) ?_
  intro W base args ds gs before hval hW _ _ _ _ hS _
  exact contract H enc W base args ds gs before hval hW hS
theorem said : Rows.AirTablesSaid :=
  OpenClaim.holds_of_cond 3 Tryz.f3 rfl rfl rfl rfl rfl rfl rfl ⟨rfl, rfl, rfl, rfl, rfl⟩ rfl rfl rfl rfl rfl (by kernel_rfl) Tryz.func3 (by kernel_rfl)
    (of_decide_eq_true (by kernel_rfl)) (by unfold Func.isWrapper; first | (rw [if_pos (by decide +kernel)]; kernel_rfl) | (rw [if_neg (by decide +kernel)]; exact ⟨rfl, rfl⟩))
    (fun os started H enc _ F => by rw [OpenClaim.pre_eq_preRow]; exact lifted os started H enc F)
theorem plain (f : FuncId) (fn : Func) (hf : Tryz.pinned.checked.prog.funcNamed "pileup/pileuplaw01.AirTables" = some f) (hfn : Tryz.pinned.checked.prog.funcs[f]? = some fn) :
    false = Tryz.pinned.checked.prog.looks [] ∧ ∀ (j : Nat) t, fn.params[j]? = some t → Tryz.pinned.checked.prog.wantsStandIn t = false := by
  obtain rfl : f = 3 := Option.some.inj ((show Tryz.prog.funcNamed "pileup/pileuplaw01.AirTables" = some 3 by kernel_rfl).symm.trans hf) |>.symm
  obtain rfl : fn = Tryz.f3 := (Option.some.inj (Tryz.func3.symm.trans hfn)).symm
  refine ⟨by kernel_rfl, fun j t ht => ?_⟩
  rw [Tryz.params3] at ht
  have ht : t = 22 ∨ t = 9 ∨ t = 3 := by simpa using Array.mem_of_getElem? ht
  rcases ht with rfl | rfl | rfl
  · exact (show Tryz.prog.wantsStandIn 22 = false by kernel_rfl)
  · exact (show Tryz.prog.wantsStandIn 9 = false by kernel_rfl)
  · exact (show Tryz.prog.wantsStandIn 3 = false by kernel_rfl)
theorem card : Rows.AirTablesCardSaid :=
  Claim7.holds_tied_plain_at .later [] _ _ _ _ said (fun _ h => by cases h) (by kernel_rfl) (fun _ h => by cases h) airTables_row_tie rfl ⟨rfl, rfl⟩ (by kernel_rfl) rfl plain (by kernel_rfl)
end LawTables

end Go.Proofs.YtkbdmdnahphkkaaGreatDoor
