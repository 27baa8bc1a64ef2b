/-
  The law AirDays returns true for every list of rows, every text, every country and every day, and leaves its input as it was. Conditions: those of its given row and card, no other.
-/
import Derived.Test.YtkbdmdnahphkkaaGreatDoorRow
import Derived.Test.YtkbdmdnahphkkaaGreatDoorOpenRows
import Derived.Test.YtkbdmdnahphkkaaGreatDoorTabRefS
import Derived.Test.YtkbdmdnahphkkaaGreatDoorDayRef
namespace Go.Proofs.YtkbdmdnahphkkaaGreatDoor
open Go.RowKit
open Go.ChangeShapes Go.WideShapes Go.ChangeAt Go.Deep
theorem since_same {l : List Rw} {call : Bytes} {d lo hi er lo' hi' er' : Int} (h1 : sinceP l call d lo hi er) (h2 : sinceP l call d lo' hi' er') : lo' = lo ∧ hi' = hi ∧ er' = er := by
  rcases h1 with ⟨a, b, rfl, rfl⟩ | ⟨rfl, q, p, hx, hq, hr, hsp⟩
  · rcases h2 with ⟨_, b2, rfl, rfl⟩ | ⟨rfl, q2, p2, hx2, hq2, hr2, _⟩
    · exact ⟨rfl, rfl, b2.symm.trans b⟩
    · rw [plR_some hx2 hq2 hr2] at b
      exact (a b.symm).elim
  · rcases h2 with ⟨a2, b2, _⟩ | ⟨rfl, q2, p2, hx2, hq2, hr2, hsp2⟩
    · rw [plR_some hx hq hr] at b2
      exact (a2 b2.symm).elim
    · rw [hq] at hq2
      cases hq2
      rw [hr] at hr2
      cases hr2
      obtain ⟨a, b⟩ := span_one hsp hsp2 hsp.le1 hsp.le2
      exact ⟨a.symm, b.symm, rfl⟩
theorem texts_len (l : List Rw) (cy d : Int) : (textsV l cy d).length ≤ 100000 := by
  unfold textsV
  split
  · rename_i h
    rw [sortT_len]
    have h1 := tell_len l cy d
    have : l.length ≤ 400 := by
      by_cases ht : tabB l = true
      · exact rowsB_len (tabB_out ht).1
      · rw [texts_tab (by simpa using ht)] at h
        cases h
    omega
  · exact Nat.zero_le _
set_option maxRecDepth 4000 in
set_option maxHeartbeats 4000000 in
theorem law_days (A : Option Addr) (n c : Nat) (l : List Rw) (call : Bytes) (cy d : Int) (w : World) (hm : HasMax w) (hl : RowsAt w A n l) (ht : TextsIn l) (hn : n ≤ c) (hc : c ≤ 9223372036854775807) (hs : call.length ≤ maxLen) :
    Calls Tryz.prog 4 #[.slice A n c, .string (B call), .int .i64 cy, .int .i64 d] w fun e w' => e = .returned (.bool true) ∧ New w w' := by
  have HL := Lib.hid hl
  have hn9 : n ≤ 9223372036854775807 := by omega
  have sc := B_size call
  clear hl hn hc
  go_enter Tryz.func4, Tryz.ntmps4
  go_wp2_with fail
  refine (law_awake w hm).mono ?_
  rintro e w1 ⟨rfl, h1⟩
  have HN := Lib.hid h1
  replace hm := hm.keep h1
  clear h1
  by_cases g1 : 50 < n ∧ n ≤ 400
  · obtain ⟨g1, g2⟩ := g1
    have i1 : (50 : Int) < (n : Int) := by omega
    have i2 : (n : Int) ≤ 400 := by omega
    go_wp2_with fail
    go_ret
    exact ⟨rfl, HN.out⟩
  by_cases g2 : 500 < n
  · have i1 : (50 : Int) < (n : Int) := by omega
    have i2 : ¬ (n : Int) ≤ 400 := by omega
    have i3 : (500 : Int) < (n : Int) := by omega
    go_wp2_with fail
    go_ret
    exact ⟨rfl, HN.out⟩
  by_cases g3 : 1000 < call.length
  · have i5 : (1000 : Int) < (call.length : Int) := by omega
    by_cases g4 : 50 < n
    · have i1 : (50 : Int) < (n : Int) := by omega
      have i2 : ¬ (n : Int) ≤ 400 := by omega
      have i3 : ¬ (500 : Int) < (n : Int) := by omega
      go_wp2_with fail
      go_ret
      exact ⟨rfl, HN.out⟩
    · have i1 : ¬ (50 : Int) < (n : Int) := by omega
      have i3 : ¬ (500 : Int) < (n : Int) := by omega
      go_wp2_with fail
      go_ret
      exact ⟨rfl, HN.out⟩
  have hc5 : call.length ≤ 100000 := by omega
  have i3 : ¬ (500 : Int) < (n : Int) := by omega
  have i5 : ¬ (1000 : Int) < (call.length : Int) := by omega
  have i1 : ¬ ((50 : Int) < (n : Int) ∧ (n : Int) ≤ 400) := by omega
  have main : ∀ (i : Int), True := fun _ => trivial
  clear main
  rcases (show (¬ (50 : Int) < (n : Int)) ∨ ((50 : Int) < (n : Int) ∧ ¬ (n : Int) ≤ 400) by omega) with j1 | ⟨j1, j2⟩
  case' inl => go_wp2_with fail
  case' inr => go_wp2_with fail
  all_goals
    refine (air_Since A n c l call d w1 hm (HL.out.keep HN.out) hn9 ht hs).mono ?_
    rintro e w2 ⟨lo, hi, er, rfl, h2, hsp⟩
    have HSP := Lib.hid hsp
    have HK2 := Lib.hid ((New.refl w2).alloc (.cells #[.int .i64 lo, .int .i64 hi] 36))
    have HN2 := Lib.hid ((HN.out.trans h2).trans HK2.out)
    have HS2 := Lib.hid (sp_new w2 lo hi)
    clear h2 hsp HN hm
    go_wp2_with fail
    generalize hW : w2.alloc (.cells #[.int .i64 lo, .int .i64 hi] 36) = W2 at *
    clear hW
    generalize w2.heap.size = g2 at *
    refine (ref_Since A n c l call d W2 (HL.out.keep HN2.out) hn9 ht hc5).mono ?_
    rintro e w3 ⟨lo', hi', er', rfl, h3, hsp⟩
    obtain ⟨rfl, rfl, rfl⟩ := since_same HSP.out hsp
    have HK3 := Lib.hid (h3.alloc (.cells #[.int .i64 lo', .int .i64 hi'] 36))
    have HN3 := Lib.hid (HN2.out.trans HK3.out)
    have HS3 := Lib.hid (sp_new w3 lo' hi')
    have HS23 := Lib.hid (heap_keep HK3.out HS2.out)
    clear h3 hsp HSP HS2 HK2
    go_wp2_with fail
    generalize hW : w3.alloc (.cells #[.int .i64 lo', .int .i64 hi'] 36) = W3 at *
    clear hW
    generalize w3.heap.size = g3 at *
    refine (air_Texts A n c l cy d W3 (HL.out.keep HN3.out) hn9 ht).mono ?_
    rintro e w4 ⟨v, rfl, hv⟩
    have HV := Lib.hid hv
    obtain ⟨te, hte⟩ : ∃ x, textsE l cy d = x := ⟨_, rfl⟩
    have HTE := Lib.hid hte
    rw [hte]
    clear hv hte
    go_wp2_with fail
    refine (ref_Texts A n c l cy d w4 (HL.out.keep (HN3.out.trans HV.out.2)) hn9 ht).mono ?_
    rintro e w5 ⟨u, rfl, hu⟩
    have HU := Lib.hid hu
    rw [HTE.out]
    have HV5 := Lib.hid (HV.out.keep hu.2)
    have HN5 := Lib.hid (HN3.out.trans (HV.out.2.trans hu.2))
    obtain ⟨s0, s1, -, -⟩ := two_all (heap_keep (HV.out.2.trans hu.2) HS3.out)
    obtain ⟨t0, t1, -, -⟩ := two_all (heap_keep (HV.out.2.trans hu.2) HS23.out)
    clear hu HV
    go_wp2_with fail
    refine (ref_SameTexts W3 w4 (textsV l cy d) v u w5 HV5.out HU.out (texts_len l cy d)).mono ?_
    rintro e w6 ⟨rfl, h6⟩
    go_wp2_with fail
    go_ret
    exact ⟨rfl, HN5.out.trans h6⟩
theorem law_days_at (A : Option Addr) (n c : Nat) (l : List Rw) (s : ByteArray) (cy d : Int) (w : World) (hm : HasMax w) (hl : RowsAt w A n l) (ht : TextsIn l) (hn : n ≤ c) (hc : c ≤ 9223372036854775807) (hs : s.size ≤ maxLen) :
    Calls Tryz.prog 4 #[.slice A n c, .string s, .int .i64 cy, .int .i64 d] w fun e w' => e = .returned (.bool true) ∧ New w w' := by
  have h := law_days A n c l (bs s) cy d w hm hl ht hn hc (by rw [bs_size]; exact hs)
  simpa only [B_bs] using h
namespace LawDays
theorem reads : ∀ t ∈ Tryz.f4.params.toList, Tryz.prog.readableRec t = true ∧ t < Tryz.prog.types.size := by
  rw [Tryz.params4]
  intro t ht
  have ht : t = 22 ∨ t = 9 ∨ t = 3 := by simpa using ht
  rcases ht with rfl | rfl | rfl
  · exact ⟨by kernel_rfl, of_decide_eq_true (by kernel_rfl)⟩
  · exact ⟨by kernel_rfl, of_decide_eq_true (by kernel_rfl)⟩
  · exact ⟨by kernel_rfl, of_decide_eq_true (by kernel_rfl)⟩
set_option maxRecDepth 100000 in
theorem contract (H : Type) (enc : TypeId × Value → H) (W : World) (base : Nat) (args : Array Value) (ds gs : List (DataW H)) (before : List MemPlace)
    (hval : ∀ (j : Nat) t v, Tryz.f4.params[j]? = some t → args[j]? = some v → Value.okWide Tryz.prog W .any base t v)
    (hW : DataW.Whole enc Tryz.prog Tryz.f4.params.toList Rows.airDaysSpec.vars false W args.toList ds gs before) (hS : W.ShapedOpen Tryz.prog) :
    Calls Tryz.prog 4 args W fun e W' => ∃ v, e = .returned v ∧ Rows.airDaysSpec.post enc Tryz.prog Tryz.f4 false true false false W args v W' := by
  have hW' := hW
  obtain ⟨p, q, hA0, hV, rfl, hfz, hnd⟩ := hW
  have hA : DataW.TrodAll enc Tryz.prog W 0 (fun _ => true) true Tryz.f4.params.toList args.toList ds p := hA0
  rw [Tryz.params4] at hA hval
  obtain ⟨v0, vs0, d0, ds0, p0, q0, hargs, rfl, rfl, h0, r0⟩ := trodAll_cons hA
  obtain ⟨v1, vs1, d1, ds1, p1, q1, rfl, rfl, rfl, h1, r1⟩ := trodAll_cons r0
  obtain ⟨v2, vs2, d2, ds2, p2, q2, rfl, rfl, rfl, h2, r2⟩ := trodAll_cons r1
  obtain ⟨v3, vs3, d3, ds3, p3, q3, rfl, rfl, rfl, h3, r3⟩ := trodAll_cons r2
  obtain ⟨rfl, rfl, rfl⟩ := trodAll_nil r3
  obtain rfl : args = #[v0, v1, v2, v3] := by cases args; simp_all
  obtain ⟨rfl, rfl⟩ := trodVars_none hV
  have hv0 := hval 0 22 v0 rfl rfl
  have hv1 := hval 1 9 v1 rfl rfl
  have hv2 := hval 2 3 v2 rfl rfl
  have hv3 := hval 3 3 v3 rfl rfl
  clear hval
  obtain ⟨A0, n0, c0, rfl⟩ := okWide_slice Tryz.underlying22 hv0
  obtain ⟨l0, hl0, ht0, hn0, hc0⟩ := open_rows h0
  obtain ⟨a1, rfl, rfl, rfl, hb1⟩ := Go.ChangeMaps.open_string Tryz.underlying9 hv1 h1
  obtain ⟨a2, rfl, rfl, rfl, hw2⟩ := open_int Tryz.underlying3 hv2 h2
  obtain ⟨a3, rfl, rfl, rfl, hw3⟩ := open_int Tryz.underlying3 hv3 h3
  refine (law_days_at A0 n0 c0 l0 a1 a2 a3 W (max_of_shaped hS) hl0 ht0 hn0 hc0 hb1).mono fun e W' ⟨he, hb⟩ => ?_
  subst he
  exact ⟨_, rfl, post_true hW' rfl (by kernel_rfl) ⟨rfl, rfl, rfl⟩ reads hb⟩
theorem laid_met (os : Os) : laidMet Tryz.prog Rows.airDaysRow.laid ((laidWorld os).forCall (fun _ _ => 0) ⟨#[], #[.slice none 0 0, .string ⟨#[]⟩, .int .i64 0, .int .i64 0], []⟩).memory :=
  laidMet_of_run' 8 (by kernel_rfl) (by kernel_rfl)
theorem reads_w (os : Os) {H : Type} (enc : TypeId × Value → H) : ∃ places, DataW.whole enc Tryz.prog ((laidWorld os).forCall (fun _ _ => 0) ⟨#[], #[.slice none 0 0, .string ⟨#[]⟩, .int .i64 0, .int .i64 0], []⟩).memory Tryz.f4.params.toList Rows.airDaysSpec.vars false #[Value.slice none 0 0, .string ⟨#[]⟩, .int .i64 0, .int .i64 0].toList 8 = some ([.nil, .lit (.string []), .lit (.int .i64 0), .lit (.int .i64 0)], [], places) :=
  ⟨[], by kernel_rfl⟩
set_option maxRecDepth 100000 in
theorem lifted (os : Os) (started : os.Started) (H : Type) (enc : TypeId × Value → H) (F : Stop.Interp) :
    ReturnsInHanded {} Tryz.checked os 4 .any ((OpenSpec.ofChange Rows.airDaysSpec).preRow enc Tryz.prog Tryz.f4 Rows.airDaysRow.domain false Rows.airDaysRow.laid) (((OpenSpec.ofChange Rows.airDaysSpec).at F).post enc Tryz.prog Tryz.f4 false true false false) := by
  obtain ⟨places, hx⟩ := reads_w os enc
  refine returnsInHanded_of_row (C := Tryz.checked) (s := OpenSpec.ofChange Rows.airDaysSpec) row_own started (by kernel_rfl) Tryz.func4
    (witness_row_at (enc := enc) (C := Tryz.checked) false (laidWorld os) #[.slice none 0 0, .string ⟨#[]⟩, .int .i64 0, .int .i64 0] rfl (by kernel_rfl) (by kernel_rfl) (by kernel_rfl)
      (OpenSpec.preRow_of_cond 8 hx (by kernel_rfl) (fun k hk => by cases hk) (by kernel_rfl) (laid_met os))) ?_
  intro W base args ds gs before hval hW _ _ _ _ hS _
  exact contract H enc W base args ds gs before hval hW hS
theorem said : Rows.AirDaysSaid :=
  OpenClaim.holds_of_cond 4 Tryz.f4 rfl rfl rfl rfl rfl rfl rfl ⟨rfl, rfl, rfl, rfl, rfl⟩ rfl rfl rfl rfl rfl (by kernel_rfl) Tryz.func4 (by kernel_rfl)
    (of_decide_eq_true (by kernel_rfl)) (by unfold Func.isWrapper; first | (rw [if_pos (by decide +kernel)]; kernel_rfl) | (rw [if_neg (by decide +kernel)]; exact ⟨rfl, rfl⟩))
    (fun os started H enc _ F => by rw [OpenClaim.pre_eq_preRow]; exact lifted os started H enc F)
theorem plain (f : FuncId) (fn : Func) (hf : Tryz.pinned.checked.prog.funcNamed "pileup/pileuplaw01.AirDays" = some f) (hfn : Tryz.pinned.checked.prog.funcs[f]? = some fn) :
    false = Tryz.pinned.checked.prog.looks [] ∧ ∀ (j : Nat) t, fn.params[j]? = some t → Tryz.pinned.checked.prog.wantsStandIn t = false := by
  obtain rfl : f = 4 := Option.some.inj ((show Tryz.prog.funcNamed "pileup/pileuplaw01.AirDays" = some 4 by kernel_rfl).symm.trans hf) |>.symm
  obtain rfl : fn = Tryz.f4 := (Option.some.inj (Tryz.func4.symm.trans hfn)).symm
  refine ⟨by kernel_rfl, fun j t ht => ?_⟩
  rw [Tryz.params4] at ht
  have ht : t = 22 ∨ t = 9 ∨ t = 3 := by simpa using Array.mem_of_getElem? ht
  rcases ht with rfl | rfl | rfl
  · exact (show Tryz.prog.wantsStandIn 22 = false by kernel_rfl)
  · exact (show Tryz.prog.wantsStandIn 9 = false by kernel_rfl)
  · exact (show Tryz.prog.wantsStandIn 3 = false by kernel_rfl)
theorem card : Rows.AirDaysCardSaid :=
  Claim7.holds_tied_plain_at .later [] _ _ _ _ said (fun _ h => by cases h) (by kernel_rfl) (fun _ h => by cases h) airDays_row_tie rfl ⟨rfl, rfl⟩ (by kernel_rfl) rfl plain (by kernel_rfl)
end LawDays

end Go.Proofs.YtkbdmdnahphkkaaGreatDoor
