/-
  The law AirExchanges returns true for all layouts, exchanges and texts. Conditions: those of its given row and card, no other.
-/
import Derived.Test.YtcaljokcgfkppaaDoorRowX
import Derived.Test.YtcaljokcgfkppaaDoorAirPX
import Derived.ChangeMaps5
import Derived.Lib.SmallJoins
import Derived.SizedLaws
import Derived.Deep.RegionHeld3
namespace Go.Proofs.YtcaljokcgfkppaaDoor
open Go.RowKit
open Go.ChangeShapes Go.WideShapes Go.ChangeAt Go.Deep
theorem exO_agg (o : Option (Int × Int × Int)) : ∃ x y t : Int, exO o = .agg #[.int .i64 x, .int .i64 y, .int .i64 t] := by
  cases o with
  | none => exact ⟨0, 0, 0, rfl⟩
  | some p => exact ⟨p.1, p.2.1, p.2.2, rfl⟩
set_option maxRecDepth 4000 in
set_option maxHeartbeats 4000000 in
theorem law_exchanges (r s z : Bool) (a b c : Int) (t : ByteArray) (w : World) (hm : HasMax w) (hp : HasPow w) (ht : t.size ≤ 9223372036854775807) :
    Calls Tryd.prog 5 #[layV r s z, exV a b c, .string t] w fun e w' => e = .returned (.bool true) ∧ New w w' := by
  have HMx := Lib.hid hm
  have HPx := Lib.hid hp
  clear hm hp
  unfold layV exV
  go_enter Tryd.func5, Tryd.ntmps5
  go_wp2_with fail
  have hX := ExAt.new w r s z a b c
  have hA := ((New.refl w).alloc (.cells #[.bool r, .bool s, .bool z] 43)).alloc (.cells #[.int .i64 a, .int .i64 b, .int .i64 c] 45)
  refine (law_awake _ (HMx.out.keep hA)).mono ?_
  rintro e w1 ⟨rfl, h1⟩
  have HX := Lib.hid (hX.keep h1)
  have HN := Lib.hid (hA.trans h1)
  have HM := Lib.hid (HMx.out.keep HN.out)
  have HP := Lib.hid (HPx.out.keep HN.out)
  clear h1 hX hA HMx HPx
  obtain ⟨c0, c1, c2, c3, c4, c5⟩ := HX.out.cells
  by_cases hs1 : 1000 < t.size
  · go_wp2_with fail
    go_ret
    exact ⟨rfl, HN.out⟩
  go_wp2_with fail
  refine (air_PrintExchange r s z a b c w1 HP.out).mono ?_
  rintro e w2 ⟨rfl, h2⟩
  replace HX := Lib.hid (HX.out.keep h2)
  replace HN := Lib.hid (HN.out.trans h2)
  replace HM := Lib.hid (HM.out.keep h2)
  replace HP := Lib.hid (HP.out.keep h2)
  clear h2 c0 c1 c2 c3 c4 c5
  obtain ⟨c0, c1, c2, c3, c4, c5⟩ := HX.out.cells
  obtain ⟨pt, hpt⟩ : ∃ pt, textV (printX r s z a b c) = pt := ⟨_, rfl⟩
  obtain ⟨pe, hpe⟩ : ∃ pe, errV 1 (printX r s z a b c) = pe := ⟨_, rfl⟩
  have PT := Lib.hid hpt
  have PE := Lib.hid hpe
  clear hpt hpe
  rw [PT.out, PE.out]
  go_wp2_with fail
  refine (ref_PrintExchange r s z a b c w2).mono ?_
  rintro e w3 ⟨rfl, h3⟩
  rw [PT.out, PE.out]
  replace HX := Lib.hid (HX.out.keep h3)
  replace HN := Lib.hid (HN.out.trans h3)
  replace HM := Lib.hid (HM.out.keep h3)
  replace HP := Lib.hid (HP.out.keep h3)
  clear h3 c0 c1 c2 c3 c4 c5
  obtain ⟨c0, c1, c2, c3, c4, c5⟩ := HX.out.cells
  go_wp2_with fail
  refine (air_ParseExchange r s z t w3 HM.out HP.out (by omega)).mono ?_
  rintro e w4 ⟨rfl, h4⟩
  replace HX := Lib.hid (HX.out.keep h4)
  replace HN := Lib.hid (HN.out.trans h4)
  clear h4 c0 c1 c2 c3 c4 c5 HM HP
  obtain ⟨x, y, u, hxo⟩ := exO_agg (parseX r s z (bs t))
  obtain ⟨xe, hxe⟩ : ∃ xe, exE (parseX r s z (bs t)) = xe := ⟨_, rfl⟩
  have XO := Lib.hid hxo
  have XE := Lib.hid hxe
  clear hxo hxe
  rw [XO.out, XE.out]
  have HC := Lib.hid (Ex3.new w4 x y u)
  have HA4 := Lib.hid ((New.refl w4).alloc (.cells #[.int .i64 x, .int .i64 y, .int .i64 u] 45))
  have HX4 := Lib.hid (HX.out.keep HA4.out)
  obtain ⟨c0, c1, c2, c3, c4, c5⟩ := HX4.out.cells
  go_wp2_with fail
  refine (ref_ParseExchange r s z t _ (by omega)).mono ?_
  rintro e w5 ⟨rfl, h5⟩
  rw [parseX_eq, XO.out, XE.out]
  replace HX := Lib.hid (HX4.out.keep h5)
  replace HN := Lib.hid (HN.out.trans (HA4.out.trans h5))
  replace HC := Lib.hid (HC.out.keep h5)
  clear h5 c0 c1 c2 c3 c4 c5 HX4 HA4
  have HD := Lib.hid (Ex3.new w5 x y u)
  have HA5 := Lib.hid ((New.refl w5).alloc (.cells #[.int .i64 x, .int .i64 y, .int .i64 u] 45))
  have HX5 := Lib.hid (HX.out.keep HA5.out)
  have HC5 := Lib.hid (HC.out.keep HA5.out)
  have HN5 := Lib.hid (HN.out.trans HA5.out)
  go_wp2_with fail
  have HW5 : Hid (w5.heap.size = w5.heap.size) := Lib.hid rfl
  generalize hW : w5.alloc (.cells #[.int .i64 x, .int .i64 y, .int .i64 u] 45) = W at *
  clear hW
  generalize w5.heap.size = gd at *
  generalize w4.heap.size = gc at *
  have all : ∀ w', New W w' → ((w'.cell? ⟨w.heap.size, 0, none⟩ = some (.bool r) ∧ w'.cell? ⟨w.heap.size, 1, none⟩ = some (.bool s) ∧ w'.cell? ⟨w.heap.size, 2, none⟩ = some (.bool z) ∧ w'.cell? ⟨w.heap.size + 1, 0, none⟩ = some (.int .i64 a) ∧ w'.cell? ⟨w.heap.size + 1, 1, none⟩ = some (.int .i64 b) ∧ w'.cell? ⟨w.heap.size + 1, 2, none⟩ = some (.int .i64 c)) ∧
      (w'.cell? ⟨gc, 0, none⟩ = some (.int .i64 x) ∧ w'.cell? ⟨gc, 1, none⟩ = some (.int .i64 y) ∧ w'.cell? ⟨gc, 2, none⟩ = some (.int .i64 u)) ∧ (w'.cell? ⟨gd, 0, none⟩ = some (.int .i64 x) ∧ w'.cell? ⟨gd, 1, none⟩ = some (.int .i64 y) ∧ w'.cell? ⟨gd, 2, none⟩ = some (.int .i64 u))) := by
    intro w' hw'
    obtain ⟨c0, c1, c2, -, -, -⟩ := (HC5.out.keep hw').cells
    obtain ⟨d0, d1, d2, -, -, -⟩ := (HD.out.keep hw').cells
    exact ⟨(HX5.out.keep hw').cells, ⟨c0, c1, c2⟩, ⟨d0, d1, d2⟩⟩
  have ALL := Lib.hid all
  clear all
  obtain ⟨⟨l0, l1, l2, l3, l4, l5⟩, ⟨m0, m1, m2⟩, ⟨n0, n1, n2⟩⟩ := ALL.out W (New.refl W)
  clear l0 l1 l2 l3 l4 l5 m0 m1 m2 n0 n1 n2
  have HS : Hid (∀ w', New W w' → New W w' ∧ w'.cell? ⟨w.heap.size, 0, none⟩ = some (.bool r) ∧ w'.cell? ⟨w.heap.size, 1, none⟩ = some (.bool s) ∧ w'.cell? ⟨w.heap.size, 2, none⟩ = some (.bool z) ∧ w'.cell? ⟨w.heap.size + 1, 0, none⟩ = some (.int .i64 a) ∧ w'.cell? ⟨w.heap.size + 1, 1, none⟩ = some (.int .i64 b) ∧ w'.cell? ⟨w.heap.size + 1, 2, none⟩ = some (.int .i64 c) ∧
      w'.cell? ⟨gc, 0, none⟩ = some (.int .i64 x) ∧ w'.cell? ⟨gc, 1, none⟩ = some (.int .i64 y) ∧ w'.cell? ⟨gc, 2, none⟩ = some (.int .i64 u) ∧ w'.cell? ⟨gd, 0, none⟩ = some (.int .i64 x) ∧ w'.cell? ⟨gd, 1, none⟩ = some (.int .i64 y) ∧ w'.cell? ⟨gd, 2, none⟩ = some (.int .i64 u)) := Lib.hid (fun w' h => by
    obtain ⟨⟨l0, l1, l2, l3, l4, l5⟩, ⟨m0, m1, m2⟩, ⟨n0, n1, n2⟩⟩ := ALL.out w' h
    exact ⟨h, l0, l1, l2, l3, l4, l5, m0, m1, m2, n0, n1, n2⟩)
  clear ALL
  rcases Bool.eq_false_or_eq_true (validX r s z a b c) with hv | hv
  all_goals
    have CA := Lib.hid (fun wx => (by have h := air_ValidExchange r s z a b c wx; rw [hv] at h; exact h))
    have CB := Lib.hid (fun wx => (by have h := ref_ValidExchange r s z a b c wx; rw [hv] at h; exact h))
    unfold layV exV at CA CB
    clear hv
    go_region_held3 (fun w' => New W w' ∧ w'.cell? ⟨w.heap.size, 0, none⟩ = some (.bool r) ∧ w'.cell? ⟨w.heap.size, 1, none⟩ = some (.bool s) ∧ w'.cell? ⟨w.heap.size, 2, none⟩ = some (.bool z) ∧ w'.cell? ⟨w.heap.size + 1, 0, none⟩ = some (.int .i64 a) ∧ w'.cell? ⟨w.heap.size + 1, 1, none⟩ = some (.int .i64 b) ∧ w'.cell? ⟨w.heap.size + 1, 2, none⟩ = some (.int .i64 c) ∧
      w'.cell? ⟨gc, 0, none⟩ = some (.int .i64 x) ∧ w'.cell? ⟨gc, 1, none⟩ = some (.int .i64 y) ∧ w'.cell? ⟨gc, 2, none⟩ = some (.int .i64 u) ∧ w'.cell? ⟨gd, 0, none⟩ = some (.int .i64 x) ∧ w'.cell? ⟨gd, 1, none⟩ = some (.int .i64 y) ∧ w'.cell? ⟨gd, 2, none⟩ = some (.int .i64 u))
      (first | exact HS.out _ (New.refl _).drew | exact HS.out _ (New.trans (New.refl _).drew (by assumption)) | exact HS.out _ (New.trans (by first | assumption | exact (by assumption : New _ _ ∧ _).1) (by assumption)))
      (first | (go_at_call 34; refine (CA.out _).mono ?_; rintro e w' ⟨rfl, hb⟩) | (go_at_call 35; refine (CB.out _).mono ?_; rintro e w' ⟨rfl, hb⟩))
    go_wp2
    go_ret
    have hn : New W w' := by first | assumption | exact (by assumption : New _ w' ∧ _).1
    exact ⟨rfl, HN5.out.trans hn⟩
namespace LawExchanges
theorem reads : ∀ t ∈ Tryd.f5.params.toList, Tryd.prog.readableRec t = true ∧ t < Tryd.prog.types.size := by
  rw [Tryd.params5]
  intro t ht
  have ht : t = 43 ∨ t = 45 ∨ t = 9 := by simpa using ht
  rcases ht with rfl | rfl | rfl
  · exact ⟨by kernel_rfl, of_decide_eq_true (by kernel_rfl)⟩
  · exact ⟨by kernel_rfl, of_decide_eq_true (by kernel_rfl)⟩
  · exact ⟨by kernel_rfl, of_decide_eq_true (by kernel_rfl)⟩
set_option maxRecDepth 100000 in
theorem contract (H : Type) (enc : TypeId × Value → H) (W : World) (base : Nat) (args : Array Value) (ds gs : List (DataW H)) (before : List MemPlace)
    (hval : ∀ (j : Nat) t v, Tryd.f5.params[j]? = some t → args[j]? = some v → Value.okWide Tryd.prog W .any base t v)
    (hW : DataW.Whole enc Tryd.prog Tryd.f5.params.toList Rows.airExchangesSpec.vars false W args.toList ds gs before) (hS : W.ShapedOpen Tryd.prog) (hlaid : laidMetH Tryd.prog Rows.airExchangesRow.laid W) :
    Calls Tryd.prog 5 args W fun e W' => ∃ v, e = .returned v ∧ Rows.airExchangesSpec.post enc Tryd.prog Tryd.f5 false true false false W args v W' := by
  have hW' := hW
  obtain ⟨p, q, hA0, hV, rfl, hfz, hnd⟩ := hW
  have hA : DataW.TrodAll enc Tryd.prog W 0 (fun _ => true) true Tryd.f5.params.toList args.toList ds p := hA0
  rw [Tryd.params5] at hA hval
  obtain ⟨v0, vs0, d0, ds0, p0, q0, hargs, rfl, rfl, h0, r0⟩ := trodAll_cons hA
  obtain ⟨v1, vs1, d1, ds1, p1, q1, rfl, rfl, rfl, h1, r1⟩ := trodAll_cons r0
  obtain ⟨v2, vs2, d2, ds2, p2, q2, rfl, rfl, rfl, h2, r2⟩ := trodAll_cons r1
  obtain ⟨rfl, rfl, rfl⟩ := trodAll_nil r2
  obtain rfl : args = #[v0, v1, v2] := by cases args; simp_all
  obtain ⟨rfl, rfl⟩ := trodVars_none hV
  have hv0 := hval 0 43 v0 rfl rfl
  have hv1 := hval 1 45 v1 rfl rfl
  have hv2 := hval 2 9 v2 rfl rfl
  clear hval
  obtain ⟨x0, y0, z0, rfl, rfl⟩ := open_layout hv0 h0
  obtain ⟨x1, y1, z1, rfl, rfl⟩ := open_exchange hv1 h1
  obtain ⟨a2, rfl, rfl, rfl, hb2⟩ := Go.ChangeMaps.open_string Tryd.underlying9 hv2 h2
  have hpow : HasPow W := pow_of_laid hlaid
  refine (law_exchanges x0 y0 z0 x1 y1 z1 a2 W (max_of_shaped hS) hpow hb2).mono fun e W' ⟨he, hb⟩ => ?_
  subst he
  exact ⟨_, rfl, post_true hW' rfl (by kernel_rfl) ⟨rfl, rfl, rfl⟩ reads hb⟩
theorem laid_met (os : Os) : laidMet Tryd.prog Rows.airExchangesRow.laid ((laidWorld os).forCall (fun _ _ => 0) ⟨#[], #[.agg #[.bool false, .bool false, .bool false], .agg #[.int .i64 0, .int .i64 0, .int .i64 0], .string ⟨#[]⟩], []⟩).memory :=
  laidMet_of_run' 8 (by kernel_rfl) (by kernel_rfl)
theorem reads_w (os : Os) {H : Type} (enc : TypeId × Value → H) : ∃ places, DataW.whole enc Tryd.prog ((laidWorld os).forCall (fun _ _ => 0) ⟨#[], #[.agg #[.bool false, .bool false, .bool false], .agg #[.int .i64 0, .int .i64 0, .int .i64 0], .string ⟨#[]⟩], []⟩).memory Tryd.f5.params.toList Rows.airExchangesSpec.vars false #[Value.agg #[.bool false, .bool false, .bool false], .agg #[.int .i64 0, .int .i64 0, .int .i64 0], .string ⟨#[]⟩].toList 8 = some ([.agg [.lit (.bool false), .lit (.bool false), .lit (.bool false)], .agg [.lit (.int .i64 0), .lit (.int .i64 0), .lit (.int .i64 0)], .lit (.string [])], [], places) :=
  ⟨[], by kernel_rfl⟩
set_option maxRecDepth 100000 in
theorem lifted (os : Os) (started : os.Started) (H : Type) (enc : TypeId × Value → H) (F : Stop.Interp) :
    ReturnsInHanded {} Tryd.checked os 5 .any ((OpenSpec.ofChange Rows.airExchangesSpec).preRow enc Tryd.prog Tryd.f5 Rows.airExchangesRow.domain false Rows.airExchangesRow.laid) (((OpenSpec.ofChange Rows.airExchangesSpec).at F).post enc Tryd.prog Tryd.f5 false true false false) := by
  obtain ⟨places, hx⟩ := reads_w os enc
  refine returnsInHanded_of_row (C := Tryd.checked) (s := OpenSpec.ofChange Rows.airExchangesSpec) row_own started (by kernel_rfl) Tryd.func5
    (witness_row_at (enc := enc) (C := Tryd.checked) false (laidWorld os) #[.agg #[.bool false, .bool false, .bool false], .agg #[.int .i64 0, .int .i64 0, .int .i64 0], .string ⟨#[]⟩] rfl (by kernel_rfl) (by kernel_rfl) (by kernel_rfl)
      (OpenSpec.preRow_of_cond 8 hx (by kernel_rfl) (fun k hk => by cases hk) (by kernel_rfl) (laid_met os))) ?_
  intro W base args ds gs before hval hW _ _ _ hlaid hS _
  exact contract H enc W base args ds gs before hval hW hS hlaid
theorem said : Rows.AirExchangesSaid :=
  OpenClaim.holds_of_cond 5 Tryd.f5 rfl rfl rfl rfl rfl rfl rfl ⟨rfl, rfl, rfl, rfl, rfl⟩ rfl rfl rfl rfl rfl (by kernel_rfl) Tryd.func5 (by kernel_rfl)
    (of_decide_eq_true (by kernel_rfl)) (by unfold Func.isWrapper; first | (rw [if_pos (by decide +kernel)]; kernel_rfl) | (rw [if_neg (by decide +kernel)]; exact ⟨rfl, rfl⟩))
    (fun os started H enc _ F => by rw [OpenClaim.pre_eq_preRow]; exact lifted os started H enc F)
theorem plain (f : FuncId) (fn : Func) (hf : Tryd.pinned.checked.prog.funcNamed "pileup/pileuplaw01.AirExchanges" = some f) (hfn : Tryd.pinned.checked.prog.funcs[f]? = some fn) :
    false = Tryd.pinned.checked.prog.looks [] ∧ ∀ (j : Nat) t, fn.params[j]? = some t → Tryd.pinned.checked.prog.wantsStandIn t = false := by
  obtain rfl : f = 5 := Option.some.inj ((show Tryd.prog.funcNamed "pileup/pileuplaw01.AirExchanges" = some 5 by kernel_rfl).symm.trans hf) |>.symm
  obtain rfl : fn = Tryd.f5 := (Option.some.inj (Tryd.func5.symm.trans hfn)).symm
  refine ⟨by kernel_rfl, fun j t ht => ?_⟩
  rw [Tryd.params5] at ht
  have ht : t = 43 ∨ t = 45 ∨ t = 9 := by simpa using Array.mem_of_getElem? ht
  rcases ht with rfl | rfl | rfl
  · exact (show Tryd.prog.wantsStandIn 43 = false by kernel_rfl)
  · exact (show Tryd.prog.wantsStandIn 45 = false by kernel_rfl)
  · exact (show Tryd.prog.wantsStandIn 9 = false by kernel_rfl)
theorem card : Rows.AirExchangesCardSaid :=
  Claim7.holds_tied_plain_at .later [] _ _ _ _ said (fun _ h => by cases h) (by kernel_rfl) (fun _ h => by cases h) airExchanges_row_tie rfl ⟨rfl, rfl⟩ (by kernel_rfl) rfl plain (by kernel_rfl)
end LawExchanges

end Go.Proofs.YtcaljokcgfkppaaDoor
