/-
  The law AirTexts returns true for all layouts, exchanges, texts and minutes. Conditions: those of its given row and card, no other.
-/
import Derived.Test.YtcaljokcgfkppaaDoorRowX
import Derived.Test.YtcaljokcgfkppaaDoorTimeLess
namespace Go.Proofs.YtcaljokcgfkppaaDoor
open Go.RowKit
open Go.ChangeShapes Go.WideShapes Go.ChangeAt Go.Deep
theorem printX_none {r s z : Bool} {a b c : Int} (h : printX r s z a b c = none) : validX r s z a b c = false := by
  unfold printX at h
  split at h
  · cases h
  · rename_i hv
    simpa using hv
theorem printX_len {r s z : Bool} {a b c : Int} {l : Bytes} (h : printX r s z a b c = some l) : validX r s z a b c = true ∧ l.length ≤ 100 := by
  obtain ⟨x, y, t, rfl, rfl, rfl, hv, hl⟩ := printX_some h
  have hn := valid_nums hv
  exact ⟨hv, by rw [hl]; exact exL_len r s z x y t (by omega) (by omega) (by omega)⟩
theorem less_of (n m : Nat) (h : n / 1440 = m / 1440) : Op.bytesLess (B (timeL n)).toList (B (timeL m)).toList = decide (n < m) := by
  rw [Lib.toList_data, Lib.toList_data]
  exact time_less n m h
set_option maxRecDepth 8000 in
set_option maxHeartbeats 16000000 in
theorem law_texts (r s z : Bool) (a b c : Int) (t : ByteArray) (p q : Int) (w : World) (hm : HasMax w) (hp : HasPow w) (ht : t.size ≤ 9223372036854775807) :
    Calls Tryd.prog 10 #[layV r s z, exV a b c, .string t, .int .i64 p, .int .i64 q] w fun e w' => e = .returned (.bool true) ∧ New w w' := by
  have HMx := Lib.hid hm
  have HPx := Lib.hid hp
  clear hm hp
  unfold layV exV
  go_enter Tryd.func10, Tryd.ntmps10
  go_wp2_with fail
  have hX := ExAt.new w r s z a b c
  have hA := ((New.refl w).alloc (.cells #[.bool r, .bool s, .bool z] 43)).alloc (.cells #[.int .i64 a, .int .i64 b, .int .i64 c] 45)
  refine (law_awake _ (HMx.out.keep hA)).mono ?_
  rintro e w1 ⟨rfl, h1⟩
  have HX := Lib.hid (hX.keep h1)
  have HN := Lib.hid (hA.trans h1)
  have HM := Lib.hid (HMx.out.keep HN.out)
  have HP := Lib.hid (HPx.out.keep HN.out)
  clear h1 hX hA HMx HPx
  obtain ⟨c0, c1, c2, c3, c4, c5⟩ := HX.out.cells
  by_cases hs1 : 1000 < t.size
  · go_wp2_with fail
    go_ret
    exact ⟨rfl, HN.out⟩
  go_wp2_with fail
  refine (air_PrintExchange r s z a b c w1 HP.out).mono ?_
  rintro e w2 ⟨rfl, h2⟩
  replace HX := Lib.hid (HX.out.keep h2)
  replace HN := Lib.hid (HN.out.trans h2)
  replace HM := Lib.hid (HM.out.keep h2)
  replace HP := Lib.hid (HP.out.keep h2)
  clear h2 c0 c1 c2 c3 c4 c5
  obtain ⟨c0, c1, c2, c3, c4, c5⟩ := HX.out.cells
  cases hp : printX r s z a b c
  case' none =>
    have HV := Lib.hid (printX_none hp)
    clear hp
    simp only [errV, textV]
    go_wp2_with fail
    refine (air_ValidExchange r s z a b c _).mono ?_
    rintro e w3 ⟨rfl, h3⟩
    rw [HV.out]
    replace HX := Lib.hid (HX.out.keep h3)
    replace HN := Lib.hid (HN.out.trans h3)
    replace HM := Lib.hid (HM.out.keep h3)
    replace HP := Lib.hid (HP.out.keep h3)
    clear h3 HV c0 c1 c2 c3 c4 c5
    obtain ⟨c0, c1, c2, c3, c4, c5⟩ := HX.out.cells
    go_wp2_with fail
  case' some l =>
    have HV := Lib.hid (printX_len hp).1
    have hll := (printX_len hp).2
    have HB := Lib.hid ((parseX_iff r s z l a b c).2 hp)
    have hsl := B_size l
    clear hp
    simp only [errV, textV]
    go_wp2_with fail
    refine (air_ValidExchange r s z a b c _).mono ?_
    rintro e w3 ⟨rfl, h3⟩
    rw [HV.out]
    replace HX := Lib.hid (HX.out.keep h3)
    replace HN := Lib.hid (HN.out.trans h3)
    replace HM := Lib.hid (HM.out.keep h3)
    replace HP := Lib.hid (HP.out.keep h3)
    clear h3 HV c0 c1 c2 c3 c4 c5
    obtain ⟨c0, c1, c2, c3, c4, c5⟩ := HX.out.cells
    go_wp2_with fail
    refine (air_ParseExchange r s z (B l) w3 HM.out HP.out (by omega)).mono ?_
    rintro e w4 ⟨rfl, h4⟩
    rw [bs_B, HB.out]
    simp only [exO, exE]
    unfold exV
    have hA4 := h4.alloc (.cells #[.int .i64 a, .int .i64 b, .int .i64 c] 45)
    replace HX := Lib.hid (HX.out.keep hA4)
    replace HN := Lib.hid (HN.out.trans hA4)
    replace HM := Lib.hid (HM.out.keep hA4)
    replace HP := Lib.hid (HP.out.keep hA4)
    clear h4 hA4 hsl hll HB c0 c1 c2 c3 c4 c5
    obtain ⟨c0, c1, c2, c3, c4, c5⟩ := HX.out.cells
    go_wp2_with fail
  all_goals
    refine (air_ParseExchange r s z t _ HM.out HP.out (by omega)).mono ?_
    rintro e w6 ⟨rfl, h6⟩
    replace HX := Lib.hid (HX.out.keep h6)
    replace HN := Lib.hid (HN.out.trans h6)
    replace HM := Lib.hid (HM.out.keep h6)
    replace HP := Lib.hid (HP.out.keep h6)
    clear h6 c0 c1 c2 c3 c4 c5
    cases hq : parseX r s z (bs t)
    case' none =>
      clear hq
      simp only [exO, exE]
      unfold exV
      have hA6 := (New.refl w6).alloc (.cells #[.int .i64 0, .int .i64 0, .int .i64 0] 45)
      replace HX := Lib.hid (HX.out.keep hA6)
      replace HN := Lib.hid (HN.out.trans hA6)
      replace HM := Lib.hid (HM.out.keep hA6)
      replace HP := Lib.hid (HP.out.keep hA6)
      clear hA6
      go_wp2_with fail
    case' some d =>
      obtain ⟨x, y, u⟩ := d
      have HB := Lib.hid ((parseX_iff r s z (bs t) x y u).1 hq)
      clear hq
      simp only [exO, exE]
      unfold exV
      have hA6 := (New.refl w6).alloc (.cells #[.int .i64 x, .int .i64 y, .int .i64 u] 45)
      replace HX := Lib.hid (HX.out.keep hA6)
      replace HN := Lib.hid (HN.out.trans hA6)
      replace HM := Lib.hid (HM.out.keep hA6)
      replace HP := Lib.hid (HP.out.keep hA6)
      clear hA6
      obtain ⟨c0, c1, c2, c3, c4, c5⟩ := HX.out.cells
      go_wp2_with fail
      refine (air_PrintExchange r s z x y u _ HP.out).mono ?_
      rintro e w7 ⟨rfl, h7⟩
      rw [HB.out]
      simp only [textV, errV]
      rw [B_bs]
      replace HX := Lib.hid (HX.out.keep h7)
      replace HN := Lib.hid (HN.out.trans h7)
      replace HM := Lib.hid (HM.out.keep h7)
      replace HP := Lib.hid (HP.out.keep h7)
      clear h7 HB c0 c1 c2 c3 c4 c5
      go_wp2_with fail
  all_goals
    refine (air_ParseTime t _ HM.out (by omega)).mono ?_
    rintro e w8 ⟨rfl, h8⟩
    replace HX := Lib.hid (HX.out.keep h8)
    replace HN := Lib.hid (HN.out.trans h8)
    replace HM := Lib.hid (HM.out.keep h8)
    replace HP := Lib.hid (HP.out.keep h8)
    clear h8
    cases hq : parseV (bs t)
    case' none =>
      clear hq
      simp only [errO, Option.getD]
      go_wp2_with fail
    case' some M =>
      have HB := Lib.hid ((parseV_iff (bs t) M).1 hq)
      clear hq
      simp only [errO, Option.getD]
      go_wp2_with fail
      refine (air_PrintTime M _).mono ?_
      rintro e w9 ⟨rfl, h9⟩
      rw [HB.out]
      simp only [textV, errV]
      rw [B_bs]
      replace HX := Lib.hid (HX.out.keep h9)
      replace HN := Lib.hid (HN.out.trans h9)
      replace HM := Lib.hid (HM.out.keep h9)
      replace HP := Lib.hid (HP.out.keep h9)
      clear h9 HB
      go_wp2_with fail
  all_goals
    refine (air_PrintTime p _).mono ?_
    rintro e w10 ⟨rfl, h10⟩
    replace HX := Lib.hid (HX.out.keep h10)
    replace HN := Lib.hid (HN.out.trans h10)
    replace HM := Lib.hid (HM.out.keep h10)
    replace HP := Lib.hid (HP.out.keep h10)
    clear h10
    go_wp2_with fail
    refine (air_PrintTime q _).mono ?_
    rintro e w11 ⟨rfl, h11⟩
    replace HX := Lib.hid (HX.out.keep h11)
    replace HN := Lib.hid (HN.out.trans h11)
    replace HM := Lib.hid (HM.out.keep h11)
    replace HP := Lib.hid (HP.out.keep h11)
    clear h11
    cases hq1 : timeV p
    case none =>
      clear hq1
      cases hq2 : timeV q
      all_goals
        clear hq2
        simp only [textV, errV]
        go_wp2_with fail
        go_ret
        exact ⟨rfl, HN.out⟩
    case some l1 =>
      cases hq2 : timeV q
      case none =>
        clear hq1 hq2
        simp only [textV, errV]
        go_wp2_with fail
        go_ret
        exact ⟨rfl, HN.out⟩
      case some l2 =>
        obtain ⟨n1, e1, hn1, hl1⟩ := time_bounds hq1
        obtain ⟨n2, e2, hn2, hl2⟩ := time_bounds hq2
        have HB := Lib.hid ((parseV_iff l1 p).2 hq1)
        have hlen := timeL_len n1 hn1
        rw [← hl1] at hlen
        have hsl := B_size l1
        have HE1 := Lib.hid e1
        have HE2 := Lib.hid e2
        have HL1 := Lib.hid hl1
        have HL2 := Lib.hid hl2
        clear hq1 hq2 e1 e2 hl1 hl2
        simp only [textV, errV]
        go_wp2_with fail
        refine (air_ParseTime (B l1) _ HM.out (by omega)).mono ?_
        rintro e w12 ⟨rfl, h12⟩
        rw [bs_B, HB.out]
        simp only [errO, Option.getD]
        replace HN := Lib.hid (HN.out.trans h12)
        clear h12 HB hlen hsl
        have hp0 : 0 ≤ p := by have := HE1.out; omega
        have hq0 : 0 ≤ q := by have := HE2.out; omega
        have hp9 : p ≤ 20000 := by have := HE1.out; omega
        have hq9 : q ≤ 20000 := by have := HE2.out; omega
        by_cases hday : p / 1440 = q / 1440
        · have hls : Op.bytesLess (B l1).toList (B l2).toList = decide (n1 < n2) := by
            rw [HL1.out, HL2.out]
            apply less_of
            have := HE1.out
            have := HE2.out
            omega
          have hd : (p / 1440 != q / 1440) = false := by rw [hday]; simp
          have HD := Lib.hid hday
          clear hday
          by_cases hlt : n1 < n2
          · have hpq : p < q := by have := HE1.out; have := HE2.out; omega
            rw [decide_eq_true hlt] at hls
            clear hlt
            go_wp2_with fail
            go_ret
            exact ⟨rfl, HN.out⟩
          · have hpq : decide (p < q) = false := decide_eq_false (by have := HE1.out; have := HE2.out; omega)
            rw [decide_eq_false hlt] at hls
            clear hlt
            go_wp2_with fail
            go_ret
            exact ⟨rfl, HN.out⟩
        · have hd : (p / 1440 != q / 1440) = true := by rw [bne_iff_ne]; exact hday
          clear hday
          go_wp2_with fail
          go_ret
          exact ⟨rfl, HN.out⟩
namespace LawTexts
theorem reads : ∀ t ∈ Tryd.f10.params.toList, Tryd.prog.readableRec t = true ∧ t < Tryd.prog.types.size := by
  rw [Tryd.params10]
  intro t ht
  have ht : t = 43 ∨ t = 45 ∨ t = 9 ∨ t = 3 := by simpa using ht
  rcases ht with rfl | rfl | rfl | rfl
  · exact ⟨by kernel_rfl, of_decide_eq_true (by kernel_rfl)⟩
  · exact ⟨by kernel_rfl, of_decide_eq_true (by kernel_rfl)⟩
  · exact ⟨by kernel_rfl, of_decide_eq_true (by kernel_rfl)⟩
  · exact ⟨by kernel_rfl, of_decide_eq_true (by kernel_rfl)⟩
set_option maxRecDepth 100000 in
theorem contract (H : Type) (enc : TypeId × Value → H) (W : World) (base : Nat) (args : Array Value) (ds gs : List (DataW H)) (before : List MemPlace)
    (hval : ∀ (j : Nat) t v, Tryd.f10.params[j]? = some t → args[j]? = some v → Value.okWide Tryd.prog W .any base t v)
    (hW : DataW.Whole enc Tryd.prog Tryd.f10.params.toList Rows.airTextsSpec.vars false W args.toList ds gs before) (hS : W.ShapedOpen Tryd.prog) (hlaid : laidMetH Tryd.prog Rows.airTextsRow.laid W) :
    Calls Tryd.prog 10 args W fun e W' => ∃ v, e = .returned v ∧ Rows.airTextsSpec.post enc Tryd.prog Tryd.f10 false true false false W args v W' := by
  have hW' := hW
  obtain ⟨p, q, hA0, hV, rfl, hfz, hnd⟩ := hW
  have hA : DataW.TrodAll enc Tryd.prog W 0 (fun _ => true) true Tryd.f10.params.toList args.toList ds p := hA0
  rw [Tryd.params10] at hA hval
  obtain ⟨v0, vs0, d0, ds0, p0, q0, hargs, rfl, rfl, h0, r0⟩ := trodAll_cons hA
  obtain ⟨v1, vs1, d1, ds1, p1, q1, rfl, rfl, rfl, h1, r1⟩ := trodAll_cons r0
  obtain ⟨v2, vs2, d2, ds2, p2, q2, rfl, rfl, rfl, h2, r2⟩ := trodAll_cons r1
  obtain ⟨v3, vs3, d3, ds3, p3, q3, rfl, rfl, rfl, h3, r3⟩ := trodAll_cons r2
  obtain ⟨v4, vs4, d4, ds4, p4, q4, rfl, rfl, rfl, h4, r4⟩ := trodAll_cons r3
  obtain ⟨rfl, rfl, rfl⟩ := trodAll_nil r4
  obtain rfl : args = #[v0, v1, v2, v3, v4] := by cases args; simp_all
  obtain ⟨rfl, rfl⟩ := trodVars_none hV
  have hv0 := hval 0 43 v0 rfl rfl
  have hv1 := hval 1 45 v1 rfl rfl
  have hv2 := hval 2 9 v2 rfl rfl
  have hv3 := hval 3 3 v3 rfl rfl
  have hv4 := hval 4 3 v4 rfl rfl
  clear hval
  obtain ⟨x0, y0, z0, rfl, rfl⟩ := open_layout hv0 h0
  obtain ⟨x1, y1, z1, rfl, rfl⟩ := open_exchange hv1 h1
  obtain ⟨a2, rfl, rfl, rfl, hb2⟩ := Go.ChangeMaps.open_string Tryd.underlying9 hv2 h2
  obtain ⟨a3, rfl, rfl, rfl, hw3⟩ := open_int Tryd.underlying3 hv3 h3
  obtain ⟨a4, rfl, rfl, rfl, hw4⟩ := open_int Tryd.underlying3 hv4 h4
  have hpow : HasPow W := pow_of_laid hlaid
  refine (law_texts x0 y0 z0 x1 y1 z1 a2 a3 a4 W (max_of_shaped hS) hpow hb2).mono fun e W' ⟨he, hb⟩ => ?_
  subst he
  exact ⟨_, rfl, post_true hW' rfl (by kernel_rfl) ⟨rfl, rfl, rfl⟩ reads hb⟩
theorem laid_met (os : Os) : laidMet Tryd.prog Rows.airTextsRow.laid ((laidWorld os).forCall (fun _ _ => 0) ⟨#[], #[.agg #[.bool false, .bool false, .bool false], .agg #[.int .i64 0, .int .i64 0, .int .i64 0], .string ⟨#[]⟩, .int .i64 0, .int .i64 0], []⟩).memory :=
  laidMet_of_run' 8 (by kernel_rfl) (by kernel_rfl)
theorem reads_w (os : Os) {H : Type} (enc : TypeId × Value → H) : ∃ places, DataW.whole enc Tryd.prog ((laidWorld os).forCall (fun _ _ => 0) ⟨#[], #[.agg #[.bool false, .bool false, .bool false], .agg #[.int .i64 0, .int .i64 0, .int .i64 0], .string ⟨#[]⟩, .int .i64 0, .int .i64 0], []⟩).memory Tryd.f10.params.toList Rows.airTextsSpec.vars false #[Value.agg #[.bool false, .bool false, .bool false], .agg #[.int .i64 0, .int .i64 0, .int .i64 0], .string ⟨#[]⟩, .int .i64 0, .int .i64 0].toList 8 = some ([.agg [.lit (.bool false), .lit (.bool false), .lit (.bool false)], .agg [.lit (.int .i64 0), .lit (.int .i64 0), .lit (.int .i64 0)], .lit (.string []), .lit (.int .i64 0), .lit (.int .i64 0)], [], places) :=
  ⟨[], by kernel_rfl⟩
set_option maxRecDepth 100000 in
theorem lifted (os : Os) (started : os.Started) (H : Type) (enc : TypeId × Value → H) (F : Stop.Interp) :
    ReturnsInHanded {} Tryd.checked os 10 .any ((OpenSpec.ofChange Rows.airTextsSpec).preRow enc Tryd.prog Tryd.f10 Rows.airTextsRow.domain false Rows.airTextsRow.laid) (((OpenSpec.ofChange Rows.airTextsSpec).at F).post enc Tryd.prog Tryd.f10 false true false false) := by
  obtain ⟨places, hx⟩ := reads_w os enc
  refine returnsInHanded_of_row (C := Tryd.checked) (s := OpenSpec.ofChange Rows.airTextsSpec) row_own started (by kernel_rfl) Tryd.func10
    (witness_row_at (enc := enc) (C := Tryd.checked) false (laidWorld os) #[.agg #[.bool false, .bool false, .bool false], .agg #[.int .i64 0, .int .i64 0, .int .i64 0], .string ⟨#[]⟩, .int .i64 0, .int .i64 0] rfl (by kernel_rfl) (by kernel_rfl) (by kernel_rfl)
      (OpenSpec.preRow_of_cond 8 hx (by kernel_rfl) (fun k hk => by cases hk) (by kernel_rfl) (laid_met os))) ?_
  intro W base args ds gs before hval hW _ _ _ hlaid hS _
  exact contract H enc W base args ds gs before hval hW hS hlaid
theorem said : Rows.AirTextsSaid :=
  OpenClaim.holds_of_cond 10 Tryd.f10 rfl rfl rfl rfl rfl rfl rfl ⟨rfl, rfl, rfl, rfl, rfl⟩ rfl rfl rfl rfl rfl (by kernel_rfl) Tryd.func10 (by kernel_rfl)
    (of_decide_eq_true (by kernel_rfl)) (by unfold Func.isWrapper; first | (rw [if_pos (by decide +kernel)]; kernel_rfl) | (rw [if_neg (by decide +kernel)]; exact ⟨rfl, rfl⟩))
    (fun os started H enc _ F => by rw [OpenClaim.pre_eq_preRow]; exact lifted os started H enc F)
theorem plain (f : FuncId) (fn : Func) (hf : Tryd.pinned.checked.prog.funcNamed "pileup/pileuplaw01.AirTexts" = some f) (hfn : Tryd.pinned.checked.prog.funcs[f]? = some fn) :
    false = Tryd.pinned.checked.prog.looks [] ∧ ∀ (j : Nat) t, fn.params[j]? = some t → Tryd.pinned.checked.prog.wantsStandIn t = false := by
  obtain rfl : f = 10 := Option.some.inj ((show Tryd.prog.funcNamed "pileup/pileuplaw01.AirTexts" = some 10 by kernel_rfl).symm.trans hf) |>.symm
  obtain rfl : fn = Tryd.f10 := (Option.some.inj (Tryd.func10.symm.trans hfn)).symm
  refine ⟨by kernel_rfl, fun j t ht => ?_⟩
  rw [Tryd.params10] at ht
  have ht : t = 43 ∨ t = 45 ∨ t = 9 ∨ t = 3 := by simpa using Array.mem_of_getElem? ht
  rcases ht with rfl | rfl | rfl | rfl
  · exact (show Tryd.prog.wantsStandIn 43 = false by kernel_rfl)
  · exact (show Tryd.prog.wantsStandIn 45 = false by kernel_rfl)
  · exact (show Tryd.prog.wantsStandIn 9 = false by kernel_rfl)
  · exact (show Tryd.prog.wantsStandIn 3 = false by kernel_rfl)
theorem card : Rows.AirTextsCardSaid :=
  Claim7.holds_tied_plain_at .later [] _ _ _ _ said (fun _ h => by cases h) (by kernel_rfl) (fun _ h => by cases h) airTexts_row_tie rfl ⟨rfl, rfl⟩ (by kernel_rfl) rfl plain (by kernel_rfl)
end LawTexts

end Go.Proofs.YtcaljokcgfkppaaDoor
