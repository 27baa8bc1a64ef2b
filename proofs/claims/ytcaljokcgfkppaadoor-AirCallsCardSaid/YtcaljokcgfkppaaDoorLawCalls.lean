/-
  The law AirCalls returns true for every two texts and all parts. Conditions: those of its given row and card, no other.
-/
import Derived.Test.YtcaljokcgfkppaaDoorRow
import Derived.Test.YtcaljokcgfkppaaDoorRefJoin
import Derived.ChangeMaps5
import Derived.Lib.SmallJoins
import Derived.SizedLaws
namespace Go.Proofs.YtcaljokcgfkppaaDoor
open Go.RowKit
open Go.ChangeShapes Go.WideShapes Go.ChangeAt Go.Deep
def p4D (o : Option P4) : P4 := o.getD ⟨[], [], [], []⟩
theorem p4V_agg (o : Option P4) : p4V o = .agg #[.string (B (p4D o).area), .string (B (p4D o).pre), .string (B (p4D o).suf), .string (B (p4D o).stroke)] := by
  cases o <;> rfl
set_option maxRecDepth 4000 in
set_option maxHeartbeats 4000000 in
theorem law_calls (s t : ByteArray) (a p q r : Bytes) (w : World) (hm : HasMax w) (hs : s.size ≤ 9223372036854775807) (ht : t.size ≤ 9223372036854775807) (ha : a.length ≤ 140737488355328) (hp : p.length ≤ 140737488355328) (hq : q.length ≤ 140737488355328) (hr : r.length ≤ 140737488355328) :
    Calls Tryd.prog 4 #[.string s, .string t, .agg #[.string (B a), .string (B p), .string (B q), .string (B r)]] w fun e w' => e = .returned (.bool true) ∧ New w w' := by
  have HMx := Lib.hid hm
  clear hm
  go_enter Tryd.func4, Tryd.ntmps4
  go_wp2_with fail
  have hP := PartsIn.new w (B a) (B p) (B q) (B r)
  have hm := HMx.out.keep ((New.refl w).alloc (.cells #[.string (B a), .string (B p), .string (B q), .string (B r)] 32))
  refine (law_awake _ hm).mono ?_
  rintro e w1 ⟨rfl, h1⟩
  have HP := Lib.hid (hP.keep h1)
  have HM := Lib.hid (hm.keep h1)
  have HN := Lib.hid (((New.refl w).alloc (.cells #[.string (B a), .string (B p), .string (B q), .string (B r)] 32)).trans h1)
  clear h1 hP hm HMx
  obtain ⟨c0, c1, c2, c3, -, -, -, -⟩ := HP.out.all
  have sa := B_size a
  have sp := B_size p
  have sq := B_size q
  have sr := B_size r
  by_cases hs1 : 1000 < s.size
  · go_wp2_with fail
    go_ret
    exact ⟨rfl, HN.out⟩
  by_cases ht1 : 1000 < t.size
  · go_wp2_with fail
    go_ret
    exact ⟨rfl, HN.out⟩
  by_cases hbig : 1000 < a.length + p.length + q.length + r.length
  · go_wp2_with fail
    go_ret
    exact ⟨rfl, HN.out⟩
  go_wp2_with fail
  clear ha hp hq hr
  refine (air_Split s w1 HM.out (by omega)).mono ?_
  rintro e w2 ⟨rfl, h2⟩
  rw [p4V_agg]
  replace HM := Lib.hid (HM.out.keep h2)
  replace HN := Lib.hid (HN.out.trans h2)
  replace HP := Lib.hid (HP.out.keep h2)
  clear h2 c0 c1 c2 c3
  obtain ⟨x, hx⟩ : ∃ x, p4D (splitV (bs s)) = x := ⟨_, rfl⟩
  obtain ⟨pe, hpe⟩ : ∃ pe, p4E (splitV (bs s)) = pe := ⟨_, rfl⟩
  obtain ⟨jt, hjt⟩ : ∃ jt, textV (joinV ⟨a, p, q, r⟩) = jt := ⟨_, rfl⟩
  obtain ⟨je, hje⟩ : ∃ je, errV 10 (joinV ⟨a, p, q, r⟩) = je := ⟨_, rfl⟩
  obtain ⟨bt, hbt⟩ : ∃ bt, baseV (splitV (bs s)) = bt := ⟨_, rfl⟩
  obtain ⟨sb, hsb⟩ : ∃ sb, (sameV (splitV (bs s)) (splitV (bs t))).1 = sb := ⟨_, rfl⟩
  obtain ⟨se, hse⟩ : ∃ se, (sameV (splitV (bs s)) (splitV (bs t))).2 = se := ⟨_, rfl⟩
  obtain ⟨ft, hft⟩ : ∃ ft, prefixV (splitV (bs s)) = ft := ⟨_, rfl⟩
  obtain ⟨vc, hvc⟩ : ∃ vc, (splitV (bs s)).isSome = vc := ⟨_, rfl⟩
  have X := Lib.hid hx
  have PE := Lib.hid hpe
  have JT := Lib.hid hjt
  have JE := Lib.hid hje
  have BT := Lib.hid hbt
  have SB := Lib.hid hsb
  have SE := Lib.hid hse
  have FT := Lib.hid hft
  have VC := Lib.hid hvc
  clear hx hpe hjt hje hbt hsb hse hft hvc
  rw [X.out, PE.out]
  go_wp2_with fail
  have hX := PartsIn.new w2 (B x.area) (B x.pre) (B x.suf) (B x.stroke)
  have hA := (New.refl w2).alloc (.cells #[.string (B x.area), .string (B x.pre), .string (B x.suf), .string (B x.stroke)] 32)
  refine (ref_Split s _ (by omega)).mono ?_
  rintro e w3 ⟨rfl, h3⟩
  rw [p4V_agg, X.out, PE.out]
  have h3' := hA.trans h3
  have HX := Lib.hid (hX.keep h3)
  replace HM := Lib.hid (HM.out.keep h3')
  replace HN := Lib.hid (HN.out.trans h3')
  replace HP := Lib.hid (HP.out.keep h3')
  clear h3 h3' hA hX
  have d0 := fun o => cell_alloc HP.out.all.1 o
  have d1 := fun o => cell_alloc HP.out.all.2.1 o
  have d2 := fun o => cell_alloc HP.out.all.2.2.1 o
  have d3 := fun o => cell_alloc HP.out.all.2.2.2.1 o
  go_wp2_with fail
  have hY := PartsIn.new w3 (B x.area) (B x.pre) (B x.suf) (B x.stroke)
  have hA := (New.refl w3).alloc (.cells #[.string (B x.area), .string (B x.pre), .string (B x.suf), .string (B x.stroke)] 32)
  refine (air_Join a p q r _ (HM.out.keep hA) (by omega)).mono ?_
  rintro e w4 ⟨rfl, h4⟩
  rw [JT.out, JE.out]
  have h4' := hA.trans h4
  have HY := Lib.hid (hY.keep h4)
  replace HX := Lib.hid (HX.out.keep h4')
  replace HM := Lib.hid (HM.out.keep h4')
  replace HN := Lib.hid (HN.out.trans h4')
  replace HP := Lib.hid (HP.out.keep h4')
  clear h4 h4' hA hY d0 d1 d2 d3
  obtain ⟨c0, c1, c2, c3, -, -, -, -⟩ := HP.out.all
  go_wp2_with fail
  refine (ref_Join a p q r _ (by omega)).mono ?_
  rintro e w5 ⟨rfl, h5⟩
  rw [JT.out, JE.out]
  replace HX := Lib.hid (HX.out.keep h5)
  replace HY := Lib.hid (HY.out.keep h5)
  replace HM := Lib.hid (HM.out.keep h5)
  replace HN := Lib.hid (HN.out.trans h5)
  clear h5 c0 c1 c2 c3 HP
  go_wp2_with fail
  refine (air_ValidCall s _ HM.out (by omega)).mono ?_
  rintro e w6 ⟨rfl, h6⟩
  rw [VC.out]
  replace HX := Lib.hid (HX.out.keep h6)
  replace HY := Lib.hid (HY.out.keep h6)
  replace HM := Lib.hid (HM.out.keep h6)
  replace HN := Lib.hid (HN.out.trans h6)
  clear h6
  go_wp2_with fail
  refine (ref_ValidCall s _ (by omega)).mono ?_
  rintro e w7 ⟨rfl, h7⟩
  rw [VC.out]
  replace HX := Lib.hid (HX.out.keep h7)
  replace HY := Lib.hid (HY.out.keep h7)
  replace HM := Lib.hid (HM.out.keep h7)
  replace HN := Lib.hid (HN.out.trans h7)
  clear h7
  obtain ⟨c0, c1, c2, c3, -, -, -, -⟩ := HX.out.all
  obtain ⟨e0, e1, e2, e3, -, -, -, -⟩ := HY.out.all
  have hvv : (vc != vc) = false := by cases vc <;> rfl
  go_wp2_with fail
  clear c0 c1 c2 c3 e0 e1 e2 e3 hvv HX HY
  refine (air_Base s _ HM.out (by omega)).mono ?_
  rintro e w8 ⟨rfl, h8⟩
  rw [BT.out, PE.out]
  replace HM := Lib.hid (HM.out.keep h8)
  replace HN := Lib.hid (HN.out.trans h8)
  clear h8
  go_wp2_with fail
  refine (ref_Base s _ (by omega)).mono ?_
  rintro e w9 ⟨rfl, h9⟩
  rw [BT.out, PE.out]
  replace HM := Lib.hid (HM.out.keep h9)
  replace HN := Lib.hid (HN.out.trans h9)
  clear h9
  go_wp2_with fail
  refine (air_Same s t _ HM.out (by omega) (by omega)).mono ?_
  rintro e w10 ⟨rfl, h10⟩
  rw [SB.out, SE.out]
  replace HM := Lib.hid (HM.out.keep h10)
  replace HN := Lib.hid (HN.out.trans h10)
  clear h10
  go_wp2_with fail
  refine (ref_Same s t _ (by omega) (by omega)).mono ?_
  rintro e w11 ⟨rfl, h11⟩
  rw [SB.out, SE.out]
  replace HM := Lib.hid (HM.out.keep h11)
  replace HN := Lib.hid (HN.out.trans h11)
  clear h11
  go_wp2_with fail
  refine (air_PrefixOf s _ HM.out (by omega)).mono ?_
  rintro e w12 ⟨rfl, h12⟩
  rw [FT.out, PE.out]
  replace HM := Lib.hid (HM.out.keep h12)
  replace HN := Lib.hid (HN.out.trans h12)
  clear h12
  go_wp2_with fail
  refine (ref_PrefixOf s _ (by omega)).mono ?_
  rintro e w13 ⟨rfl, h13⟩
  rw [FT.out, PE.out]
  replace HN := Lib.hid (HN.out.trans h13)
  clear h13
  go_wp2_with fail
  go_ret
  exact ⟨rfl, HN.out⟩
theorem law_calls_at (s t x y z u : ByteArray) (w : World) (hm : HasMax w) (hs : s.size ≤ 9223372036854775807) (ht : t.size ≤ 9223372036854775807) (hx : x.size ≤ 140737488355328) (hy : y.size ≤ 140737488355328) (hz : z.size ≤ 140737488355328) (hu : u.size ≤ 140737488355328) :
    Calls Tryd.prog 4 #[.string s, .string t, .agg #[.string x, .string y, .string z, .string u]] w fun e w' => e = .returned (.bool true) ∧ New w w' := by
  have h := law_calls s t (bs x) (bs y) (bs z) (bs u) w hm hs ht (by rw [bs_size]; exact hx) (by rw [bs_size]; exact hy) (by rw [bs_size]; exact hz) (by rw [bs_size]; exact hu)
  simpa only [B_bs] using h
theorem cells_parts : Tryd.prog.cellsOf 32 = 4 := by kernel_rfl
theorem cells_string : Tryd.prog.cellsOf 9 = 1 := by kernel_rfl
set_option maxRecDepth 100000 in
theorem open_parts {H : Type} {enc : TypeId × Value → H} {W : World} {base : Nat} {v : Value} {d : DataW H} {p : List MemPlace} (hv : Value.okWide Tryd.prog W .any base 32 v) (h : DataW.Trod enc Tryd.prog W 0 (fun _ => true) true 32 v d p) :
    ∃ x y z u : ByteArray, v = .agg #[.string x, .string y, .string z, .string u] ∧ d = .agg [.lit (.string x.data.toList), .lit (.string y.data.toList), .lit (.string z.data.toList), .lit (.string u.data.toList)] := by
  obtain ⟨v0, v1, v2, v3, y0, y1, y2, y3, n, rfl, rfl, _, g0, g1, g2, g3⟩ := Go.Joins.open_agg4 Tryd.underlying32 (by kernel_rfl) cells_parts hv h
  obtain ⟨x, e0, rfl, _⟩ := DataW.trod_string Tryd.underlying9 g0
  obtain ⟨y, e1, rfl, _⟩ := DataW.trod_string Tryd.underlying9 g1
  obtain ⟨z, e2, rfl, _⟩ := DataW.trod_string Tryd.underlying9 g2
  obtain ⟨u, e3, rfl, _⟩ := DataW.trod_string Tryd.underlying9 g3
  simp at e0 e1 e2 e3
  subst e0 e1 e2 e3
  exact ⟨x, y, z, u, rfl, rfl⟩
theorem sizes {H : Type} {x y z u s t : ByteArray} {more : List TypeId} {gs : List (DataW H)}
    (h : (DataW.weightsEach Tryd.prog (#[9, 9, 32].toList ++ more) ([.lit (.string s.data.toList), .lit (.string t.data.toList), .agg [.lit (.string x.data.toList), .lit (.string y.data.toList), .lit (.string z.data.toList), .lit (.string u.data.toList)]] ++ gs)).all (· ≤ reachBytes) = true) :
    x.size ≤ 140737488355328 ∧ y.size ≤ 140737488355328 ∧ z.size ≤ 140737488355328 ∧ u.size ≤ 140737488355328 := by
  have hr : reachBytes ≤ 140737488355328 := by decide
  have e : ∀ b : ByteArray, b.size = b.data.toList.length := fun b => by simp
  simp only [List.cons_append, DataW.weightsEach, DataW.weights, Tryd.underlying32, List.map_cons, List.map_nil, List.all_append, List.all_cons, List.all_nil, Bool.and_eq_true, decide_eq_true_eq] at h
  rw [e x, e y, e z, e u]
  obtain ⟨hs, -, ht, -, hx, ⟨-, hy, -, hz, -, hu, -⟩, -⟩ := h
  exact ⟨Nat.le_trans hx hr, Nat.le_trans hy hr, Nat.le_trans hz hr, Nat.le_trans hu hr⟩
namespace LawCalls
theorem reads : ∀ t ∈ Tryd.f4.params.toList, Tryd.prog.readableRec t = true ∧ t < Tryd.prog.types.size := by
  rw [Tryd.params4]
  intro t ht
  have ht : t = 9 ∨ t = 32 := by simpa using ht
  rcases ht with rfl | rfl
  · exact ⟨by kernel_rfl, of_decide_eq_true (by kernel_rfl)⟩
  · exact ⟨by kernel_rfl, of_decide_eq_true (by kernel_rfl)⟩
set_option maxRecDepth 100000 in
theorem contract (H : Type) (enc : TypeId × Value → H) (W : World) (base : Nat) (args : Array Value) (ds gs : List (DataW H)) (before : List MemPlace)
    (hval : ∀ (j : Nat) t v, Tryd.f4.params[j]? = some t → args[j]? = some v → Value.okWide Tryd.prog W .any base t v)
    (hW : DataW.Whole enc Tryd.prog Tryd.f4.params.toList Rows.airCallsSpec.vars false W args.toList ds gs before) (hS : W.ShapedOpen Tryd.prog) (hsz : (DataW.weightsEach Tryd.prog (Tryd.f4.params.toList ++ (OpenSpec.ofChange Rows.airCallsSpec).bare.plain.varTypes Tryd.prog) (ds ++ gs)).all (· ≤ reachBytes) = true) :
    Calls Tryd.prog 4 args W fun e W' => ∃ v, e = .returned v ∧ Rows.airCallsSpec.post enc Tryd.prog Tryd.f4 false true false false W args v W' := by
  have hW' := hW
  obtain ⟨p, q, hA0, hV, rfl, hfz, hnd⟩ := hW
  have hA : DataW.TrodAll enc Tryd.prog W 0 (fun _ => true) true Tryd.f4.params.toList args.toList ds p := hA0
  rw [Tryd.params4] at hA hval hsz
  obtain ⟨v0, vs0, d0, ds0, p0, q0, hargs, rfl, rfl, h0, r0⟩ := trodAll_cons hA
  obtain ⟨v1, vs1, d1, ds1, p1, q1, rfl, rfl, rfl, h1, r1⟩ := trodAll_cons r0
  obtain ⟨v2, vs2, d2, ds2, p2, q2, rfl, rfl, rfl, h2, r2⟩ := trodAll_cons r1
  obtain ⟨rfl, rfl, rfl⟩ := trodAll_nil r2
  obtain rfl : args = #[v0, v1, v2] := by cases args; simp_all
  obtain ⟨rfl, rfl⟩ := trodVars_none hV
  have hv0 := hval 0 9 v0 rfl rfl
  have hv1 := hval 1 9 v1 rfl rfl
  have hv2 := hval 2 32 v2 rfl rfl
  clear hval
  obtain ⟨a0, rfl, rfl, rfl, hb0⟩ := Go.ChangeMaps.open_string Tryd.underlying9 hv0 h0
  obtain ⟨a1, rfl, rfl, rfl, hb1⟩ := Go.ChangeMaps.open_string Tryd.underlying9 hv1 h1
  obtain ⟨x2, y2, z2, u2, rfl, rfl⟩ := open_parts hv2 h2
  refine (law_calls_at a0 a1 x2 y2 z2 u2 W (max_of_shaped hS) hb0 hb1 (sizes hsz).1 (sizes hsz).2.1 (sizes hsz).2.2.1 (sizes hsz).2.2.2).mono fun e W' ⟨he, hb⟩ => ?_
  subst he
  exact ⟨_, rfl, post_true hW' rfl (by kernel_rfl) ⟨rfl, rfl, rfl⟩ reads hb⟩
theorem laid_met (os : Os) : laidMet Tryd.prog Rows.airCallsRow.laid ((laidWorld os).forCall (fun _ _ => 0) ⟨#[], #[.string ⟨#[]⟩, .string ⟨#[]⟩, .agg #[.string ⟨#[]⟩, .string ⟨#[]⟩, .string ⟨#[]⟩, .string ⟨#[]⟩]], []⟩).memory :=
  laidMet_of_run' 8 (by kernel_rfl) (by kernel_rfl)
theorem reads_w (os : Os) {H : Type} (enc : TypeId × Value → H) : ∃ places, DataW.whole enc Tryd.prog ((laidWorld os).forCall (fun _ _ => 0) ⟨#[], #[.string ⟨#[]⟩, .string ⟨#[]⟩, .agg #[.string ⟨#[]⟩, .string ⟨#[]⟩, .string ⟨#[]⟩, .string ⟨#[]⟩]], []⟩).memory Tryd.f4.params.toList Rows.airCallsSpec.vars false #[Value.string ⟨#[]⟩, .string ⟨#[]⟩, .agg #[.string ⟨#[]⟩, .string ⟨#[]⟩, .string ⟨#[]⟩, .string ⟨#[]⟩]].toList 8 = some ([.lit (.string []), .lit (.string []), .agg [.lit (.string []), .lit (.string []), .lit (.string []), .lit (.string [])]], [], places) :=
  ⟨[], by kernel_rfl⟩
set_option maxRecDepth 100000 in
theorem lifted (os : Os) (started : os.Started) (H : Type) (enc : TypeId × Value → H) (F : Stop.Interp) :
    ReturnsInHanded {} Tryd.checked os 4 .any ((OpenSpec.ofChange Rows.airCallsSpec).preRow enc Tryd.prog Tryd.f4 Rows.airCallsRow.domain false Rows.airCallsRow.laid) (((OpenSpec.ofChange Rows.airCallsSpec).at F).post enc Tryd.prog Tryd.f4 false true false false) := by
  obtain ⟨places, hx⟩ := reads_w os enc
  refine returnsInHanded_of_row (C := Tryd.checked) (s := OpenSpec.ofChange Rows.airCallsSpec) row_own started (by kernel_rfl) Tryd.func4
    (witness_row_at (enc := enc) (C := Tryd.checked) false (laidWorld os) #[.string ⟨#[]⟩, .string ⟨#[]⟩, .agg #[.string ⟨#[]⟩, .string ⟨#[]⟩, .string ⟨#[]⟩, .string ⟨#[]⟩]] rfl (by kernel_rfl) (by kernel_rfl) (by kernel_rfl)
      (OpenSpec.preRow_of_cond 8 hx (by kernel_rfl) (fun k hk => by cases hk) (by kernel_rfl) (laid_met os))) ?_
  intro W base args ds gs before hval hW _ _ hsz _ hS _
  exact contract H enc W base args ds gs before hval hW hS hsz
theorem said : Rows.AirCallsSaid :=
  OpenClaim.holds_of_cond 4 Tryd.f4 rfl rfl rfl rfl rfl rfl rfl ⟨rfl, rfl, rfl, rfl, rfl⟩ rfl rfl rfl rfl rfl (by kernel_rfl) Tryd.func4 (by kernel_rfl)
    (of_decide_eq_true (by kernel_rfl)) (by unfold Func.isWrapper; first | (rw [if_pos (by decide +kernel)]; kernel_rfl) | (rw [if_neg (by decide +kernel)]; exact ⟨rfl, rfl⟩))
    (fun os started H enc _ F => by rw [OpenClaim.pre_eq_preRow]; exact lifted os started H enc F)
theorem plain (f : FuncId) (fn : Func) (hf : Tryd.pinned.checked.prog.funcNamed "pileup/pileuplaw01.AirCalls" = some f) (hfn : Tryd.pinned.checked.prog.funcs[f]? = some fn) :
    false = Tryd.pinned.checked.prog.looks [] ∧ ∀ (j : Nat) t, fn.params[j]? = some t → Tryd.pinned.checked.prog.wantsStandIn t = false := by
  obtain rfl : f = 4 := Option.some.inj ((show Tryd.prog.funcNamed "pileup/pileuplaw01.AirCalls" = some 4 by kernel_rfl).symm.trans hf) |>.symm
  obtain rfl : fn = Tryd.f4 := (Option.some.inj (Tryd.func4.symm.trans hfn)).symm
  refine ⟨by kernel_rfl, fun j t ht => ?_⟩
  rw [Tryd.params4] at ht
  have ht : t = 9 ∨ t = 32 := by simpa using Array.mem_of_getElem? ht
  rcases ht with rfl | rfl
  · exact (show Tryd.prog.wantsStandIn 9 = false by kernel_rfl)
  · exact (show Tryd.prog.wantsStandIn 32 = false by kernel_rfl)
theorem card : Rows.AirCallsCardSaid :=
  Claim7.holds_tied_plain_at .later [] _ _ _ _ said (fun _ h => by cases h) (by kernel_rfl) (fun _ h => by cases h) airCalls_row_tie rfl ⟨rfl, rfl⟩ (by kernel_rfl) rfl plain (by kernel_rfl)
end LawCalls

end Go.Proofs.YtcaljokcgfkppaaDoor
