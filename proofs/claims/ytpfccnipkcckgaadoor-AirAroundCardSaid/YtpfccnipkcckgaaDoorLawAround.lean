/-
  The law AirAround returns true for all parts and all two texts, and leaves them as they were. Conditions: those of its given row and card, no other.
-/
import Derived.Test.YtpfccnipkcckgaaDoorJoin
import Derived.Test.YtpfccnipkcckgaaDoorRow
import Derived.ChangeMaps5
import Derived.Lib.SmallJoins
import Derived.SizedLaws
namespace Go.Proofs.YtpfccnipkcckgaaDoor
open Go.RowKit
open Go.ChangeShapes Go.WideShapes Go.ChangeAt Go.Deep
theorem joinV_some {q : P4} {l : Bytes} (h : joinV q = some l) : splitV l = some q ∧ l.length ≤ q.area.length + q.pre.length + q.suf.length + q.stroke.length + 2 := by
  unfold joinV at h
  split at h
  · injection h with h
    subst h
    rename_i h2
    refine ⟨h2, ?_⟩
    simp only [joinL]
    split <;> split <;> simp <;> omega
  · cases h
set_option maxRecDepth 4000 in
set_option maxHeartbeats 4000000 in
theorem law_around (a p q r ar st : Bytes) (w : World) (hm : HasMax w) (ha : a.length ≤ 140737488355328) (hp : p.length ≤ 140737488355328) (hq : q.length ≤ 140737488355328) (hr : r.length ≤ 140737488355328) (har : ar.length ≤ 140737488355328) (hst : st.length ≤ 140737488355328) :
    Calls Tryd.prog 8 #[.agg #[.string (B a), .string (B p), .string (B q), .string (B r)], .string (B ar), .string (B st)] w fun e w' => e = .returned (.bool true) ∧ New w w' := by
  have HA := Lib.hid ha
  have HP := Lib.hid hp
  have HQ := Lib.hid hq
  have HR := Lib.hid hr
  have HAR := Lib.hid har
  have HST := Lib.hid hst
  have HMx := Lib.hid hm
  clear ha hp hq hr har hst hm
  go_enter Tryd.func8, Tryd.ntmps8
  go_wp2_with fail
  have hP := PartsIn.new w (B a) (B p) (B q) (B r)
  have hm := HMx.out.keep ((New.refl w).alloc (.cells #[.string (B a), .string (B p), .string (B q), .string (B r)] 32))
  refine (law_awake _ hm).mono ?_
  rintro e w1 ⟨rfl, h1⟩
  have HP1 := Lib.hid (hP.keep h1)
  have HM := Lib.hid (hm.keep h1)
  have HN := Lib.hid (((New.refl w).alloc (.cells #[.string (B a), .string (B p), .string (B q), .string (B r)] 32)).trans h1)
  clear h1 hP hm
  obtain ⟨c0, c1, c2, c3, -, -, -, -⟩ := HP1.out.all
  have sa := B_size a
  have sp := B_size p
  have sq := B_size q
  have sr := B_size r
  have sar := B_size ar
  have sst := B_size st
  have ha := HA.out
  have hp := HP.out
  have hq := HQ.out
  have hr := HR.out
  have har := HAR.out
  have hst := HST.out
  by_cases hbig : 1000 < a.length + p.length + q.length + r.length + ar.length + st.length
  · go_wp2_with fail
    go_ret
    exact ⟨rfl, HN.out⟩
  · clear ha hp hq hr har hst
    go_wp2_with fail
    refine (air_Join a p q r w1 HM.out (by omega)).mono ?_
    rintro e w2 ⟨rfl, h2⟩
    replace HM := Lib.hid (HM.out.keep h2)
    replace HN := Lib.hid (HN.out.trans h2)
    replace HP1 := Lib.hid (HP1.out.keep h2)
    clear h2 c0 c1 c2 c3
    obtain ⟨c0, c1, c2, c3, -, -, -, -⟩ := HP1.out.all
    go_wp2_with fail
    have hP2 := PartsIn.new w2 (B ar) (B p) (B q) (B st)
    refine (air_Join ar p q st _ (HM.out.keep ((New.refl _).alloc _)) (by omega)).mono ?_
    rintro e w3 ⟨rfl, h3⟩
    have HP2 := Lib.hid (hP2.keep h3)
    replace HM := Lib.hid ((HM.out.keep ((New.refl w2).alloc (.cells #[.string (B ar), .string (B p), .string (B q), .string (B st)] 32))).keep h3)
    replace HN := Lib.hid ((HN.out.trans ((New.refl w2).alloc (.cells #[.string (B ar), .string (B p), .string (B q), .string (B st)] 32))).trans h3)
    clear h3 hP2 c0 c1 c2 c3 HP1
    cases h2 : joinV ⟨ar, p, q, st⟩ with
    | none =>
      clear h2
      simp only [textV, errV]
      cases h1 : joinV ⟨a, p, q, r⟩ with
      | none =>
        clear h1
        simp only []
        go_wp2_with fail
        go_ret
        exact ⟨rfl, HN.out⟩
      | some l1 =>
        clear h1
        simp only []
        go_wp2_with fail
        go_ret
        exact ⟨rfl, HN.out⟩
    | some l2 =>
      obtain ⟨hs2, hl2⟩ := joinV_some h2
      have HS2 := Lib.hid hs2
      clear h2 hs2
      simp only at hl2
      simp only [textV, errV]
      obtain ⟨c0, c1, c2, c3, -, -, -, -⟩ := HP2.out.all
      cases h1 : joinV ⟨a, p, q, r⟩ with
      | none =>
        clear h1
        simp only []
        go_wp2_with fail
        refine (air_Split (B l2) w3 HM.out (by rw [B_size]; omega)).mono ?_
        rw [bs_B, HS2.out]
        simp only [p4V, p4E, partsV]
        rintro e w4 ⟨rfl, h4⟩
        replace HN := Lib.hid (HN.out.trans h4)
        clear c0 c1 c2 c3
        obtain ⟨c0, c1, c2, c3, -, -, -, -⟩ := (HP2.out.keep h4).all
        have d0 := fun o => cell_alloc c0 o
        have d1 := fun o => cell_alloc c1 o
        have d2 := fun o => cell_alloc c2 o
        have d3 := fun o => cell_alloc c3 o
        clear h4
        go_wp2_with fail
        go_ret
        exact ⟨rfl, HN.out.alloc _⟩
      | some l1 =>
        obtain ⟨hs1, hl1⟩ := joinV_some h1
        have HS1 := Lib.hid hs1
        clear h1 hs1
        simp only at hl1
        simp only []
        go_wp2_with fail
        refine (air_Split (B l2) w3 HM.out (by rw [B_size]; omega)).mono ?_
        rw [bs_B, HS2.out]
        simp only [p4V, p4E, partsV]
        rintro e w4 ⟨rfl, h4⟩
        replace HM := Lib.hid (HM.out.keep h4)
        replace HN := Lib.hid (HN.out.trans h4)
        clear c0 c1 c2 c3
        obtain ⟨c0, c1, c2, c3, -, -, -, -⟩ := (HP2.out.keep h4).all
        have d0 := fun o => cell_alloc c0 o
        have d1 := fun o => cell_alloc c1 o
        have d2 := fun o => cell_alloc c2 o
        have d3 := fun o => cell_alloc c3 o
        clear h4
        go_wp2_with fail
        refine (air_Same (B l1) (B l2) _ (HM.out.keep ((New.refl _).alloc _)) (by rw [B_size]; omega) (by rw [B_size]; omega)).mono ?_
        have es : sameV (some ⟨a, p, q, r⟩) (some ⟨ar, p, q, st⟩) = (true, 0) := by simp [sameV, baseV]
        rw [bs_B, bs_B, HS1.out, HS2.out, es]
        rintro e w5 ⟨rfl, h5⟩
        have hfin := (HN.out.alloc _).trans h5
        clear h5 es
        go_wp2_with fail
        go_ret
        exact ⟨rfl, hfin⟩

theorem law_around_at (x y z u s t : ByteArray) (w : World) (hm : HasMax w) (hx : x.size ≤ 140737488355328) (hy : y.size ≤ 140737488355328) (hz : z.size ≤ 140737488355328) (hu : u.size ≤ 140737488355328) (hs : s.size ≤ 140737488355328) (ht : t.size ≤ 140737488355328) :
    Calls Tryd.prog 8 #[.agg #[.string x, .string y, .string z, .string u], .string s, .string t] w fun e w' => e = .returned (.bool true) ∧ New w w' := by
  have h := law_around (bs x) (bs y) (bs z) (bs u) (bs s) (bs t) w hm (by rw [bs_size]; exact hx) (by rw [bs_size]; exact hy) (by rw [bs_size]; exact hz) (by rw [bs_size]; exact hu) (by rw [bs_size]; exact hs) (by rw [bs_size]; exact ht)
  simpa only [B_bs] using h
theorem cells_parts : Tryd.prog.cellsOf 32 = 4 := by kernel_rfl
theorem cells_string : Tryd.prog.cellsOf 9 = 1 := by kernel_rfl
set_option maxRecDepth 100000 in
theorem open_parts {H : Type} {enc : TypeId × Value → H} {W : World} {base : Nat} {v : Value} {d : DataW H} {p : List MemPlace} (hv : Value.okWide Tryd.prog W .any base 32 v) (h : DataW.Trod enc Tryd.prog W 0 (fun _ => true) true 32 v d p) :
    ∃ x y z u : ByteArray, v = .agg #[.string x, .string y, .string z, .string u] ∧ d = .agg [.lit (.string x.data.toList), .lit (.string y.data.toList), .lit (.string z.data.toList), .lit (.string u.data.toList)] := by
  obtain ⟨v0, v1, v2, v3, y0, y1, y2, y3, n, rfl, rfl, _, g0, g1, g2, g3⟩ := Go.Joins.open_agg4 Tryd.underlying32 (by kernel_rfl) cells_parts hv h
  obtain ⟨x, e0, rfl, _⟩ := DataW.trod_string Tryd.underlying9 g0
  obtain ⟨y, e1, rfl, _⟩ := DataW.trod_string Tryd.underlying9 g1
  obtain ⟨z, e2, rfl, _⟩ := DataW.trod_string Tryd.underlying9 g2
  obtain ⟨u, e3, rfl, _⟩ := DataW.trod_string Tryd.underlying9 g3
  simp at e0 e1 e2 e3
  subst e0 e1 e2 e3
  exact ⟨x, y, z, u, rfl, rfl⟩
theorem sizes {H : Type} {x y z u s t : ByteArray} {more : List TypeId} {gs : List (DataW H)}
    (h : (DataW.weightsEach Tryd.prog (#[32, 9, 9].toList ++ more) ([.agg [.lit (.string x.data.toList), .lit (.string y.data.toList), .lit (.string z.data.toList), .lit (.string u.data.toList)], .lit (.string s.data.toList), .lit (.string t.data.toList)] ++ gs)).all (· ≤ reachBytes) = true) :
    x.size ≤ 140737488355328 ∧ y.size ≤ 140737488355328 ∧ z.size ≤ 140737488355328 ∧ u.size ≤ 140737488355328 ∧ s.size ≤ 140737488355328 ∧ t.size ≤ 140737488355328 := by
  have hr : reachBytes ≤ 140737488355328 := by decide
  have e : ∀ b : ByteArray, b.size = b.data.toList.length := fun b => by simp
  simp only [List.cons_append, DataW.weightsEach, DataW.weights, Tryd.underlying32, List.map_cons, List.map_nil, List.all_append, List.all_cons, List.all_nil, Bool.and_eq_true, decide_eq_true_eq] at h
  rw [e x, e y, e z, e u, e s, e t]
  obtain ⟨hx, ⟨-, hy, -, hz, -, hu, -⟩, hs, -, ht, -⟩ := h
  exact ⟨Nat.le_trans hx hr, Nat.le_trans hy hr, Nat.le_trans hz hr, Nat.le_trans hu hr, Nat.le_trans hs hr, Nat.le_trans ht hr⟩
namespace fnAround
theorem reads : ∀ t ∈ Tryd.f8.params.toList, Tryd.prog.readableRec t = true ∧ t < Tryd.prog.types.size := by
  rw [Tryd.params8]
  intro t ht
  have ht : t = 32 ∨ t = 9 := by simpa using ht
  rcases ht with rfl | rfl
  · exact ⟨by kernel_rfl, of_decide_eq_true (by kernel_rfl)⟩
  · exact ⟨by kernel_rfl, of_decide_eq_true (by kernel_rfl)⟩
set_option maxRecDepth 100000 in
theorem contract (H : Type) (enc : TypeId × Value → H) (W : World) (base : Nat) (args : Array Value) (ds gs : List (DataW H)) (before : List MemPlace)
    (hval : ∀ (j : Nat) t v, Tryd.f8.params[j]? = some t → args[j]? = some v → Value.okWide Tryd.prog W .any base t v)
    (hW : DataW.Whole enc Tryd.prog Tryd.f8.params.toList Rows.airAroundSpec.vars false W args.toList ds gs before) (hS : W.ShapedOpen Tryd.prog) (hsz : (DataW.weightsEach Tryd.prog (Tryd.f8.params.toList ++ (OpenSpec.ofChange Rows.airAroundSpec).bare.plain.varTypes Tryd.prog) (ds ++ gs)).all (· ≤ reachBytes) = true) :
    Calls Tryd.prog 8 args W fun e W' => ∃ v, e = .returned v ∧ Rows.airAroundSpec.post enc Tryd.prog Tryd.f8 false true false false W args v W' := by
  have hW' := hW
  obtain ⟨p, q, hA0, hV, rfl, hfz, hnd⟩ := hW
  have hA : DataW.TrodAll enc Tryd.prog W 0 (fun _ => true) true Tryd.f8.params.toList args.toList ds p := hA0
  rw [Tryd.params8] at hA hval hsz
  obtain ⟨v0, vs0, d0, ds0, p0, q0, hargs, rfl, rfl, h0, r0⟩ := trodAll_cons hA
  obtain ⟨v1, vs1, d1, ds1, p1, q1, rfl, rfl, rfl, h1, r1⟩ := trodAll_cons r0
  obtain ⟨v2, vs2, d2, ds2, p2, q2, rfl, rfl, rfl, h2, r2⟩ := trodAll_cons r1
  obtain ⟨rfl, rfl, rfl⟩ := trodAll_nil r2
  obtain rfl : args = #[v0, v1, v2] := by cases args; simp_all
  obtain ⟨rfl, rfl⟩ := trodVars_none hV
  have hv0 := hval 0 32 v0 rfl rfl
  have hv1 := hval 1 9 v1 rfl rfl
  have hv2 := hval 2 9 v2 rfl rfl
  clear hval
  obtain ⟨x0, y0, z0, u0, rfl, rfl⟩ := open_parts hv0 h0
  obtain ⟨a1, rfl, rfl, rfl, hb1⟩ := Go.ChangeMaps.open_string Tryd.underlying9 hv1 h1
  obtain ⟨a2, rfl, rfl, rfl, hb2⟩ := Go.ChangeMaps.open_string Tryd.underlying9 hv2 h2
  have hz := sizes hsz
  refine (law_around_at x0 y0 z0 u0 a1 a2 W (max_of_shaped hS) hz.1 hz.2.1 hz.2.2.1 hz.2.2.2.1 hz.2.2.2.2.1 hz.2.2.2.2.2).mono fun e W' ⟨he, hb⟩ => ?_
  subst he
  exact ⟨_, rfl, post_true hW' rfl (by kernel_rfl) ⟨rfl, rfl, rfl⟩ reads hb⟩
theorem laid_met (os : Os) : laidMet Tryd.prog Rows.airAroundRow.laid ((laidWorld os).forCall (fun _ _ => 0) ⟨#[], #[.agg #[.string ⟨#[]⟩, .string ⟨#[]⟩, .string ⟨#[]⟩, .string ⟨#[]⟩], .string ⟨#[]⟩, .string ⟨#[]⟩], []⟩).memory :=
  laidMet_of_run' 8 (by kernel_rfl) (by kernel_rfl)
theorem reads_w (os : Os) {H : Type} (enc : TypeId × Value → H) : ∃ places, DataW.whole enc Tryd.prog ((laidWorld os).forCall (fun _ _ => 0) ⟨#[], #[.agg #[.string ⟨#[]⟩, .string ⟨#[]⟩, .string ⟨#[]⟩, .string ⟨#[]⟩], .string ⟨#[]⟩, .string ⟨#[]⟩], []⟩).memory Tryd.f8.params.toList Rows.airAroundSpec.vars false #[Value.agg #[.string ⟨#[]⟩, .string ⟨#[]⟩, .string ⟨#[]⟩, .string ⟨#[]⟩], .string ⟨#[]⟩, .string ⟨#[]⟩].toList 8 = some ([.agg [.lit (.string []), .lit (.string []), .lit (.string []), .lit (.string [])], .lit (.string []), .lit (.string [])], [], places) :=
  ⟨[], by kernel_rfl⟩
set_option maxRecDepth 100000 in
theorem lifted (os : Os) (started : os.Started) (H : Type) (enc : TypeId × Value → H) (F : Stop.Interp) :
    ReturnsInHanded {} Tryd.checked os 8 .any ((OpenSpec.ofChange Rows.airAroundSpec).preRow enc Tryd.prog Tryd.f8 Rows.airAroundRow.domain false Rows.airAroundRow.laid) (((OpenSpec.ofChange Rows.airAroundSpec).at F).post enc Tryd.prog Tryd.f8 false true false false) := by
  obtain ⟨places, hx⟩ := reads_w os enc
  refine returnsInHanded_of_row (C := Tryd.checked) (s := OpenSpec.ofChange Rows.airAroundSpec) row_own started (by kernel_rfl) Tryd.func8
    (witness_row_at (enc := enc) (C := Tryd.checked) false (laidWorld os) #[.agg #[.string ⟨#[]⟩, .string ⟨#[]⟩, .string ⟨#[]⟩, .string ⟨#[]⟩], .string ⟨#[]⟩, .string ⟨#[]⟩] rfl (by kernel_rfl) (by kernel_rfl) (by kernel_rfl)
      (OpenSpec.preRow_of_cond 8 hx (by kernel_rfl) (fun k hk => by cases hk) (by kernel_rfl) (laid_met os))) ?_
  intro W base args ds gs before hval hW _ _ hsz _ hS _
  exact contract H enc W base args ds gs before hval hW hS hsz
theorem said : Rows.AirAroundSaid :=
  OpenClaim.holds_of_cond 8 Tryd.f8 rfl rfl rfl rfl rfl rfl rfl ⟨rfl, rfl, rfl, rfl, rfl⟩ rfl rfl rfl rfl rfl (by kernel_rfl) Tryd.func8 (by kernel_rfl)
    (of_decide_eq_true (by kernel_rfl)) (by unfold Func.isWrapper; first | (rw [if_pos (by decide +kernel)]; kernel_rfl) | (rw [if_neg (by decide +kernel)]; exact ⟨rfl, rfl⟩))
    (fun os started H enc _ F => by rw [OpenClaim.pre_eq_preRow]; exact lifted os started H enc F)
theorem plain (f : FuncId) (fn : Func) (hf : Tryd.pinned.checked.prog.funcNamed "pileup/pileuplaw01.AirAround" = some f) (hfn : Tryd.pinned.checked.prog.funcs[f]? = some fn) :
    false = Tryd.pinned.checked.prog.looks [] ∧ ∀ (j : Nat) t, fn.params[j]? = some t → Tryd.pinned.checked.prog.wantsStandIn t = false := by
  obtain rfl : f = 8 := Option.some.inj ((show Tryd.prog.funcNamed "pileup/pileuplaw01.AirAround" = some 8 by kernel_rfl).symm.trans hf) |>.symm
  obtain rfl : fn = Tryd.f8 := (Option.some.inj (Tryd.func8.symm.trans hfn)).symm
  refine ⟨by kernel_rfl, fun j t ht => ?_⟩
  rw [Tryd.params8] at ht
  have ht : t = 32 ∨ t = 9 := by simpa using Array.mem_of_getElem? ht
  rcases ht with rfl | rfl
  · exact (show Tryd.prog.wantsStandIn 32 = false by kernel_rfl)
  · exact (show Tryd.prog.wantsStandIn 9 = false by kernel_rfl)
theorem card : Rows.AirAroundCardSaid :=
  Claim7.holds_tied_plain_at .later [] _ _ _ _ said (fun _ h => by cases h) (by kernel_rfl) (fun _ h => by cases h) airAround_row_tie rfl ⟨rfl, rfl⟩ (by kernel_rfl) rfl plain (by kernel_rfl)
end fnAround

end Go.Proofs.YtpfccnipkcckgaaDoor
