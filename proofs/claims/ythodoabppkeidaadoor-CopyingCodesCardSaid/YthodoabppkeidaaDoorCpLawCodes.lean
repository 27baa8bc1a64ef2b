/-
  CopyingCodes: each character has a code of its own that leads back to it, and one family. Condition: the tables lie in memory as the program's text lays them.
-/
import Derived.Test.YthodoabppkeidaaDoorCpChar
import Derived.Test.YthodoabppkeidaaDoorCpApart
import Derived.Test.YthodoabppkeidaaDoorCpLaid
namespace Go.Proofs.YthodoabppkeidaaDoor
open Go Go.RowKit
open Go.ChangeShapes Go.WideShapes Go.ChangeAt Go.Deep
/-- The families as the program's text lays them. -/
def famsL : List Bytes := [[66, 67, 68, 69, 71, 80, 84, 86, 90, 51], [65, 72, 74, 75, 56], [70, 76, 77, 78, 83, 88, 55], [73, 89, 53, 57], [81, 85, 87, 50], [79, 48, 49, 52], [82, 54, 47]]
theorem fams_lt_fin : ∀ k : Fin 37, famOf famsL k.val < 7 := by decide +kernel
theorem fams_lt {k : Nat} (h : k < 37) : famOf famsL k < 7 := fams_lt_fin ⟨k, h⟩
/-- Whether a text is one of the first characters. -/
def isB (c : Bytes) : Nat → Bool
  | 0 => false
  | j + 1 => isB c j || decide (c = [charOf j])
theorem isB_some {c : Bytes} {k : Nat} (h : keyC c = some k) : ∀ {n : Nat}, k < n → isB c n = true
  | n + 1, hk => by
    rw [isB]
    by_cases e : k = n
    · subst e
      rw [decide_eq_true (keyC_lt h).2, Bool.or_true]
    · rw [isB_some h (n := n) (by omega), Bool.true_or]
theorem isB_none {c : Bytes} (h : keyC c = none) : ∀ {n : Nat}, n ≤ 37 → isB c n = false
  | 0, _ => rfl
  | n + 1, hn => by
    rw [isB, isB_none h (by omega), decide_eq_false]
    · rfl
    · intro e
      rw [e, keyC_char (by omega)] at h
      cases h
set_option maxRecDepth 100000 in
set_option maxHeartbeats 4000000 in
theorem law_codes (c : Bytes) (w : World) (hT : TabAt w famsL) (hp : HasPow w) :
    Calls Tryd.prog 4 #[.string (B c)] w fun e w' => e = .returned (.bool true) ∧ New w w' := by
  have HA : Hid (∀ w', New w w' → Calls Tryd.prog 11 #[] w' fun e w'' => e = .returned (.bool true) ∧ New w' w'') := Lib.hid (fun w' hn => law_awake famsL w' (hT.keep hn) (hp.keep hn))
  have HB := Lib.hid law_brief
  have HT := Lib.hid hT
  clear hT hp
  go_enter Tryd.func4, Tryd.ntmps4
  go_wp2_with fail
  refine (HA.out _ (New.refl _)).mono ?_
  rintro e w1 ⟨rfl, n1⟩
  have N1 := Lib.hid n1
  clear n1 HA
  by_cases hs : (B c).size ≤ 200
  · have B1 := Lib.hid (HB.out (B c) w1)
    rw [decide_eq_true hs] at B1
    have hs1 : c.length ≤ 200 := by rw [B_size] at hs; exact hs
    go_wp2_with fail
    refine B1.out.mono ?_
    rintro e w' ⟨rfl, rfl⟩
    go_wp2_with fail
    go_loopw [5, 4] (fun s5 s4 wr => ∃ j : Nat, j ≤ 37 ∧ s5 = .int .i64 j ∧ s4 = .bool (isB c j) ∧ wr = w1) (fun i _ _ => 37 - (intOf i).toNat)
    case atStart => exact ⟨0, by omega, rfl, rfl, rfl⟩
    case round =>
      obtain ⟨j, hj, rfl, rfl, hw⟩ := hrel
      subst hw
      by_cases hlt : j < 37
      · have i1 : (j : Int) < 37 := by omega
        have i2 : IntKind.i64.wrap ((j : Int) + 1) = (j : Int) + 1 := IntWalk.i64_in _ (by omega)
        have i3 : (0 : Int) ≤ (j : Int) := by omega
        have hx := chars_one hlt
        have HX := Lib.hid hx
        by_cases hb : isB c j = true
        · have HI : Hid (isB c (j + 1) = true) := Lib.hid (by rw [isB, hb, Bool.true_or])
          rw [hb]
          clear hb hx
          go_wp2_with fail
          refine ⟨⟨j + 1, by omega, by go_num, by rw [HI.out], trivial⟩, by simp [intOf] <;> omega⟩
        · have hb' : isB c j = false := by simpa using hb
          rw [hb']
          have HI : Hid (isB c (j + 1) = ((B [charOf j]).toList == (B c).toList)) := Lib.hid (by
            rw [isB, hb', bytes_eq, Bool.false_or]
            exact decide_eq_decide.2 ⟨Eq.symm, Eq.symm⟩)
          clear hb hb'
          go_wp2_with fail
          refine ⟨⟨j + 1, by omega, by go_num, by rw [HI.out], trivial⟩, by simp [intOf] <;> omega⟩
      · obtain rfl : j = 37 := by omega
        have HCD : Hid (∀ w', New w w' → Calls Tryd.prog 20 #[.string (B c)] w' fun e w'' => e = .returned (.tuple (match keyC c with | some k => #[strV (codeOf k), .int .i64 0] | none => #[.string ⟨#[]⟩, .int .i64 41])) ∧ w' = w'') := Lib.hid (fun w' hn => cp_Code famsL c w' (HT.out.keep hn) (by omega))
        have HFM : Hid (∀ w', New w w' → Calls Tryd.prog 21 #[.string (B c)] w' fun e w'' => e = .returned (.tuple (match keyC c with | some k => #[.int .i64 ((famOf famsL k : Int) + 1), .int .i64 0] | none => #[.int .i64 0, .int .i64 41])) ∧ w' = w'') := Lib.hid (fun w' hn => cp_Family famsL c w' (HT.out.keep hn) (by omega))
        cases hk : keyC c with
        | none =>
          have hi := isB_none hk (n := 37) (Nat.le_refl _)
          rw [hk] at HCD HFM
          rw [hi]
          clear hk hi
          go_wp2_with fail
          refine (HCD.out _ N1.out).mono ?_
          rintro e w' ⟨rfl, rfl⟩
          go_wp2_with fail
          refine (HFM.out _ N1.out).mono ?_
          rintro e w' ⟨rfl, rfl⟩
          go_wp2_with fail
          go_ret
          exact ⟨rfl, N1.out⟩
        | some k =>
          have hi := isB_some hk (n := 37) (keyC_lt hk).1
          have hk37 := (keyC_lt hk).1
          have hck := (keyC_lt hk).2
          have hcx := cdX_code hk37
          have HCH : Hid (∀ w', New w w' → Calls Tryd.prog 22 #[.string (B (codeOf k))] w' fun e w'' => e = .returned (.tuple #[.string (B c), .int .i64 0]) ∧ New w' w'') := Lib.hid (fun w' hn => by
            have h := cp_Char famsL (codeOf k) w' (HT.out.keep hn) (by have := code_len hk37; omega)
            rw [chrV, hcx, if_pos hk37, ← hck] at h
            exact h)
          have hfl := fams_lt hk37
          rw [hk] at HCD HFM
          rw [hi]
          unfold strV at HCD
          dsimp only at HCD HFM
          clear hk hi hck hcx
          generalize famOf famsL k = z at *
          generalize codeOf k = cd at *
          go_wp2_with fail
          refine (HCD.out _ N1.out).mono ?_
          rintro e w' ⟨rfl, rfl⟩
          go_wp2_with fail
          refine (HFM.out _ N1.out).mono ?_
          rintro e w' ⟨rfl, rfl⟩
          go_wp2_with fail
          refine (HCH.out _ N1.out).mono ?_
          rintro e w2 ⟨rfl, n2⟩
          have N2 := Lib.hid (N1.out.trans n2)
          clear n2
          have i1 : (1 : Int) ≤ (z : Int) + 1 := by omega
          have i2 : (z : Int) + 1 ≤ 7 := by omega
          go_wp2_with fail
          go_ret
          refine ⟨?_, N2.out⟩
          first | rfl | (simp; done) | (simp; omega)
  · have B1 := Lib.hid (HB.out (B c) w1)
    rw [decide_eq_false hs] at B1
    go_wp2_with fail
    refine B1.out.mono ?_
    rintro e w' ⟨rfl, rfl⟩
    go_wp2_with fail
    go_ret
    exact ⟨rfl, N1.out⟩
/-- The families, out of the row's list, in which they stand sixth. -/
theorem fams_of_laid {W : World} {n1 n2 n3 n4 n5 : String} {d1 d2 d3 d4 d5 : DataW Unit} {rest : List (String × DataW Unit)} (h : laidMet Tryd.prog ((n1, d1) :: (n2, d2) :: (n3, d3) :: (n4, d4) :: (n5, d5) :: ("pileup/copying.families", Rows.laid_pileup_copying_families) :: rest) W) : W.var? Tryd.prog "pileup/copying.families" = some (famsL.map strV).toArray := by
  obtain ⟨ps, hv, _⟩ := h
  obtain ⟨_, _, _, _, _, _, _, _, _, _, hv, _⟩ := hv
  obtain ⟨_, _, _, _, _, _, _, _, _, _, hv, _⟩ := hv
  obtain ⟨_, _, _, _, _, _, _, _, _, _, hv, _⟩ := hv
  obtain ⟨_, _, _, _, _, _, _, _, _, _, hv, _⟩ := hv
  obtain ⟨_, _, _, _, _, _, _, _, _, _, hv, _⟩ := hv
  obtain ⟨g', t', cs, fuel, p, q, hg', ht', hvar, hd, _, _⟩ := hv
  obtain rfl : g' = 1 := Option.some.inj (hg'.symm.trans (show Tryd.prog.globalNamed "pileup/copying.families" = some 1 by kernel_rfl))
  have hty : (Tryd.prog.globals[1]?).map (·.type) = some 114 := by kernel_rfl
  obtain rfl := Option.some.inj (hty.symm.trans ht')
  have hd' : DataW.trod _ _ _ _ _ _ _ _ _ = some (.agg (famsL.map fun z => .lit (.string z)), p) := hd
  rw [hvar, ← cells_of_strs Tryd.underlying114 Tryd.underlying9 (by kernel_rfl) (by kernel_rfl) hd']
theorem strV_inj {a b : List Bytes} (h : a.map strV = b.map strV) : a = b := by
  have h2 := congrArg (List.map strOf) h
  simp only [List.map_map] at h2
  have e : ∀ l : List Bytes, l.map (strOf ∘ strV) = l := fun l => by
    conv => rhs; rw [← List.map_id l]
    exact List.map_congr_left (fun x _ => by simp [strOf, strV, B])
  rwa [e, e] at h2
theorem tab_codes {W : World} {n1 n2 n3 n4 : String} {d1 d2 d3 d4 : DataW Unit} {rest : List (String × DataW Unit)} (hS : W.ShapedOpen Tryd.prog) (h : laidMet Tryd.prog ((n1, d1) :: (n2, d2) :: (n3, d3) :: (n4, d4) :: ("pileup/copying.codes", Rows.laid_pileup_copying_codes) :: ("pileup/copying.families", Rows.laid_pileup_copying_families) :: rest) W) : TabAt W famsL := by
  obtain ⟨F, hT⟩ := tab_of_row hS h
  have hf := fams_of_laid h
  have hT' := hT
  obtain ⟨_, ⟨t, h2⟩, _⟩ := hT
  unfold World.var? at hf
  rw [show Tryd.prog.globalNamed "pileup/copying.families" = some 1 by kernel_rfl] at hf
  simp only [Option.bind_some, h2] at hf
  have e := Option.some.inj hf
  have e2 : F.map strV = famsL.map strV := by simpa using e
  rw [← strV_inj e2]
  exact hT'
/-- The witnesses' world with the families laid, too. -/
noncomputable def laidWorldF (os : Os) : World := { laidWorld os with heap := (laidWorld os).heap.modify 1 (layTab Rows.laid_pileup_copying_families) }
namespace LawCodes
theorem reads : ∀ t ∈ Tryd.f4.params.toList, Tryd.prog.readableRec t = true ∧ t < Tryd.prog.types.size := by
  rw [Tryd.params4]
  intro t ht
  have ht : t = 9 := by simpa using ht
  subst ht
  · exact ⟨by kernel_rfl, of_decide_eq_true (by kernel_rfl)⟩
set_option maxRecDepth 100000 in
theorem contract (H : Type) (enc : TypeId × Value → H) (W : World) (base : Nat) (args : Array Value) (ds gs : List (DataW H)) (before : List MemPlace)
    (hval : ∀ (j : Nat) t v, Tryd.f4.params[j]? = some t → args[j]? = some v → Value.okWide Tryd.prog W .any base t v)
    (hW : DataW.Whole enc Tryd.prog Tryd.f4.params.toList Rows.copyingCodesSpec.vars false W args.toList ds gs before) (hS : W.ShapedOpen Tryd.prog) (hlaid : laidMetH Tryd.prog Rows.copyingCodesRow.laid W) :
    Calls Tryd.prog 4 args W fun e W' => ∃ v, e = .returned v ∧ Rows.copyingCodesSpec.post enc Tryd.prog Tryd.f4 false true false false W args v W' := by
  have hW' := hW
  obtain ⟨p, q, hA0, hV, rfl, hfz, hnd⟩ := hW
  have hA : DataW.TrodAll enc Tryd.prog W 0 (fun _ => true) true Tryd.f4.params.toList args.toList ds p := hA0
  rw [Tryd.params4] at hA hval
  obtain ⟨v0, vs0, d0, ds0, p0, q0, hargs, rfl, rfl, h0, r0⟩ := trodAll_cons hA
  obtain ⟨rfl, rfl, rfl⟩ := trodAll_nil r0
  obtain rfl : args = #[v0] := by cases args; simp_all
  obtain ⟨rfl, rfl⟩ := trodVars_none hV
  have hv0 := hval 0 9 v0 rfl rfl
  clear hval
  obtain ⟨a0, rfl, rfl, rfl, hb0⟩ := Go.ChangeMaps.open_string Tryd.underlying9 hv0 h0
  have hpow : HasPow W := pow_of_laid hlaid
  have htab := tab_codes hS hlaid
  have hlaw := law_codes (bs a0) W htab hpow
  rw [B_bs] at hlaw
  refine hlaw.mono fun e W' ⟨he, hb⟩ => ?_
  subst he
  exact ⟨_, rfl, post_true hW' rfl (by kernel_rfl) ⟨rfl, rfl, rfl⟩ reads hb⟩
theorem laid_met (os : Os) : laidMet Tryd.prog Rows.copyingCodesRow.laid ((laidWorldF os).forCall (fun _ _ => 0) ⟨#[], #[.string ⟨#[]⟩], []⟩).memory :=
  laidMet_of_run' 8 (by kernel_rfl) (by kernel_rfl)
theorem reads_w (os : Os) {H : Type} (enc : TypeId × Value → H) : ∃ places, DataW.whole enc Tryd.prog ((laidWorldF os).forCall (fun _ _ => 0) ⟨#[], #[.string ⟨#[]⟩], []⟩).memory Tryd.f4.params.toList Rows.copyingCodesSpec.vars false #[Value.string ⟨#[]⟩].toList 8 = some ([.lit (.string [])], [], places) :=
  ⟨[], by kernel_rfl⟩
set_option maxRecDepth 100000 in
theorem lifted (os : Os) (started : os.Started) (H : Type) (enc : TypeId × Value → H) (F : Stop.Interp) :
    ReturnsInHanded {} Tryd.checked os 4 .any ((OpenSpec.ofChange Rows.copyingCodesSpec).preRow enc Tryd.prog Tryd.f4 Rows.copyingCodesRow.domain false Rows.copyingCodesRow.laid) (((OpenSpec.ofChange Rows.copyingCodesSpec).at F).post enc Tryd.prog Tryd.f4 false true false false) := by
  obtain ⟨places, hx⟩ := reads_w os enc
  refine returnsInHanded_of_row (C := Tryd.checked) (s := OpenSpec.ofChange Rows.copyingCodesSpec) row_own started (by kernel_rfl) Tryd.func4
    (witness_row_at (enc := enc) (C := Tryd.checked) false (laidWorldF os) #[.string ⟨#[]⟩] rfl (by kernel_rfl) (by kernel_rfl) (by kernel_rfl)
      (OpenSpec.preRow_of_cond 8 hx (by kernel_rfl) (fun k hk => by cases hk) (by kernel_rfl) (laid_met os))) ?_
  intro W base args ds gs before hval hW _ _ _ hlaid hS _
  exact contract H enc W base args ds gs before hval hW hS hlaid
theorem said : Rows.CopyingCodesSaid :=
  OpenClaim.holds_of_cond 4 Tryd.f4 rfl rfl rfl rfl rfl rfl rfl ⟨rfl, rfl, rfl, rfl, rfl⟩ rfl rfl rfl rfl rfl (by kernel_rfl) Tryd.func4 (by kernel_rfl)
    (of_decide_eq_true (by kernel_rfl)) (by unfold Func.isWrapper; first | (rw [if_pos (by decide +kernel)]; kernel_rfl) | (rw [if_neg (by decide +kernel)]; exact ⟨rfl, rfl⟩))
    (fun os started H enc _ F => by rw [OpenClaim.pre_eq_preRow]; exact lifted os started H enc F)
theorem plain (f : FuncId) (fn : Func) (hf : Tryd.pinned.checked.prog.funcNamed "pileup/pileuplaw04.CopyingCodes" = some f) (hfn : Tryd.pinned.checked.prog.funcs[f]? = some fn) :
    false = Tryd.pinned.checked.prog.looks [] ∧ ∀ (j : Nat) t, fn.params[j]? = some t → Tryd.pinned.checked.prog.wantsStandIn t = false := by
  obtain rfl : f = 4 := Option.some.inj ((show Tryd.prog.funcNamed "pileup/pileuplaw04.CopyingCodes" = some 4 by kernel_rfl).symm.trans hf) |>.symm
  obtain rfl : fn = Tryd.f4 := (Option.some.inj (Tryd.func4.symm.trans hfn)).symm
  refine ⟨by kernel_rfl, fun j t ht => ?_⟩
  rw [Tryd.params4] at ht
  have ht : t = 9 := by simpa using Array.mem_of_getElem? ht
  subst ht
  · exact (show Tryd.prog.wantsStandIn 9 = false by kernel_rfl)
theorem card : Rows.CopyingCodesCardSaid :=
  Claim7.holds_tied_plain_at .later [] _ _ _ _ said (fun _ h => by cases h) (by kernel_rfl) (fun _ h => by cases h) copyingCodes_row_tie rfl ⟨rfl, rfl⟩ (by kernel_rfl) rfl plain (by kernel_rfl)
end LawCodes
end Go.Proofs.YthodoabppkeidaaDoor
