/-
  The law AirParts returns true for every three texts, and leaves them as they were. Conditions: those of its given row and card, no other.
-/
import Derived.Test.YtpfccnipkcckgaaDoorJoin
import Derived.Test.YtpfccnipkcckgaaDoorRow
import Derived.ChangeMaps5
namespace Go.Proofs.YtpfccnipkcckgaaDoor
open Go.RowKit
open Go.ChangeShapes Go.WideShapes Go.ChangeAt Go.Deep
theorem joinV_split {l : Bytes} {q : P4} (h : splitV l = some q) : joinV q = some l := by
  unfold joinV
  rw [join_split h, h, if_pos rfl]
theorem join_s {s : ByteArray} {q : P4} (h : splitV (bs s) = some q) (w : World) (hm : HasMax w) :
    Calls Tryd.prog 20 #[.agg #[.string (B q.area), .string (B q.pre), .string (B q.suf), .string (B q.stroke)]] w fun e w' => e = .returned (.tuple #[.string s, .int .i64 0]) ∧ New w w' := by
  have hl := splitV_len h
  have hj := air_Join q.area q.pre q.suf q.stroke w hm (by omega)
  have e : joinV ⟨q.area, q.pre, q.suf, q.stroke⟩ = some (bs s) := joinV_split h
  rw [e] at hj
  simpa only [textV, errV, B_bs] using hj
theorem base_s {s : ByteArray} {q : P4} (h : splitV (bs s) = some q) (w : World) (hm : HasMax w) (hs : s.size ≤ 9223372036854775807) :
    Calls Tryd.prog 24 #[.string s] w fun e w' => e = .returned (.tuple #[.string (B (q.pre ++ q.suf)), .int .i64 0]) ∧ New w w' := by
  have hb := air_Base s w hm hs
  rw [h] at hb
  exact hb
theorem base_base {l : Bytes} {q : P4} (h : splitV l = some q) (w : World) (hm : HasMax w) :
    Calls Tryd.prog 24 #[.string (B (q.pre ++ q.suf))] w fun e w' => e = .returned (.tuple #[.string (B (q.pre ++ q.suf)), .int .i64 0]) ∧ New w w' := by
  have hl := splitV_len h
  have hb := air_Base (B (q.pre ++ q.suf)) w hm (by rw [B_size, List.length_append]; omega)
  rw [bs_B, base_again h] at hb
  exact hb
theorem same_base {s : ByteArray} {q : P4} (h : splitV (bs s) = some q) (w : World) (hm : HasMax w) (hs : s.size ≤ 9223372036854775807) :
    Calls Tryd.prog 26 #[.string s, .string (B (q.pre ++ q.suf))] w fun e w' => e = .returned (.tuple #[.bool true, .int .i64 0]) ∧ New w w' := by
  have hl := splitV_len h
  have hb := air_Same s (B (q.pre ++ q.suf)) w hm hs (by rw [B_size, List.length_append]; omega)
  rw [bs_B, base_again h, h] at hb
  have e : sameV (some q) (some ⟨[], q.pre, q.suf, []⟩) = (true, 0) := by simp [sameV, baseV]
  rw [e] at hb
  exact hb
/-- What the law asks of four comparisons: whose values, whichever they are, keep it. -/
def Fits (A C D : Bool × Int) : Prop := (A.2 = 0 ∨ A.2 = 10) ∧ (C.2 = 0 ∨ C.2 = 10) ∧ (D.2 = 0 ∨ D.2 = 10) ∧ (A.2 = 0 → C.2 = 0 → D.2 = 0 ∧ (A.1 = true → C.1 = true → D.1 = true))
theorem fits (x y z : Option P4) : sameV y x = sameV x y ∧ Fits (sameV x y) (sameV y z) (sameV x z) := by
  constructor
  · cases x <;> cases y <;> simp [sameV, eq_comm]
  · cases x <;> cases y <;> cases z <;> simp [sameV, Fits]
    intro h1 h2
    rw [h1, h2]
set_option maxRecDepth 4000 in
set_option maxHeartbeats 4000000 in
theorem law_parts (s t u : ByteArray) (w : World) (hm : HasMax w) (hs : s.size ≤ 9223372036854775807) (ht : t.size ≤ 9223372036854775807) (hu : u.size ≤ 9223372036854775807) :
    Calls Tryd.prog 7 #[.string s, .string t, .string u] w fun e w' => e = .returned (.bool true) ∧ New w w' := by
  have HS := Lib.hid hs
  have HT := Lib.hid ht
  have HU := Lib.hid hu
  have HMx := Lib.hid hm
  clear hs ht hu
  clear hm
  go_enter Tryd.func7, Tryd.ntmps7
  go_wp2_with fail
  have hm := HMx.out
  refine (law_awake w hm).mono ?_
  rintro e w1 ⟨rfl, h1⟩
  by_cases hbig : 1000 < s.size ∨ 1000 < t.size ∨ 1000 < u.size
  · rcases hbig with h | h | h
    all_goals go_wp2_with fail
    all_goals (go_ret; exact ⟨rfl, h1⟩)
  · have hs1 : ¬ 1000 < s.size := fun h => hbig (Or.inl h)
    have ht1 : ¬ 1000 < t.size := fun h => hbig (Or.inr (Or.inl h))
    have hu1 : ¬ 1000 < u.size := fun h => hbig (Or.inr (Or.inr h))
    clear hbig
    go_wp2_with fail
    have hm1 := hm.keep h1
    refine (air_Split s w1 hm1 HS.out).mono ?_
    rintro e w2 ⟨rfl, h2⟩
    have hm2 := hm1.keep h2
    have HN := Lib.hid (h1.trans h2)
    clear h1 h2 hm1 hm
    obtain ⟨hsy, hfit⟩ := fits (splitV (bs s)) (splitV (bs t)) (splitV (bs u))
    cases hq : splitV (bs s) with
    | none =>
      have HQ := Lib.hid hq
      have HFit := Lib.hid hfit
      clear hq hfit
      simp only [p4V, p4E, partsV]
      go_wp2_with fail
      refine (air_ValidCall s _ (hm2.keep ((New.refl _).alloc _)) HS.out).mono ?_
      rintro e w3 ⟨rfl, h3⟩
      rw [HQ.out]
      simp only [Option.isSome]
      go_wp2_with fail
      have HM3 := Lib.hid (hm2.keep (((New.refl _).alloc _).trans h3))
      have HN3 := Lib.hid (HN.out.trans (((New.refl _).alloc _).trans h3))
      have HP3 := Lib.hid ((PartsIn.new w2 (B []) (B []) (B []) (B [])).keep h3)
      clear h3 hm2
      refine (air_Same s t _ HM3.out HS.out HT.out).mono ?_
      rintro e w4 ⟨rfl, h4⟩
      replace HM3 := Lib.hid (HM3.out.keep h4)
      replace HN3 := Lib.hid (HN3.out.trans h4)
      replace HP3 := Lib.hid (HP3.out.keep h4)
      clear h4
      go_wp2_with fail
      refine (air_Same t s _ HM3.out HT.out HS.out).mono ?_
      rw [hsy]
      rintro e w5 ⟨rfl, h5⟩
      replace HM3 := Lib.hid (HM3.out.keep h5)
      replace HN3 := Lib.hid (HN3.out.trans h5)
      replace HP3 := Lib.hid (HP3.out.keep h5)
      clear h5 hsy
      go_wp2_with fail
      refine (air_Same t u _ HM3.out HT.out HU.out).mono ?_
      rintro e w6 ⟨rfl, h6⟩
      replace HM3 := Lib.hid (HM3.out.keep h6)
      replace HN3 := Lib.hid (HN3.out.trans h6)
      replace HP3 := Lib.hid (HP3.out.keep h6)
      clear h6
      go_wp2_with fail
      refine (air_Same s u _ HM3.out HS.out HU.out).mono ?_
      rintro e w7 ⟨rfl, h7⟩
      replace HM3 := Lib.hid (HM3.out.keep h7)
      replace HN3 := Lib.hid (HN3.out.trans h7)
      replace HP3 := Lib.hid (HP3.out.keep h7)
      clear h7
      obtain ⟨c0, c1, c2, c3, -, -, -, -⟩ := HP3.out.all
      have hA : (sameV (splitV (bs s)) (splitV (bs t))).2 = 10 := by rw [HQ.out]; rfl
      clear HFit
      generalize sameV (splitV (bs s)) (splitV (bs t)) = A at *
      generalize sameV (splitV (bs t)) (splitV (bs u)) = C at *
      generalize sameV (splitV (bs s)) (splitV (bs u)) = D at *
      obtain ⟨a, f⟩ := A
      obtain ⟨c, h⟩ := C
      obtain ⟨d, i⟩ := D
      simp only at hA
      subst hA
      have hB0 : B [] = ⟨#[]⟩ := rfl
      go_wp2_with fail
      all_goals (go_ret; exact ⟨rfl, HN3.out⟩)
    | some q =>
      have HQ := Lib.hid hq
      have HFit := Lib.hid hfit
      clear hq hfit
      simp only [p4V, p4E, partsV]
      go_wp2_with fail
      refine (air_ValidCall s _ (hm2.keep ((New.refl _).alloc _)) HS.out).mono ?_
      rintro e w3 ⟨rfl, h3⟩
      rw [HQ.out]
      simp only [Option.isSome]
      go_wp2_with fail
      have HM3 := Lib.hid (hm2.keep (((New.refl _).alloc _).trans h3))
      have HN3 := Lib.hid (HN.out.trans (((New.refl _).alloc _).trans h3))
      have HP3 := Lib.hid ((PartsIn.new w2 (B q.area) (B q.pre) (B q.suf) (B q.stroke)).keep h3)
      clear h3 hm2
      refine (air_Same s t _ HM3.out HS.out HT.out).mono ?_
      rintro e w4 ⟨rfl, h4⟩
      replace HM3 := Lib.hid (HM3.out.keep h4)
      replace HN3 := Lib.hid (HN3.out.trans h4)
      replace HP3 := Lib.hid (HP3.out.keep h4)
      clear h4
      go_wp2_with fail
      refine (air_Same t s _ HM3.out HT.out HS.out).mono ?_
      rw [hsy]
      rintro e w5 ⟨rfl, h5⟩
      replace HM3 := Lib.hid (HM3.out.keep h5)
      replace HN3 := Lib.hid (HN3.out.trans h5)
      replace HP3 := Lib.hid (HP3.out.keep h5)
      clear h5 hsy
      go_wp2_with fail
      refine (air_Same t u _ HM3.out HT.out HU.out).mono ?_
      rintro e w6 ⟨rfl, h6⟩
      replace HM3 := Lib.hid (HM3.out.keep h6)
      replace HN3 := Lib.hid (HN3.out.trans h6)
      replace HP3 := Lib.hid (HP3.out.keep h6)
      clear h6
      go_wp2_with fail
      refine (air_Same s u _ HM3.out HS.out HU.out).mono ?_
      rintro e w7 ⟨rfl, h7⟩
      replace HM3 := Lib.hid (HM3.out.keep h7)
      replace HN3 := Lib.hid (HN3.out.trans h7)
      replace HP3 := Lib.hid (HP3.out.keep h7)
      clear h7
      obtain ⟨c0, c1, c2, c3, -, -, -, -⟩ := HP3.out.all
      have hfit := HFit.out
      clear HFit
      generalize sameV (splitV (bs s)) (splitV (bs t)) = A at *
      generalize sameV (splitV (bs t)) (splitV (bs u)) = C at *
      generalize sameV (splitV (bs s)) (splitV (bs u)) = D at *
      obtain ⟨a, f⟩ := A
      obtain ⟨c, h⟩ := C
      obtain ⟨d, i⟩ := D
      obtain ⟨hf, hh, hi, himp⟩ := hfit
      simp only at hf hh hi himp
      have HI := Lib.hid himp
      clear himp
      clear c0 c1 c2 c3
      have HC : Hid ((f = 10) ∨ (f = 0 ∧ h = 10) ∨ (f = 0 ∧ h = 0 ∧ i = 0 ∧ a = false) ∨ (f = 0 ∧ h = 0 ∧ i = 0 ∧ a = true ∧ c = false) ∨ (f = 0 ∧ h = 0 ∧ i = 0 ∧ a = true ∧ c = true ∧ d = true)) := by
        have hx : (f = 10) ∨ (f = 0 ∧ h = 10) ∨ (f = 0 ∧ h = 0 ∧ i = 0 ∧ a = false) ∨ (f = 0 ∧ h = 0 ∧ i = 0 ∧ a = true ∧ c = false) ∨ (f = 0 ∧ h = 0 ∧ i = 0 ∧ a = true ∧ c = true ∧ d = true) := by
          rcases hf with rfl | rfl
          · rcases hh with rfl | rfl
            · obtain ⟨rfl, h3⟩ := HI.out rfl rfl
              cases a <;> cases c <;> simp_all
            · simp
          · simp
        exact Lib.hid hx
      clear hf hh hi HI
      have hl8 := splitV_len HQ.out
      have hz1 : (B q.pre).size ≤ 4 := by rw [B_size]; omega
      have hz2 : (B q.suf).size ≤ 4 := by rw [B_size]; omega
      clear hl8
      rcases HC.out with rfl | ⟨rfl, rfl⟩ | ⟨rfl, rfl, rfl, rfl⟩ | ⟨rfl, rfl, rfl, rfl, rfl⟩ | ⟨rfl, rfl, rfl, rfl, rfl, rfl⟩
      all_goals clear HC
      all_goals obtain ⟨c0, c1, c2, c3, -, -, -, -⟩ := HP3.out.all
      all_goals go_wp2_with fail
      all_goals (
        refine (join_s HQ.out _ HM3.out).mono ?_
        rintro e w8 ⟨rfl, h8⟩
        replace HM3 := Lib.hid (HM3.out.keep h8)
        replace HN3 := Lib.hid (HN3.out.trans h8)
        replace HP3 := Lib.hid (HP3.out.keep h8)
        clear h8 c0 c1 c2 c3
        go_wp2_with fail
        refine (base_s HQ.out _ HM3.out HS.out).mono ?_
        rintro e w9 ⟨rfl, h9⟩
        replace HM3 := Lib.hid (HM3.out.keep h9)
        replace HN3 := Lib.hid (HN3.out.trans h9)
        replace HP3 := Lib.hid (HP3.out.keep h9)
        clear h9
        go_wp2_with fail
        refine (base_base HQ.out _ HM3.out).mono ?_
        rintro e w10 ⟨rfl, h10⟩
        replace HM3 := Lib.hid (HM3.out.keep h10)
        replace HN3 := Lib.hid (HN3.out.trans h10)
        replace HP3 := Lib.hid (HP3.out.keep h10)
        clear h10
        go_wp2_with fail
        refine (same_base HQ.out _ HM3.out HS.out).mono ?_
        rintro e w11 ⟨rfl, h11⟩
        replace HM3 := Lib.hid (HM3.out.keep h11)
        replace HN3 := Lib.hid (HN3.out.trans h11)
        replace HP3 := Lib.hid (HP3.out.keep h11)
        clear h11
        obtain ⟨c0, c1, c2, c3, -, -, -, -⟩ := HP3.out.all
        have eapp := B_append q.pre q.suf
        go_wp2_with fail
        go_ret
        exact ⟨rfl, HN3.out⟩)

namespace fnParts
theorem reads : ∀ t ∈ Tryd.f7.params.toList, Tryd.prog.readableRec t = true ∧ t < Tryd.prog.types.size := by
  rw [Tryd.params7]
  intro t ht
  have ht : t = 9 := by simpa using ht
  subst ht
  · exact ⟨by kernel_rfl, of_decide_eq_true (by kernel_rfl)⟩
set_option maxRecDepth 100000 in
theorem contract (H : Type) (enc : TypeId × Value → H) (W : World) (base : Nat) (args : Array Value) (ds gs : List (DataW H)) (before : List MemPlace)
    (hval : ∀ (j : Nat) t v, Tryd.f7.params[j]? = some t → args[j]? = some v → Value.okWide Tryd.prog W .any base t v)
    (hW : DataW.Whole enc Tryd.prog Tryd.f7.params.toList Rows.airPartsSpec.vars false W args.toList ds gs before) (hS : W.ShapedOpen Tryd.prog) :
    Calls Tryd.prog 7 args W fun e W' => ∃ v, e = .returned v ∧ Rows.airPartsSpec.post enc Tryd.prog Tryd.f7 false true false false W args v W' := by
  have hW' := hW
  obtain ⟨p, q, hA0, hV, rfl, hfz, hnd⟩ := hW
  have hA : DataW.TrodAll enc Tryd.prog W 0 (fun _ => true) true Tryd.f7.params.toList args.toList ds p := hA0
  rw [Tryd.params7] at hA hval
  obtain ⟨v0, vs0, d0, ds0, p0, q0, hargs, rfl, rfl, h0, r0⟩ := trodAll_cons hA
  obtain ⟨v1, vs1, d1, ds1, p1, q1, rfl, rfl, rfl, h1, r1⟩ := trodAll_cons r0
  obtain ⟨v2, vs2, d2, ds2, p2, q2, rfl, rfl, rfl, h2, r2⟩ := trodAll_cons r1
  obtain ⟨rfl, rfl, rfl⟩ := trodAll_nil r2
  obtain rfl : args = #[v0, v1, v2] := by cases args; simp_all
  obtain ⟨rfl, rfl⟩ := trodVars_none hV
  have hv0 := hval 0 9 v0 rfl rfl
  have hv1 := hval 1 9 v1 rfl rfl
  have hv2 := hval 2 9 v2 rfl rfl
  clear hval
  obtain ⟨a0, rfl, rfl, rfl, hb0⟩ := Go.ChangeMaps.open_string Tryd.underlying9 hv0 h0
  obtain ⟨a1, rfl, rfl, rfl, hb1⟩ := Go.ChangeMaps.open_string Tryd.underlying9 hv1 h1
  obtain ⟨a2, rfl, rfl, rfl, hb2⟩ := Go.ChangeMaps.open_string Tryd.underlying9 hv2 h2
  refine (law_parts a0 a1 a2 W (max_of_shaped hS) hb0 hb1 hb2).mono fun e W' ⟨he, hb⟩ => ?_
  subst he
  exact ⟨_, rfl, post_true hW' rfl (by kernel_rfl) ⟨rfl, rfl, rfl⟩ reads hb⟩
theorem laid_met (os : Os) : laidMet Tryd.prog Rows.airPartsRow.laid ((laidWorld os).forCall (fun _ _ => 0) ⟨#[], #[.string ⟨#[]⟩, .string ⟨#[]⟩, .string ⟨#[]⟩], []⟩).memory :=
  laidMet_of_run' 8 (by kernel_rfl) (by kernel_rfl)
theorem reads_w (os : Os) {H : Type} (enc : TypeId × Value → H) : ∃ places, DataW.whole enc Tryd.prog ((laidWorld os).forCall (fun _ _ => 0) ⟨#[], #[.string ⟨#[]⟩, .string ⟨#[]⟩, .string ⟨#[]⟩], []⟩).memory Tryd.f7.params.toList Rows.airPartsSpec.vars false #[Value.string ⟨#[]⟩, .string ⟨#[]⟩, .string ⟨#[]⟩].toList 8 = some ([.lit (.string []), .lit (.string []), .lit (.string [])], [], places) :=
  ⟨[], by kernel_rfl⟩
set_option maxRecDepth 100000 in
theorem lifted (os : Os) (started : os.Started) (H : Type) (enc : TypeId × Value → H) (F : Stop.Interp) :
    ReturnsInHanded {} Tryd.checked os 7 .any ((OpenSpec.ofChange Rows.airPartsSpec).preRow enc Tryd.prog Tryd.f7 Rows.airPartsRow.domain false Rows.airPartsRow.laid) (((OpenSpec.ofChange Rows.airPartsSpec).at F).post enc Tryd.prog Tryd.f7 false true false false) := by
  obtain ⟨places, hx⟩ := reads_w os enc
  refine returnsInHanded_of_row (C := Tryd.checked) (s := OpenSpec.ofChange Rows.airPartsSpec) row_own started (by kernel_rfl) Tryd.func7
    (witness_row_at (enc := enc) (C := Tryd.checked) false (laidWorld os) #[.string ⟨#[]⟩, .string ⟨#[]⟩, .string ⟨#[]⟩] rfl (by kernel_rfl) (by kernel_rfl) (by kernel_rfl)
      (OpenSpec.preRow_of_cond 8 hx (by kernel_rfl) (fun k hk => by cases hk) (by kernel_rfl) (laid_met os))) ?_
  intro W base args ds gs before hval hW _ _ _ _ hS _
  exact contract H enc W base args ds gs before hval hW hS
theorem said : Rows.AirPartsSaid :=
  OpenClaim.holds_of_cond 7 Tryd.f7 rfl rfl rfl rfl rfl rfl rfl ⟨rfl, rfl, rfl, rfl, rfl⟩ rfl rfl rfl rfl rfl (by kernel_rfl) Tryd.func7 (by kernel_rfl)
    (of_decide_eq_true (by kernel_rfl)) (by unfold Func.isWrapper; first | (rw [if_pos (by decide +kernel)]; kernel_rfl) | (rw [if_neg (by decide +kernel)]; exact ⟨rfl, rfl⟩))
    (fun os started H enc _ F => by rw [OpenClaim.pre_eq_preRow]; exact lifted os started H enc F)
theorem plain (f : FuncId) (fn : Func) (hf : Tryd.pinned.checked.prog.funcNamed "pileup/pileuplaw01.AirParts" = some f) (hfn : Tryd.pinned.checked.prog.funcs[f]? = some fn) :
    false = Tryd.pinned.checked.prog.looks [] ∧ ∀ (j : Nat) t, fn.params[j]? = some t → Tryd.pinned.checked.prog.wantsStandIn t = false := by
  obtain rfl : f = 7 := Option.some.inj ((show Tryd.prog.funcNamed "pileup/pileuplaw01.AirParts" = some 7 by kernel_rfl).symm.trans hf) |>.symm
  obtain rfl : fn = Tryd.f7 := (Option.some.inj (Tryd.func7.symm.trans hfn)).symm
  refine ⟨by kernel_rfl, fun j t ht => ?_⟩
  rw [Tryd.params7] at ht
  have ht : t = 9 := by simpa using Array.mem_of_getElem? ht
  subst ht
  · exact (show Tryd.prog.wantsStandIn 9 = false by kernel_rfl)
theorem card : Rows.AirPartsCardSaid :=
  Claim7.holds_tied_plain_at .later [] _ _ _ _ said (fun _ h => by cases h) (by kernel_rfl) (fun _ h => by cases h) airParts_row_tie rfl ⟨rfl, rfl⟩ (by kernel_rfl) rfl plain (by kernel_rfl)
end fnParts

end Go.Proofs.YtpfccnipkcckgaaDoor
