/-
  The law AirPrefixes returns true for every text, and leaves it as it was. Conditions: those of its given row and card, no other.
-/
import Derived.Test.YtpfccnipkcckgaaDoorRow
import Derived.ChangeMaps5
namespace Go.Proofs.YtpfccnipkcckgaaDoor
open Go.RowKit
open Go.ChangeShapes Go.WideShapes Go.ChangeAt Go.Deep
/-- Letters and digits only. -/
def MixedB (l : Bytes) : Prop := ∀ c ∈ l, (65 ≤ c.toNat ∧ c.toNat ≤ 90) ∨ (48 ≤ c.toNat ∧ c.toNat ≤ 57)
theorem cnt_cons (lo hi : Nat) (c : UInt8) (l : Bytes) : cntB lo hi (c :: l) = cntB lo hi l + if lo ≤ c.toNat ∧ c.toNat ≤ hi then 1 else 0 := by
  unfold cntB
  rw [List.countP_cons]
  congr 1
  by_cases h : lo ≤ c.toNat ∧ c.toNat ≤ hi
  · rw [if_pos h, if_pos (by simp [h])]
  · rw [if_neg h, if_neg (by simp; omega)]
theorem cnt_append (lo hi : Nat) (a b : Bytes) : cntB lo hi (a ++ b) = cntB lo hi a + cntB lo hi b := by unfold cntB; rw [List.countP_append]
theorem cnt_sum (l : Bytes) : cntB 65 90 l + cntB 48 57 l ≤ l.length := by
  induction l with
  | nil => simp [cntB]
  | cons c l ih =>
    rw [cnt_cons, cnt_cons, List.length_cons]
    split <;> split <;> omega
theorem mixed_of_cnt {l : Bytes} (h : cntB 65 90 l + cntB 48 57 l = l.length) : MixedB l := by
  induction l with
  | nil => intro c hc; cases hc
  | cons c l ih =>
    have hs := cnt_sum l
    rw [cnt_cons, cnt_cons, List.length_cons] at h
    have h1 : cntB 65 90 l + cntB 48 57 l = l.length := by
      split at h <;> split at h <;> omega
    intro d hd
    rcases List.mem_cons.1 hd with rfl | hd
    · by_cases h2 : 65 ≤ d.toNat ∧ d.toNat ≤ 90
      · exact Or.inl h2
      · rw [if_neg h2] at h
        by_cases h3 : 48 ≤ d.toNat ∧ d.toNat ≤ 57
        · exact Or.inr h3
        · rw [if_neg h3] at h; omega
    · exact ih h1 d hd
theorem cut_take (l : Bytes) : cutB l = 0 ∨ ∃ m c, l.take (cutB l) = m ++ [c] ∧ isD c = true := by
  induction l with
  | nil => exact Or.inl rfl
  | cons a l ih =>
    by_cases h : cutB l = 0
    · by_cases ha : isD a = true
      · right
        refine ⟨[], a, ?_, ha⟩
        simp [cutB, h, ha]
      · left; simp [cutB, h, ha]
    · rcases ih with h0 | ⟨m, c, e, hc⟩
      · exact absurd h0 h
      · right
        refine ⟨a :: m, c, ?_, hc⟩
        simp [cutB, h, e]
/-- What is promised of a counted prefix: letters and digits, a letter, a digit at its end. -/
def GoodPrefix (l : Bytes) : Prop := MixedB l ∧ 0 < cntB 65 90 l ∧ ∃ m c, l = m ++ [c] ∧ isD c = true
theorem isD_iff {c : UInt8} : isD c = true ↔ 48 ≤ c.toNat ∧ c.toNat ≤ 57 := by simp [isD]
theorem good_len {l : Bytes} (h : GoodPrefix l) : 2 ≤ l.length := by
  obtain ⟨_, h2, m, c, rfl, hc⟩ := h
  rw [isD_iff] at hc
  rw [cnt_append, cnt_cons, if_neg (by omega)] at h2
  cases m with
  | nil => simp [cntB] at h2
  | cons a m => simp
theorem area_mixed {l : Bytes} (h : areaB l = true) : MixedB l ∧ 0 < cntB 65 90 l := by
  simp only [areaB, Bool.and_eq_true, decide_eq_true_eq] at h
  exact ⟨mixed_of_cnt h.2, h.1.2⟩
theorem fig_one {l : Bytes} (h : figB l = true) : ∃ c, l = [c] ∧ isD c = true := by
  simp only [figB, Bool.and_eq_true, decide_eq_true_eq] at h
  match l, h.1 with
  | [c], _ =>
    refine ⟨c, rfl, ?_⟩
    have h2 := h.2
    rw [cnt_cons] at h2
    rw [isD_iff]
    by_cases h3 : 48 ≤ c.toNat ∧ c.toNat ≤ 57
    · exact h3
    · rw [if_neg h3] at h2; simp [cntB] at h2
/-- An area that ends with a digit is a good prefix; one that does not is one with a 0 behind it. -/
theorem area_good {l : Bytes} (h : areaB l = true) : (figB (l.drop (l.length - 1)) = true → GoodPrefix l) ∧ GoodPrefix (l ++ [48]) := by
  obtain ⟨h1, h2⟩ := area_mixed h
  refine ⟨fun hf => ⟨h1, h2, ?_⟩, ?_, ?_, l, 48, rfl, rfl⟩
  · obtain ⟨c, hc, hd⟩ := fig_one hf
    exact ⟨l.take (l.length - 1), c, by rw [← hc, List.take_append_drop], hd⟩
  · intro c hc
    rcases List.mem_append.1 hc with hc | hc
    · exact h1 c hc
    · simp at hc; subst hc; right; decide
  · rw [cnt_append]; omega
theorem pre_good {l : Bytes} (h : areaB (l.take (cutB l)) = true) : GoodPrefix (l.take (cutB l)) := by
  obtain ⟨h1, h2⟩ := area_mixed h
  rcases cut_take l with h0 | h3
  · rw [h0] at h2; simp [cntB] at h2
  · exact ⟨h1, h2, h3⟩
theorem pre_fig {l s : Bytes} (h : GoodPrefix l) (hf : figB s = true) : GoodPrefix (l.take (l.length - 1) ++ s) := by
  obtain ⟨c, rfl, hd⟩ := fig_one hf
  obtain ⟨h1, h2, m, b, rfl, hb⟩ := h
  have e : (m ++ [b]).take ((m ++ [b]).length - 1) = m := by simp
  rw [e]
  rw [isD_iff] at hb hd
  refine ⟨?_, ?_, m, c, rfl, by rw [isD_iff]; exact hd⟩
  · intro x hx
    rcases List.mem_append.1 hx with hx | hx
    · exact h1 x (List.mem_append_left _ hx)
    · simp at hx; subst hx; exact Or.inr hd
  · rw [cnt_append, cnt_cons, if_neg (by omega)] at h2
    have h0 : cntB 65 90 ([] : Bytes) = 0 := rfl
    rw [cnt_append]; omega
theorem form_facts {k : Nat} {ws : List Bytes} {q : P4} (h : formV k ws = some q) : (∃ x : Bytes, q.pre = x.take (cutB x) ∧ areaB (x.take (cutB x)) = true) ∧ (q.area = [] ∨ areaB q.area = true) := by
  have hB : ∀ l : Bytes, baseB l = true → areaB (l.take (cutB l)) = true := by
    intro l h
    simp only [baseB, Bool.and_eq_true] at h
    exact h.1
  unfold formV at h
  split at h
  all_goals first | (split at h; rotate_left; cases h) | cases h
  · rename_i x hb
    cases h
    exact ⟨⟨x, rfl, hB _ hb⟩, Or.inl rfl⟩
  · rename_i x y hb
    cases h
    simp only [Bool.and_eq_true] at hb
    exact ⟨⟨y, rfl, hB _ hb.1.1⟩, Or.inr hb.1.2⟩
  · rename_i x y hb
    cases h
    simp only [Bool.and_eq_true] at hb
    exact ⟨⟨x, rfl, hB _ hb.1⟩, Or.inl rfl⟩
  · rename_i z x y hb
    cases h
    simp only [Bool.and_eq_true] at hb
    exact ⟨⟨x, rfl, hB _ hb.1.1⟩, Or.inr hb.1.2⟩
/-- A counted prefix ends with a digit and has a letter. -/
theorem count_good {l : Bytes} {q : P4} (h : splitV l = some q) : GoodPrefix (countV q) := by
  obtain ⟨j, _, hj⟩ := splitV_form h
  obtain ⟨⟨x, hx, hb⟩, ha⟩ := form_facts hj
  have hp : GoodPrefix q.pre := by rw [hx]; exact pre_good hb
  unfold countV
  split
  · split
    · rename_i hf
      exact pre_fig hp hf
    · exact hp
  · rename_i hne
    have ha : areaB q.area = true := ha.resolve_left hne
    split
    · rename_i hf
      exact (area_good ha).1 hf
    · exact (area_good ha).2
theorem count_len {l : Bytes} {q : P4} (h : splitV l = some q) : (countV q).length ≤ 8 := by
  obtain ⟨h1, h2, h3, h4, h5⟩ := splitV_len h
  unfold countV
  split
  · split
    · simp only [List.length_append, List.length_take]; omega
    · omega
  · split
    · omega
    · simp only [List.length_append, List.length_cons, List.length_nil]; omega
theorem law_figure (c : Int) (w : World) : Calls Tryd.prog 42 #[.int .u8 c] w fun e w' => e = .returned (.bool (rngR 48 57 c)) ∧ w = w' := by
  go_enter Tryd.func42, Tryd.ntmps42
  go_wp2
  all_goals
    go_ret
    exact ⟨ret_bool (by simp [rngR]; omega), rfl⟩
theorem law_upper (c : Int) (w : World) : Calls Tryd.prog 43 #[.int .u8 c] w fun e w' => e = .returned (.bool (rngR 65 90 c)) ∧ w = w' := by
  go_enter Tryd.func43, Tryd.ntmps43
  go_wp2
  all_goals
    go_ret
    exact ⟨ret_bool (by simp [rngR]; omega), rfl⟩
theorem last_digit {X : ByteArray} {x : Bytes} (hb : bs X = x) (h : ∃ m c, x = m ++ [c] ∧ isD c = true) (i : Nat) (hi : i = x.length - 1) (hlt : i < X.size) : rngR 48 57 (X[i]'hlt).toNat = true := by
  obtain ⟨m, c, hm, hc⟩ := h
  have h1 := bs_get X i hlt
  have h2 : x[i]? = some c := by rw [hi, hm]; simp
  rw [hb, h2] at h1
  injection h1 with h1
  rw [isD_iff] at hc
  simp [rngR, ← h1]
  omega
theorem mixed_at {X : ByteArray} {x : Bytes} (hb : bs X = x) (h : MixedB x) (i : Nat) (hlt : i < X.size) : rngR 65 90 (X[i]'hlt).toNat = true ∨ (rngR 65 90 (X[i]'hlt).toNat = false ∧ rngR 48 57 (X[i]'hlt).toNat = true) := by
  have h1 := bs_get X i hlt
  rw [hb] at h1
  have h2 := h _ (List.mem_of_getElem? h1)
  simp [rngR]
  omega
theorem cnt_at {X : ByteArray} {x : Bytes} (hb : bs X = x) (i : Nat) (hlt : i < X.size) : (rngR 65 90 (X[i]'hlt).toNat = true → cntB 65 90 (x.take (i + 1)) = cntB 65 90 (x.take i) + 1) ∧ (rngR 65 90 (X[i]'hlt).toNat = false → cntB 65 90 (x.take (i + 1)) = cntB 65 90 (x.take i)) := by
  subst hb
  refine ⟨fun h => ?_, fun h => ?_⟩
  · simp [rngR] at h
    rw [cntB_step X i hlt, if_pos (by omega)]
  · simp [rngR] at h
    rw [cntB_step X i hlt, if_neg (by omega), Nat.add_zero]
theorem first_fig {S : ByteArray} {l : Bytes} (hb : bs S = l) (h0 : 0 < S.size) (h : rngR 48 57 (S[0]'h0).toNat = false) : figB l = false := by
  rcases hf : figB l with _ | _
  · rfl
  · obtain ⟨c, rfl, hc⟩ := fig_one hf
    have h1 := bs_get S 0 h0
    rw [hb] at h1
    simp at h1
    rw [isD_iff] at hc
    simp [rngR, ← h1] at h
    omega
theorem law_prefixes (s : ByteArray) (w : World) (hm : HasMax w) (hs : s.size ≤ 9223372036854775807) :
    Calls Tryd.prog 9 #[.string s] w fun e w' => e = .returned (.bool true) ∧ New w w' := by
  go_enter Tryd.func9, Tryd.ntmps9
  go_wp2_with fail
  refine (law_awake w hm).mono ?_
  rintro e w1 ⟨rfl, h1⟩
  by_cases h1000 : 1000 < s.size
  · go_wp2_with fail
    go_ret
    exact ⟨rfl, h1⟩
  · go_wp2_with fail
    refine (air_PrefixOf s w1 (hm.keep h1) hs).mono ?_
    rintro e w2 ⟨rfl, h2⟩
    have h2 := h1.trans h2
    have hm2 := hm.keep h2
    clear h1
    go_wp2_with fail
    refine (air_Split s w2 hm2 hs).mono ?_
    rintro e w3 ⟨rfl, h3⟩
    have h3 := h2.trans h3
    clear h2 hm2
    cases hq : splitV (bs s) with
    | none =>
      clear hq
      have he : (B []).toList.isEmpty = true := by rw [B_empty]; rfl
      simp only [p4V, p4E, partsV, prefixV]
      go_wp2_with fail
      go_ret
      exact ⟨rfl, h3.alloc _⟩
    | some q =>
      have hg := count_good hq
      have hl := splitV_len hq
      have hcl := count_len hq
      have hcp : q.area = [] → figB q.stroke = false → countV q = q.pre := by
        intro h1 h2
        unfold countV
        rw [if_pos h1, h2]; rfl
      clear hq
      simp only [p4V, p4E, partsV, prefixV]
      have hg2 := good_len hg
      obtain ⟨hmix, hlet, hlast⟩ := hg
      have hx := B_size (countV q)
      have hbx := bs_B (countV q)
      generalize countV q = x at *
      generalize hX : B x = X at *
      have hw : wrap64 ((X.size : Int) - 1) = ((X.size - 1 : Nat) : Int) := by unfold wrap64; omega
      have HL := Lib.hid hl
      have HM := Lib.hid hmix
      have HC := Lib.hid hcp
      have HT := Lib.hid hlet
      have HA := Lib.hid hlast
      have HX := Lib.hid hX
      have HB := Lib.hid hbx
      clear hl hmix hcp hlet hlast hX hbx
      go_wp2_with fail
      have hr : rngR 48 57 (X[x.length - 1]'(by omega)).toNat = true := last_digit HB.out HA.out _ rfl _
      refine (law_figure _ _).mono ?_
      rintro e w4 ⟨rfl, rfl⟩
      rw [hr]
      clear hr
      go_wp2_with fail
      have HP := Lib.hid (PartsIn.new w3 (B q.area) (B q.pre) (B q.suf) (B q.stroke))
      have HN := Lib.hid (h3.alloc (.cells #[.string (B q.area), .string (B q.pre), .string (B q.suf), .string (B q.stroke)] 32))
      clear h3
      generalize w3.alloc (.cells #[.string (B q.area), .string (B q.pre), .string (B q.suf), .string (B q.stroke)] 32) = W at *
      go_loopw [8, 9] (fun l i wr => ∃ k : Nat, k ≤ x.length ∧ i = .int .i64 k ∧ l = .int .i64 (cntB 65 90 (x.take k)) ∧ New W wr) (fun _ i _ => x.length - (intOf i).toNat)
      case atStart => exact ⟨0, by omega, rfl, by simp [cntB], New.refl _⟩
      case round =>
        obtain ⟨k, hk, rfl, rfl, hnew⟩ := hrel
        have hc1 := cntB_le 65 90 (x.take k)
        have hc2 : (x.take k).length ≤ k := List.length_take_le _ _
        by_cases hlt : k < x.length
        · have hlt2 : k < X.size := by omega
          have HK := Lib.hid (cnt_at HB.out k hlt2)
          go_wp2_with fail
          refine (law_upper _ _).mono ?_
          rintro e w5 ⟨rfl, rfl⟩
          rcases mixed_at HB.out HM.out k hlt2 with hu | ⟨hu, hd⟩
          · rw [hu]
            have HU := Lib.hid (HK.out.1 hu)
            clear hu
            go_wp2_with fail
            refine ⟨⟨k + 1, by omega, rfl, by rw [HU.out]; rfl, hnew⟩, by simp [intOf]; omega⟩
          · rw [hu]
            have HU := Lib.hid (HK.out.2 hu)
            clear hu
            go_wp2_with fail
            refine (law_figure _ _).mono ?_
            rintro e w6 ⟨rfl, rfl⟩
            rw [hd]
            clear hd
            go_wp2_with fail
            refine ⟨⟨k + 1, by omega, rfl, by rw [HU.out], hnew⟩, by simp [intOf]; omega⟩
        · obtain rfl : k = x.length := by omega
          rw [List.take_length] at hc1 hc2 ⊢
          have hlet := HT.out
          have HN2 := Lib.hid (HN.out.trans hnew)
          obtain ⟨c0, c1, c2, c3, -, -, -, -⟩ := (HP.out.keep hnew).all
          clear hnew
          generalize cntB 65 90 x = cn at *
          have eA := B_empty q.area
          have eS := B_empty q.stroke
          by_cases ha : q.area = []
          · have eA' : (B q.area).toList.isEmpty = true := by rw [eA, ha]; rfl
            have HAr := Lib.hid ha
            clear eA ha
            by_cases hs0 : q.stroke = []
            · have eS' : (B q.stroke).toList.isEmpty = true := by rw [eS, hs0]; rfl
              have hxp : B q.pre = X := by rw [← HX.out, HC.out HAr.out (by rw [hs0]; rfl)]
              clear eS hs0
              rw [hxp] at c1
              clear hxp
              go_wp2_with fail
              go_ret
              exact ⟨rfl, HN2.out⟩
            · have eS' : (B q.stroke).toList.isEmpty = false := by rw [eS]; simpa using hs0
              have hsl : 0 < q.stroke.length := List.length_pos_iff.2 hs0
              have hsz := B_size q.stroke
              have hs4 : q.stroke.length ≤ 4 := HL.out.2.2.2.2
              clear eS hs0
              go_wp2_with fail
              refine (law_figure _ _).mono ?_
              rintro e w7 ⟨rfl, rfl⟩
              cases hfd : rngR 48 57 ((B q.stroke)[0]'(by omega)).toNat with
              | true =>
                clear hfd
                go_wp2_with fail
                go_ret
                exact ⟨rfl, HN2.out⟩
              | false =>
                have hxp : B q.pre = X := by rw [← HX.out, HC.out HAr.out (first_fig (bs_B _) _ hfd)]
                clear hfd
                rw [hxp] at c1
                clear hxp
                go_wp2_with fail
                go_ret
                exact ⟨rfl, HN2.out⟩
          · have eA' : (B q.area).toList.isEmpty = false := by rw [eA]; simpa using ha
            clear eA eS ha
            go_wp2_with fail
            go_ret
            exact ⟨rfl, HN2.out⟩

namespace fnPrefixes
theorem reads : ∀ t ∈ Tryd.f9.params.toList, Tryd.prog.readableRec t = true ∧ t < Tryd.prog.types.size := by
  rw [Tryd.params9]
  intro t ht
  have ht : t = 9 := by simpa using ht
  subst ht
  · exact ⟨by kernel_rfl, of_decide_eq_true (by kernel_rfl)⟩
set_option maxRecDepth 100000 in
theorem contract (H : Type) (enc : TypeId × Value → H) (W : World) (base : Nat) (args : Array Value) (ds gs : List (DataW H)) (before : List MemPlace)
    (hval : ∀ (j : Nat) t v, Tryd.f9.params[j]? = some t → args[j]? = some v → Value.okWide Tryd.prog W .any base t v)
    (hW : DataW.Whole enc Tryd.prog Tryd.f9.params.toList Rows.airPrefixesSpec.vars false W args.toList ds gs before) (hS : W.ShapedOpen Tryd.prog) :
    Calls Tryd.prog 9 args W fun e W' => ∃ v, e = .returned v ∧ Rows.airPrefixesSpec.post enc Tryd.prog Tryd.f9 false true false false W args v W' := by
  have hW' := hW
  obtain ⟨p, q, hA0, hV, rfl, hfz, hnd⟩ := hW
  have hA : DataW.TrodAll enc Tryd.prog W 0 (fun _ => true) true Tryd.f9.params.toList args.toList ds p := hA0
  rw [Tryd.params9] at hA hval
  obtain ⟨v0, vs0, d0, ds0, p0, q0, hargs, rfl, rfl, h0, r0⟩ := trodAll_cons hA
  obtain ⟨rfl, rfl, rfl⟩ := trodAll_nil r0
  obtain rfl : args = #[v0] := by cases args; simp_all
  obtain ⟨rfl, rfl⟩ := trodVars_none hV
  have hv0 := hval 0 9 v0 rfl rfl
  clear hval
  obtain ⟨a0, rfl, rfl, rfl, hb0⟩ := Go.ChangeMaps.open_string Tryd.underlying9 hv0 h0
  refine (law_prefixes a0 W (max_of_shaped hS) hb0).mono fun e W' ⟨he, hb⟩ => ?_
  subst he
  exact ⟨_, rfl, post_true hW' rfl (by kernel_rfl) ⟨rfl, rfl, rfl⟩ reads hb⟩
theorem laid_met (os : Os) : laidMet Tryd.prog Rows.airPrefixesRow.laid ((laidWorld os).forCall (fun _ _ => 0) ⟨#[], #[.string ⟨#[]⟩], []⟩).memory :=
  laidMet_of_run' 8 (by kernel_rfl) (by kernel_rfl)
theorem reads_w (os : Os) {H : Type} (enc : TypeId × Value → H) : ∃ places, DataW.whole enc Tryd.prog ((laidWorld os).forCall (fun _ _ => 0) ⟨#[], #[.string ⟨#[]⟩], []⟩).memory Tryd.f9.params.toList Rows.airPrefixesSpec.vars false #[Value.string ⟨#[]⟩].toList 8 = some ([.lit (.string [])], [], places) :=
  ⟨[], by kernel_rfl⟩
set_option maxRecDepth 100000 in
theorem lifted (os : Os) (started : os.Started) (H : Type) (enc : TypeId × Value → H) (F : Stop.Interp) :
    ReturnsInHanded {} Tryd.checked os 9 .any ((OpenSpec.ofChange Rows.airPrefixesSpec).preRow enc Tryd.prog Tryd.f9 Rows.airPrefixesRow.domain false Rows.airPrefixesRow.laid) (((OpenSpec.ofChange Rows.airPrefixesSpec).at F).post enc Tryd.prog Tryd.f9 false true false false) := by
  obtain ⟨places, hx⟩ := reads_w os enc
  refine returnsInHanded_of_row (C := Tryd.checked) (s := OpenSpec.ofChange Rows.airPrefixesSpec) row_own started (by kernel_rfl) Tryd.func9
    (witness_row_at (enc := enc) (C := Tryd.checked) false (laidWorld os) #[.string ⟨#[]⟩] rfl (by kernel_rfl) (by kernel_rfl) (by kernel_rfl)
      (OpenSpec.preRow_of_cond 8 hx (by kernel_rfl) (fun k hk => by cases hk) (by kernel_rfl) (laid_met os))) ?_
  intro W base args ds gs before hval hW _ _ _ _ hS _
  exact contract H enc W base args ds gs before hval hW hS
theorem said : Rows.AirPrefixesSaid :=
  OpenClaim.holds_of_cond 9 Tryd.f9 rfl rfl rfl rfl rfl rfl rfl ⟨rfl, rfl, rfl, rfl, rfl⟩ rfl rfl rfl rfl rfl (by kernel_rfl) Tryd.func9 (by kernel_rfl)
    (of_decide_eq_true (by kernel_rfl)) (by unfold Func.isWrapper; first | (rw [if_pos (by decide +kernel)]; kernel_rfl) | (rw [if_neg (by decide +kernel)]; exact ⟨rfl, rfl⟩))
    (fun os started H enc _ F => by rw [OpenClaim.pre_eq_preRow]; exact lifted os started H enc F)
theorem plain (f : FuncId) (fn : Func) (hf : Tryd.pinned.checked.prog.funcNamed "pileup/pileuplaw01.AirPrefixes" = some f) (hfn : Tryd.pinned.checked.prog.funcs[f]? = some fn) :
    false = Tryd.pinned.checked.prog.looks [] ∧ ∀ (j : Nat) t, fn.params[j]? = some t → Tryd.pinned.checked.prog.wantsStandIn t = false := by
  obtain rfl : f = 9 := Option.some.inj ((show Tryd.prog.funcNamed "pileup/pileuplaw01.AirPrefixes" = some 9 by kernel_rfl).symm.trans hf) |>.symm
  obtain rfl : fn = Tryd.f9 := (Option.some.inj (Tryd.func9.symm.trans hfn)).symm
  refine ⟨by kernel_rfl, fun j t ht => ?_⟩
  rw [Tryd.params9] at ht
  have ht : t = 9 := by simpa using Array.mem_of_getElem? ht
  subst ht
  · exact (show Tryd.prog.wantsStandIn 9 = false by kernel_rfl)
theorem card : Rows.AirPrefixesCardSaid :=
  Claim7.holds_tied_plain_at .later [] _ _ _ _ said (fun _ h => by cases h) (by kernel_rfl) (fun _ h => by cases h) airPrefixes_row_tie rfl ⟨rfl, rfl⟩ (by kernel_rfl) rfl plain (by kernel_rfl)
end fnPrefixes

end Go.Proofs.YtpfccnipkcckgaaDoor
