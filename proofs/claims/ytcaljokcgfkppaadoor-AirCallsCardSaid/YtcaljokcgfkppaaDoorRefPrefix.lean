/-
  PrefixOf of the specification: the same as the program's. Condition: texts of at most 100000 bytes.
-/
import Derived.Test.YtcaljokcgfkppaaDoorRefSame
namespace Go.Proofs.YtcaljokcgfkppaaDoor
open Go.RowKit
theorem fig_single (c : UInt8) : figB [c] = isD c := by
  unfold figB cntB isD
  rw [List.countP_cons, List.countP_nil]
  cases h : (decide (48 ≤ c.toNat) && decide (c.toNat ≤ 57)) <;> rfl
theorem fig_last (l : Bytes) (i : Nat) (hi : i = l.length - 1) (h : i < (B l).size) : rngR 48 57 ((B l)[i]'h).toNat = figB (l.drop (l.length - 1)) := by
  have h1 := bs_get (B l) i h
  rw [bs_B] at h1
  have hl : i < l.length := by rw [B_size] at h; exact h
  have h2 : l.drop (l.length - 1) = [(B l)[i]'h] := by
    rw [← hi, List.drop_eq_getElem_cons hl, List.drop_eq_nil_of_le (by omega)]
    rw [List.getElem?_eq_getElem hl] at h1
    rw [Option.some.inj h1]
  rw [h2, fig_single, rng_isD]
theorem fig_first (l : Bytes) (h1 : l.length = 1) (h : 0 < (B l).size) : rngR 48 57 ((B l)[0]'h).toNat = figB l := by
  have h2 := fig_last l 0 (by omega) h
  rw [h2, h1]; rfl
set_option maxHeartbeats 1000000 in
theorem ref_PrefixOf (s : ByteArray) (w : World) (hs : s.size ≤ 100000) :
    Calls Tryd.prog 29 #[.string s] w fun e w' => e = .returned (.tuple #[.string (B (prefixV (splitV (bs s)))), .int .i64 (p4E (splitV (bs s)))]) ∧ New w w' := by
  go_enter Tryd.func29, Tryd.ntmps29
  go_wp2_with fail
  refine (ref_Split s w hs).mono ?_
  rintro e w' ⟨rfl, h⟩
  cases hq : splitV (bs s) with
  | none =>
    have HQ := Lib.hid hq
    simp only [p4V, p4E, partsV]
    go_wp2_with fail
    refine bodyPost_ret (v := .tuple #[.string (B []), .int .i64 10]) (by simp [results, Tryd.results29, go_sem]; rfl) rfl ⟨by rw [HQ.out]; rfl, h.alloc _⟩
  | some q =>
    have HL := Lib.hid (splitV_len hq)
    have HQ := Lib.hid hq
    clear hq
    simp only [p4V, p4E, partsV]
    have sA := B_size q.area
    have sP := B_size q.pre
    have sS := B_size q.stroke
    have eA := B_empty q.area
    have HN := Lib.hid (h.alloc (.cells #[.string (B q.area), .string (B q.pre), .string (B q.suf), .string (B q.stroke)] 32))
    clear h
    by_cases ha : q.area = []
    · have eA' : (B q.area).toList.isEmpty = true := by rw [eA, ha]; rfl
      clear eA
      have HA := Lib.hid ha
      clear ha
      have hst : q.stroke.length ≤ 4 := HL.out.2.2.2.2
      have hpr : q.pre.length ≤ 4 := HL.out.2.2.1
      have hp1 : 1 ≤ q.pre.length := HL.out.2.1
      have hw : wrap64 ((q.pre.length : Int) - 1) = ((q.pre.length - 1 : Nat) : Int) := by unfold wrap64; omega
      by_cases hone : q.stroke.length = 1
      · have h1 : ((q.stroke.length : Int) == 1) = true := by rw [beq_iff_eq]; omega
        have hp : 0 < q.stroke.length := by omega
        have hp2 : 0 < (B q.stroke).size := by omega
        have HF : Hid (rngR 48 57 ((B q.stroke)[0]'hp2).toNat = figB q.stroke) := Lib.hid (fig_first q.stroke hone hp2)
        clear hone
        go_wp2_with fail
        refine (ref_digit _ _).mono ?_
        rintro e w2 ⟨rfl, rfl⟩
        rw [HF.out]
        clear HF
        cases hf : figB q.stroke with
        | true =>
          have HF := Lib.hid hf
          clear hf
          go_wp2_with fail
          go_region
          go_wp2_with fail
          refine bodyPost_ret (v := .tuple #[.string (B (countV q)), .int .i64 0]) (by simp [results, Tryd.results29, go_sem, countV, HA.out, HF.out, B_append, B_extract]) rfl ⟨by rw [HQ.out]; rfl, HN.out.drew⟩
        | false =>
          have HF := Lib.hid hf
          clear hf
          go_wp2_with fail
          refine bodyPost_ret (v := .tuple #[.string (B (countV q)), .int .i64 0]) (by simp [results, Tryd.results29, go_sem, countV, HA.out, HF.out]) rfl ⟨by rw [HQ.out]; rfl, HN.out⟩
      · have h1 : ((q.stroke.length : Int) == 1) = false := by rw [beq_eq_false_iff_ne]; omega
        have HF : Hid (figB q.stroke = false) := by
          have h : figB q.stroke = false := by unfold figB; rw [decide_eq_false hone]; rfl
          exact Lib.hid h
        clear hone
        go_wp2_with fail
        refine bodyPost_ret (v := .tuple #[.string (B (countV q)), .int .i64 0]) (by simp [results, Tryd.results29, go_sem, countV, HA.out, HF.out]) rfl ⟨by rw [HQ.out]; rfl, HN.out⟩
    · have hl : 0 < q.area.length := List.length_pos_iff.2 ha
      have eA' : (B q.area).toList.isEmpty = false := by rw [eA]; simpa using ha
      have hl4 : q.area.length ≤ 4 := HL.out.1
      clear eA
      have hw : wrap64 ((q.area.length : Int) - 1) = ((q.area.length - 1 : Nat) : Int) := by unfold wrap64; omega
      have HA := Lib.hid ha
      have HF : Hid (rngR 48 57 ((B q.area)[q.area.length - 1]'(by omega)).toNat = figB (q.area.drop (q.area.length - 1))) := Lib.hid (fig_last q.area _ rfl (by omega))
      clear ha
      go_wp2_with fail
      refine (ref_digit _ _).mono ?_
      rintro e w2 ⟨rfl, rfl⟩
      rw [HF.out]
      clear HF
      cases hf : figB (q.area.drop (q.area.length - 1)) with
      | true =>
        have HF := Lib.hid hf
        clear hf
        go_wp2_with fail
        refine bodyPost_ret (v := .tuple #[.string (B (countV q)), .int .i64 0]) (by simp [results, Tryd.results29, go_sem, countV, HA.out, HF.out]) rfl ⟨by rw [HQ.out]; rfl, HN.out⟩
      | false =>
        have HF := Lib.hid hf
        clear hf
        have hb48 : (⟨#[48]⟩ : ByteArray) = B [48] := rfl
        have hb9 : ¬ 9223372036854775807 < q.area.length + (B [48]).size := by rw [B_size]; simp; omega
        go_wp2_with fail
        refine bodyPost_ret (v := .tuple #[.string (B (countV q)), .int .i64 0]) (by simp [results, Tryd.results29, go_sem, countV, HA.out, HF.out, B_append]) rfl ⟨by rw [HQ.out]; rfl, HN.out⟩

end Go.Proofs.YtcaljokcgfkppaaDoor
