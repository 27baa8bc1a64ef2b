/-
  ValidCall, Base and PrefixOf of the program, for every text in a world that has the library's variable MaxLen; what the four parts of a call sign are at most.
-/
import Derived.Test.YtkbdmdnahphkkaaGreatDoorParts
namespace Go.Proofs.YtkbdmdnahphkkaaGreatDoor
open Go.RowKit
theorem B_empty (l : Bytes) : (B l).toList.isEmpty = l.isEmpty := by rw [Lib.toList_data]; simp [B]
theorem B_append (a b : Bytes) : B a ++ B b = B (a ++ b) := by apply bs_inj; simp [bs, B]
theorem B_extract (l : Bytes) (a b : Nat) : (B l).extract a b = B ((l.take b).drop a) := by
  apply bs_inj
  simp [bs, B, ByteArray.data_extract, List.extract_eq_take_drop, List.drop_take]
theorem form_sizes {k : Nat} {ws : List Bytes} {q : P4} (h : formV k ws = some q) : q.area.length ≤ 4 ∧ 1 ≤ q.pre.length ∧ q.pre.length ≤ 4 ∧ q.suf.length ≤ 4 ∧ q.stroke.length ≤ 4 := by
  have hA : ∀ l : Bytes, areaB l = true → 1 ≤ l.length ∧ l.length ≤ 4 := by
    intro l h
    simp only [areaB, Bool.and_eq_true, decide_eq_true_eq] at h
    obtain ⟨⟨h1, h2⟩, h3⟩ := h
    omega
  have hW : ∀ l : Bytes, wordB l = true → l.length ≤ 4 := by
    intro l h
    simp only [wordB, Bool.and_eq_true, decide_eq_true_eq] at h
    omega
  have hS : ∀ l : Bytes, strokeB l = true → l.length ≤ 4 := by
    intro l h
    simp only [strokeB, Bool.or_eq_true] at h
    rcases h with h | h
    · exact hW l h
    · simp only [figB, Bool.and_eq_true, decide_eq_true_eq] at h; omega
  have hB : ∀ l : Bytes, baseB l = true → (1 ≤ (l.take (cutB l)).length ∧ (l.take (cutB l)).length ≤ 4) ∧ (l.drop (cutB l)).length ≤ 4 := by
    intro l h
    simp only [baseB, Bool.and_eq_true] at h
    exact ⟨hA _ h.1, hW _ h.2⟩
  unfold formV at h
  split at h
  all_goals first | (split at h; rotate_left; cases h) | cases h
  · rename_i x hb
    cases h
    have := hB _ hb
    exact ⟨by simp, this.1.1, this.1.2, this.2, by simp⟩
  · rename_i x y hb
    cases h
    simp only [Bool.and_eq_true] at hb
    have := hB _ hb.1.1
    exact ⟨(hA _ hb.1.2).2, this.1.1, this.1.2, this.2, by simp⟩
  · rename_i x y hb
    cases h
    simp only [Bool.and_eq_true] at hb
    have := hB _ hb.1
    exact ⟨by simp, this.1.1, this.1.2, this.2, hS _ hb.2⟩
  · rename_i z x y hb
    cases h
    simp only [Bool.and_eq_true] at hb
    have := hB _ hb.1.1
    exact ⟨(hA _ hb.1.2).2, this.1.1, this.1.2, this.2, hS _ hb.2⟩
theorem try_form {ws : List Bytes} {q : P4} : ∀ {f k : Nat}, tryV ws f k = some q → ∃ j, k ≤ j ∧ j < k + f ∧ formV j ws = some q
  | 0, _, h => by cases h
  | f + 1, k, h => by
    rw [tryV] at h
    split at h
    · rename_i p hp
      cases h
      exact ⟨k, Nat.le_refl _, by omega, hp⟩
    · obtain ⟨j, h1, h2, h3⟩ := try_form h
      exact ⟨j, by omega, by omega, h3⟩
theorem splitV_form {l : Bytes} {q : P4} (h : splitV l = some q) : ∃ j, j < 4 ∧ formV j (piecesL 47 l) = some q := by
  unfold splitV at h
  split at h
  · cases h
  · obtain ⟨j, _, h2, h3⟩ := try_form h
    exact ⟨j, by omega, h3⟩
theorem splitV_len {l : Bytes} {q : P4} (h : splitV l = some q) : q.area.length ≤ 4 ∧ 1 ≤ q.pre.length ∧ q.pre.length ≤ 4 ∧ q.suf.length ≤ 4 ∧ q.stroke.length ≤ 4 := by
  obtain ⟨j, _, h3⟩ := splitV_form h
  exact form_sizes h3
theorem air_ValidCall (s : ByteArray) (w : World) (hm : HasMax w) (hs : s.size ≤ 9223372036854775807) :
    Calls Tryz.prog 28 #[.string s] w fun e w' => e = .returned (.bool (splitV (bs s)).isSome) ∧ New w w' := by
  go_enter Tryz.func28, Tryz.ntmps28
  go_wp2_with fail
  refine (air_Split s w hm hs).mono ?_
  rintro e w' ⟨rfl, h⟩
  cases hq : splitV (bs s) with
  | none =>
    simp only [p4V, p4E, partsV]
    go_wp2_with fail
    go_ret
    exact ⟨by rw [hq]; rfl, h.alloc _⟩
  | some q =>
    simp only [p4V, p4E, partsV]
    go_wp2_with fail
    go_ret
    exact ⟨by rw [hq]; rfl, h.alloc _⟩
/-- A call sign's base, in the program's words. -/
def baseV : Option P4 → Bytes
  | some q => q.pre ++ q.suf
  | none => []
/-- The prefix as which a call sign counts, in the program's words. -/
def countV (q : P4) : Bytes :=
  if q.area = [] then (if figB q.stroke then q.pre.take (q.pre.length - 1) ++ q.stroke else q.pre)
  else if figB (q.area.drop (q.area.length - 1)) then q.area else q.area ++ [48]
def prefixV : Option P4 → Bytes
  | some q => countV q
  | none => []
set_option maxHeartbeats 1000000 in
theorem air_PrefixOf (s : ByteArray) (w : World) (hm : HasMax w) (hs : s.size ≤ 9223372036854775807) :
    Calls Tryz.prog 24 #[.string s] w fun e w' => e = .returned (.tuple #[.string (B (prefixV (splitV (bs s)))), .int .i64 (p4E (splitV (bs s)))]) ∧ New w w' := by
  go_enter Tryz.func24, Tryz.ntmps24
  go_wp2_with fail
  refine (air_Split s w hm hs).mono ?_
  rintro e w' ⟨rfl, h⟩
  cases hq : splitV (bs s) with
  | none =>
    have HQ := Lib.hid hq
    simp only [p4V, p4E, partsV]
    go_wp2_with fail
    refine bodyPost_ret (v := .tuple #[.string (B []), .int .i64 10]) (by simp [results, Tryz.results24, go_sem]; rfl) rfl ⟨by rw [HQ.out]; rfl, h.alloc _⟩
  | some q =>
    have HL := Lib.hid (splitV_len hq)
    have HQ := Lib.hid hq
    clear hq
    simp only [p4V, p4E, partsV]
    have sA := B_size q.area
    have sP := B_size q.pre
    have sS := B_size q.stroke
    have eA := B_empty q.area
    by_cases ha : q.area = []
    · have eA' : (B q.area).toList.isEmpty = true := by rw [eA, ha]; rfl
      clear eA
      have HA := Lib.hid ha
      clear ha
      have hst : q.stroke.length ≤ 4 := HL.out.2.2.2.2
      have hpr : q.pre.length ≤ 4 := HL.out.2.2.1
      have hp1 : 1 ≤ q.pre.length := HL.out.2.1
      have hw : wrap64 ((q.pre.length : Int) - 1) = ((q.pre.length - 1 : Nat) : Int) := by unfold wrap64; omega
      go_wp2_with fail
      refine (air_isFigure _ _ (by rw [B_size]; omega)).mono ?_
      rintro e w2 ⟨rfl, h2⟩
      obtain ⟨c0, c1, c2, c3, -, -, -, -⟩ := ((PartsIn.new w' (B q.area) (B q.pre) (B q.suf) (B q.stroke)).keep h2).all
      have HN := Lib.hid ((h.alloc _).trans h2)
      clear h h2
      rw [bs_B]
      cases hf : figB q.stroke with
      | true =>
        have HF := Lib.hid hf
        clear hf
        go_wp2_with fail
        go_region
        go_wp2_with fail
        refine bodyPost_ret (v := .tuple #[.string (B (countV q)), .int .i64 0]) (by simp [results, Tryz.results24, go_sem, countV, HA.out, HF.out, B_append, B_extract]) rfl ⟨by rw [HQ.out]; rfl, HN.out.drew⟩
      | false =>
        have HF := Lib.hid hf
        clear hf
        go_wp2_with fail
        refine bodyPost_ret (v := .tuple #[.string (B (countV q)), .int .i64 0]) (by simp [results, Tryz.results24, go_sem, countV, HA.out, HF.out]) rfl ⟨by rw [HQ.out]; rfl, HN.out⟩
    · have hl : 0 < q.area.length := List.length_pos_iff.2 ha
      have eA' : (B q.area).toList.isEmpty = false := by rw [eA]; simpa using ha
      have hl4 : q.area.length ≤ 4 := HL.out.1
      clear eA
      have hw : wrap64 ((q.area.length : Int) - 1) = ((q.area.length - 1 : Nat) : Int) := by unfold wrap64; omega
      have HA := Lib.hid ha
      clear ha
      go_wp2_with fail
      have hx : (B q.area).extract (q.area.length - 1) q.area.length = B (q.area.drop (q.area.length - 1)) := by rw [B_extract, List.take_length]
      rw [hx]
      refine (air_isFigure _ _ (by rw [B_size, List.length_drop]; omega)).mono ?_
      rintro e w2 ⟨rfl, h2⟩
      obtain ⟨c0, c1, c2, c3, -, -, -, -⟩ := ((PartsIn.new w' (B q.area) (B q.pre) (B q.suf) (B q.stroke)).keep h2).all
      have HN := Lib.hid ((h.alloc _).trans h2)
      clear h h2 hx
      rw [bs_B]
      cases hf : figB (q.area.drop (q.area.length - 1)) with
      | true =>
        have HF := Lib.hid hf
        clear hf
        go_wp2_with fail
        refine bodyPost_ret (v := .tuple #[.string (B (countV q)), .int .i64 0]) (by simp [results, Tryz.results24, go_sem, countV, HA.out, HF.out]) rfl ⟨by rw [HQ.out]; rfl, HN.out⟩
      | false =>
        have HF := Lib.hid hf
        clear hf
        have hb48 : (⟨#[48]⟩ : ByteArray) = B [48] := rfl
        have hb9 : ¬ 9223372036854775807 < q.area.length + (B [48]).size := by rw [B_size]; simp; omega
        go_wp2_with fail
        refine bodyPost_ret (v := .tuple #[.string (B (countV q)), .int .i64 0]) (by simp [results, Tryz.results24, go_sem, countV, HA.out, HF.out, B_append]) rfl ⟨by rw [HQ.out]; rfl, HN.out⟩

end Go.Proofs.YtkbdmdnahphkkaaGreatDoor
