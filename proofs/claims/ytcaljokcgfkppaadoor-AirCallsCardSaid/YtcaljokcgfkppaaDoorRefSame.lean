/-
  Split, ValidCall, Base, Same, PrefixOf and Join of the specification: the same as the program's. Condition: texts of at most 100000 bytes.
-/
import Derived.Test.YtcaljokcgfkppaaDoorRefParts
import Derived.Test.YtcaljokcgfkppaaDoorJoin
import Derived.Test.YtcaljokcgfkppaaDoorSame
namespace Go.Proofs.YtcaljokcgfkppaaDoor
open Go.RowKit
theorem ref_Split (s : ByteArray) (w : World) (hs : s.size ≤ 100000) :
    Calls Tryd.prog 19 #[.string s] w fun e w' => e = .returned (.tuple #[p4V (splitV (bs s)), .int .i64 (p4E (splitV (bs s)))]) ∧ New w w' := by
  have hq := partsR_eq (bs s)
  have hA := (New.refl w).alloc (.cells #[.string ⟨#[]⟩, .string ⟨#[]⟩, .string ⟨#[]⟩, .string ⟨#[]⟩] 32)
  have hP := PartsIn.new w ⟨#[]⟩ ⟨#[]⟩ ⟨#[]⟩ ⟨#[]⟩
  have HQ := Lib.hid hq
  have HA := Lib.hid hA
  have HP := Lib.hid hP
  clear hq hA hP
  go_enter Tryd.func19, Tryd.ntmps19
  go_wp2_with fail
  refine (ref_parts s _ hs).mono ?_
  rintro e w1 ⟨rfl, h1⟩
  have P2 := HP.out.keep h1
  have HP2 := Lib.hid P2
  have HN := Lib.hid (HA.out.trans h1)
  obtain ⟨c0, c1, c2, c3, g0, g1, g2, g3⟩ := P2.all
  clear P2 h1
  cases hp : partsR (bs s) with
  | none =>
    have HE : Hid (splitV (bs s) = none) := by
      have h := HQ.out
      rw [hp] at h
      exact Lib.hid h.symm
    clear hp
    simp only [t3V]
    go_wp2_with fail
    clear c0 c1 c2 c3 g0 g1 g2 g3
    obtain ⟨n3, c0, c1, c2, c3⟩ := after_store (v0 := .string ⟨#[]⟩) (v1 := .string ⟨#[]⟩) (v2 := .string ⟨#[]⟩) (v3 := .string ⟨#[]⟩) HN.out (Nat.le_refl _) HP2.out (Below.refl _ _)
    simp only [wSet] at n3 c0 c1 c2 c3
    refine bodyPost_ret (v := .tuple #[partsV [] [] [] [], .int .i64 10]) (by simp [results, Tryd.results19, go_sem, partsV, c0, c1, c2, c3]; rfl) rfl ⟨by rw [HE.out]; rfl, n3⟩
  | some t =>
    obtain ⟨a, b, c⟩ := t
    have HE : Hid (splitV (bs s) = some (toP4 (a, b, c))) := by
      have h := HQ.out
      rw [hp] at h
      exact Lib.hid h.symm
    clear hp
    have hl := splitV_len HE.out
    simp only [toP4, List.length_take, List.length_drop] at hl
    have hk := cutB_le b
    have hb8 : b.length ≤ 8 := by omega
    have hbs := B_size b
    simp only [t3V]
    go_wp2_with fail
    refine (ref_cut (B b) _ (by omega)).mono ?_
    rintro e w2 ⟨rfl, rfl⟩
    rw [bs_B]
    have hx1 : (B b).extract 0 (cutB b) = B (b.take (cutB b)) := by rw [B_extract]; rfl
    have hx2 : (B b).extract (cutB b) b.length = B (b.drop (cutB b)) := by rw [B_extract, List.take_length]
    have HX1 := Lib.hid hx1
    have HX2 := Lib.hid hx2
    clear hx1 hx2 hl
    have HE2 : Hid (splitV (bs s) = some ⟨a, b.take (cutB b), b.drop (cutB b), c⟩) := HE
    clear HE
    generalize cutB b = k at *
    go_wp2_with fail
    go_region
    clear c0 c1 c2 c3 g0 g1 g2 g3
    go_wp2_with fail
    rw [HX1.out, HX2.out]
    obtain ⟨n3, c0, c1, c2, c3⟩ := after_store (v0 := .string (B a)) (v1 := .string (B (b.take k))) (v2 := .string (B (b.drop k))) (v3 := .string (B c)) HN.out (Nat.le_refl _) HP2.out (Below.refl _ _)
    simp only [wSet] at n3 c0 c1 c2 c3
    refine bodyPost_ret (v := .tuple #[partsV a (b.take k) (b.drop k) c, .int .i64 0]) (by simp [results, Tryd.results19, go_sem, partsV, c0, c1, c2, c3]) rfl ⟨by rw [HE2.out]; rfl, n3.drew⟩
theorem ref_ValidCall (s : ByteArray) (w : World) (hs : s.size ≤ 100000) :
    Calls Tryd.prog 23 #[.string s] w fun e w' => e = .returned (.bool (splitV (bs s)).isSome) ∧ New w w' := by
  have HQ := Lib.hid (partsR_eq (bs s))
  go_enter Tryd.func23, Tryd.ntmps23
  go_wp2_with fail
  refine (ref_parts s _ hs).mono ?_
  rintro e w1 ⟨rfl, h1⟩
  cases hp : partsR (bs s) with
  | none =>
    have HE : Hid (splitV (bs s) = none) := by
      have h := HQ.out
      rw [hp] at h
      exact Lib.hid h.symm
    clear hp
    simp only [t3V]
    go_wp2_with fail
    go_ret
    exact ⟨by rw [HE.out]; rfl, h1⟩
  | some t =>
    have HE : Hid (splitV (bs s) = some (toP4 t)) := by
      have h := HQ.out
      rw [hp] at h
      exact Lib.hid h.symm
    clear hp
    simp only [t3V]
    go_wp2_with fail
    go_ret
    exact ⟨by rw [HE.out]; rfl, h1⟩
theorem ref_Base (s : ByteArray) (w : World) (hs : s.size ≤ 100000) :
    Calls Tryd.prog 25 #[.string s] w fun e w' => e = .returned (.tuple #[.string (B (baseV (splitV (bs s)))), .int .i64 (p4E (splitV (bs s)))]) ∧ New w w' := by
  go_enter Tryd.func25, Tryd.ntmps25
  go_wp2_with fail
  refine (ref_Split s w hs).mono ?_
  rintro e w' ⟨rfl, h⟩
  cases hq : splitV (bs s) with
  | none =>
    have HQ := Lib.hid hq
    clear hq
    simp only [p4V, p4E, partsV]
    go_wp2_with fail
    refine bodyPost_ret (v := .tuple #[.string (B []), .int .i64 10]) (by simp [results, Tryd.results25, go_sem]; rfl) rfl ⟨by rw [HQ.out]; rfl, h.alloc _⟩
  | some q =>
    have HL := splitV_len hq
    have hq1 : ¬ 9223372036854775807 < (B q.pre).size + (B q.suf).size := by rw [B_size, B_size]; omega
    have HQ := Lib.hid hq
    clear hq HL
    simp only [p4V, p4E, partsV]
    go_wp2_with fail
    refine bodyPost_ret (v := .tuple #[.string (B (q.pre ++ q.suf)), .int .i64 0]) (by simp [results, Tryd.results25, go_sem, B_append]) rfl ⟨by rw [HQ.out]; rfl, h.alloc _⟩
set_option maxHeartbeats 1000000 in
theorem ref_Same (s t : ByteArray) (w : World) (hs : s.size ≤ 100000) (ht : t.size ≤ 100000) :
    Calls Tryd.prog 27 #[.string s, .string t] w fun e w' => e = .returned (.tuple #[.bool (sameV (splitV (bs s)) (splitV (bs t))).1, .int .i64 (sameV (splitV (bs s)) (splitV (bs t))).2]) ∧ New w w' := by
  go_enter Tryd.func27, Tryd.ntmps27
  go_wp2_with fail
  refine (ref_Base s w hs).mono ?_
  rintro e w1 ⟨rfl, h1⟩
  go_wp2_with fail
  refine (ref_Base t w1 ht).mono ?_
  rintro e w2 ⟨rfl, h2⟩
  have h2 := h1.trans h2
  clear h1
  cases hx : splitV (bs s) with
  | none =>
    have HX := Lib.hid hx
    clear hx
    generalize p4E (splitV (bs t)) = e2
    simp only [p4E]
    go_wp2_with fail
    all_goals exact bodyPost_ret (v := .tuple #[.bool false, .int .i64 10]) (by simp [results, Tryd.results27, go_sem]) rfl ⟨by rw [HX.out]; rfl, h2⟩
  | some p =>
    have HX := Lib.hid hx
    clear hx
    cases hy : splitV (bs t) with
    | none =>
      have HY := Lib.hid hy
      clear hy
      simp only [p4E]
      go_wp2_with fail
      refine bodyPost_ret (v := .tuple #[.bool false, .int .i64 10]) (by simp [results, Tryd.results27, go_sem]) rfl ⟨by rw [HX.out, HY.out]; rfl, h2⟩
    | some q =>
      have HY := Lib.hid hy
      clear hy
      simp only [p4E]
      have hb := bytes_eq (baseV (some p)) (baseV (some q))
      have HB := Lib.hid hb
      clear hb
      go_wp2_with fail
      refine bodyPost_ret (v := .tuple #[.bool (decide (baseV (some p) = baseV (some q))), .int .i64 0]) (by simp [results, Tryd.results27, go_sem, HB.out]) rfl ⟨by rw [HX.out, HY.out]; rfl, h2⟩

end Go.Proofs.YtcaljokcgfkppaaDoor
