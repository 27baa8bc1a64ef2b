/-
  The rows of a table that fit a call sign on a day; parts of a table by a test. Plain facts, no program.
-/
import Derived.Test.YtkbdmdnahphkkaaGreatDoorTabOwn
import Derived.Test.YtkbdmdnahphkkaaGreatDoorTabOf
namespace Go.Proofs.YtkbdmdnahphkkaaGreatDoor
open Go.RowKit
def fitB (call s : Bytes) (d : Int) (r : Rw) : Bool := forceB d r && (if r.whole = true then decide (r.text = call) else begB s r.text)
def fitsV (l : List Rw) (call s : Bytes) (d : Int) : List Rw := l.filter (fitB call s d)
def longV (l : List Rw) : Int := l.foldl (fun m r => if r.whole = true then m else max m (r.text.length : Int)) (-1)
def wholeV (l : List Rw) : Bool := l.any (fun r => r.whole)
theorem fits_take {l : List Rw} {call s : Bytes} {d : Int} {k : Nat} {r : Rw} (h : l[k]? = some r) : fitsV (l.take (k + 1)) call s d = fitsV (l.take k) call s d ++ if fitB call s d r = true then [r] else [] := by
  unfold fitsV
  rw [List.take_add_one, h, Option.toList_some, List.filter_append]
  by_cases hf : fitB call s d r = true <;> simp [hf]
theorem fits_in {l : List Rw} {call s : Bytes} {d : Int} {k : Nat} {r : Rw} (h : l[k]? = some r) (hf : fitB call s d r = true) : fitsV (l.take (k + 1)) call s d = fitsV (l.take k) call s d ++ [r] := by
  rw [fits_take h, if_pos hf]
theorem fits_out {l : List Rw} {call s : Bytes} {d : Int} {k : Nat} {r : Rw} (h : l[k]? = some r) (hf : fitB call s d r = false) : fitsV (l.take (k + 1)) call s d = fitsV (l.take k) call s d := by
  rw [fits_take h, if_neg (by simp [hf]), List.append_nil]
theorem long_add (l : List Rw) (r : Rw) : longV (l ++ [r]) = if r.whole = true then longV l else max (longV l) (r.text.length : Int) := by
  unfold longV
  rw [List.foldl_append]
  rfl
theorem whole_add (l : List Rw) (r : Rw) : wholeV (l ++ [r]) = (wholeV l || r.whole) := by
  unfold wholeV
  rw [List.any_append]
  simp
theorem long_fold : ∀ (l : List Rw) (m : Int), m ≤ l.foldl (fun m r => if r.whole = true then m else max m (r.text.length : Int)) m ∧
    (∀ r ∈ l, r.whole = false → (r.text.length : Int) ≤ l.foldl (fun m r => if r.whole = true then m else max m (r.text.length : Int)) m) ∧
    (l.foldl (fun m r => if r.whole = true then m else max m (r.text.length : Int)) m = m ∨ ∃ r ∈ l, r.whole = false ∧ l.foldl (fun m r => if r.whole = true then m else max m (r.text.length : Int)) m = (r.text.length : Int))
  | [], m => ⟨Int.le_refl _, (fun r hr => by cases hr), .inl rfl⟩
  | x :: l, m => by
    rw [List.foldl_cons]
    obtain ⟨h1, h2, h3⟩ := long_fold l (if x.whole = true then m else max m (x.text.length : Int))
    cases hw : x.whole with
    | true =>
      rw [hw, if_pos rfl] at h1 h2 h3
      rw [if_pos rfl]
      refine ⟨h1, fun r hr hrw => ?_, ?_⟩
      · rcases List.mem_cons.1 hr with rfl | hr
        · rw [hw] at hrw; cases hrw
        · exact h2 r hr hrw
      · rcases h3 with h3 | ⟨r, hr, a, b⟩
        · exact .inl h3
        · exact .inr ⟨r, List.mem_cons_of_mem _ hr, a, b⟩
    | false =>
      rw [hw, if_neg (by decide)] at h1 h2 h3
      rw [if_neg (by decide)]
      refine ⟨by omega, fun r hr hrw => ?_, ?_⟩
      · rcases List.mem_cons.1 hr with rfl | hr
        · omega
        · exact h2 r hr hrw
      · rcases h3 with h3 | ⟨r, hr, a, b⟩
        · by_cases hm : m ≤ (x.text.length : Int)
          · exact .inr ⟨x, List.mem_cons_self, hw, by rw [h3]; omega⟩
          · exact .inl (by rw [h3]; omega)
        · exact .inr ⟨r, List.mem_cons_of_mem _ hr, a, b⟩
theorem long_ge {l : List Rw} {r : Rw} (h : r ∈ l) (hw : r.whole = false) : (r.text.length : Int) ≤ longV l := (long_fold l (-1)).2.1 r h hw
theorem long_is (l : List Rw) : longV l = -1 ∨ ∃ r ∈ l, r.whole = false ∧ longV l = (r.text.length : Int) := (long_fold l (-1)).2.2
theorem long_low (l : List Rw) : -1 ≤ longV l := (long_fold l (-1)).1
theorem sg_long {l : List Rw} {s : Bytes} {d : Int} {k : Nat} : ∀ {n i : Nat}, sgN l s d k n = some i → ∀ j, j < k → forceB d (rowN l j) = true → (rowN l j).whole = false → begB s (rowN l j).text = true → (rowN l j).text.length ≤ n → (rowN l j).text.length ≤ (rowN l i).text.length
  | 0, i, h, _, _, _, _, _, _ => by cases h
  | n + 1, i, h, j, hj, hf, hw, hb, hn => by
    unfold begB at hb
    simp only [Bool.and_eq_true, decide_eq_true_eq] at hb
    unfold sgN at h
    cases h2 : hitN l (s.take (n + 1)) false d k with
    | some b =>
      rw [h2] at h
      cases h
      rw [(hit_in h2).2.1, List.length_take]
      omega
    | none =>
      rw [h2] at h
      by_cases he : (rowN l j).text.length = n + 1
      · have := fst_none_iff.1 h2 j hj
        unfold keyB at this
        rw [hf, hw] at this
        simp at this
        exact (this (by rw [← he]; exact hb.2.symm)).elim
      · exact sg_long h j hj hf hw (by unfold begB; simp [hb.1, hb.2]) (by omega)
theorem sg_none {l : List Rw} {s : Bytes} {d : Int} {k : Nat} : ∀ {n : Nat}, sgN l s d k n = none → ∀ j, j < k → forceB d (rowN l j) = true → (rowN l j).whole = false → begB s (rowN l j).text = true → 1 ≤ (rowN l j).text.length → (rowN l j).text.length ≤ n → False
  | 0, _, _, _, _, _, _, _, _ => by omega
  | n + 1, h, j, hj, hf, hw, hb, h1, hn => by
    unfold sgN at h
    cases h2 : hitN l (s.take (n + 1)) false d k with
    | some b => rw [h2] at h; cases h
    | none =>
      rw [h2] at h
      by_cases he : (rowN l j).text.length = n + 1
      · have := fst_none_iff.1 h2 j hj
        unfold begB at hb
        simp only [Bool.and_eq_true, decide_eq_true_eq] at hb
        unfold keyB at this
        rw [hf, hw] at this
        simp at this
        exact this (by rw [← he]; exact hb.2.symm)
      · exact sg_none h j hj hf hw hb h1 (by omega)
theorem row_fit {l : List Rw} {call s : Bytes} {d : Int} {i : Nat} (h : rowOfV l call s d = some i) : fitB call s d (rowN l i) = true := by
  unfold rowOfV at h
  unfold fitB
  cases h2 : hitN l call true d l.length with
  | some j =>
    rw [h2] at h
    cases h
    obtain ⟨_, a, b, c⟩ := hit_in h2
    simp [a, b, c]
  | none =>
    rw [h2] at h
    obtain ⟨_, a, b, c, e⟩ := sg_in h
    rw [b, c]
    have hle : (rowN l i).text.length ≤ s.length := by rw [← e, List.length_take]; omega
    simp [begB, hle, e]
theorem fit_mem {l : List Rw} {call s : Bytes} {d : Int} {r : Rw} : r ∈ fitsV l call s d ↔ r ∈ l ∧ fitB call s d r = true := List.mem_filter
theorem row_in {l : List Rw} {call s : Bytes} {d : Int} {i : Nat} (h : rowOfV l call s d = some i) : rowN l i ∈ fitsV l call s d := fit_mem.2 ⟨rowN_mem (rowOfV_in h), row_fit h⟩
theorem row_whole {l : List Rw} {call s : Bytes} {d : Int} {i : Nat} (h : rowOfV l call s d = some i) : (rowN l i).whole = wholeV (fitsV l call s d) := by
  cases hw : (rowN l i).whole with
  | true =>
    symm
    exact List.any_eq_true.2 ⟨_, row_in h, hw⟩
  | false =>
    symm
    refine List.any_eq_false.2 (fun r hr => ?_)
    cases hrw : r.whole with
    | false => simp
    | true =>
      exfalso
      obtain ⟨hm, hf⟩ := fit_mem.1 hr
      obtain ⟨j, hj, rfl⟩ := mem_rowN hm
      unfold fitB at hf
      rw [hrw] at hf
      simp only [if_true, Bool.and_eq_true, decide_eq_true_eq] at hf
      unfold rowOfV at h
      cases h2 : hitN l call true d l.length with
      | some k =>
        rw [h2] at h
        cases h
        rw [(hit_in h2).2.2.1] at hw
        cases hw
      | none =>
        have := fst_none_iff.1 h2 j hj
        unfold keyB at this
        simp [hrw, hf.1, hf.2] at this
theorem row_long {l : List Rw} {call s : Bytes} {d : Int} {i : Nat} (h : rowOfV l call s d = some i) (hw : wholeV (fitsV l call s d) = false) : ((rowN l i).text.length : Int) = longV (fitsV l call s d) := by
  have hiw : (rowN l i).whole = false := by rw [row_whole h, hw]
  have h1 := long_ge (row_in h) hiw
  rcases long_is (fitsV l call s d) with h2 | ⟨r, hr, hrw, h2⟩
  · omega
  · obtain ⟨hm, hf⟩ := fit_mem.1 hr
    obtain ⟨j, hj, rfl⟩ := mem_rowN hm
    unfold fitB at hf
    rw [hrw] at hf
    simp only [Bool.false_eq_true, if_false, Bool.and_eq_true] at hf
    unfold rowOfV at h
    cases h3 : hitN l call true d l.length with
    | some k =>
      rw [h3] at h
      cases h
      rw [(hit_in h3).2.2.1] at hiw
      cases hiw
    | none =>
      rw [h3] at h
      have hle : (rowN l j).text.length ≤ s.length := by
        have := hf.2
        unfold begB at this
        simp only [Bool.and_eq_true, decide_eq_true_eq] at this
        exact this.1
      have := sg_long h j hj hf.1 hrw hf.2 hle
      omega
theorem row_none {l : List Rw} {call s : Bytes} {d : Int} (hv : rowsB l = true) (h : rowOfV l call s d = none) : fitsV l call s d = [] := by
  refine List.eq_nil_iff_forall_not_mem.2 (fun r hr => ?_)
  obtain ⟨hm, hf⟩ := fit_mem.1 hr
  have hrow : rowB r = true := by
    unfold rowsB at hv
    exact List.all_eq_true.1 (Bool.and_eq_true_iff.1 hv).2 r hm
  obtain ⟨j, hj, rfl⟩ := mem_rowN hm
  unfold fitB at hf
  unfold rowOfV at h
  cases h2 : hitN l call true d l.length with
  | some k => rw [h2] at h; cases h
  | none =>
    rw [h2] at h
    cases hrw : (rowN l j).whole with
    | true =>
      rw [hrw] at hf
      simp only [if_true, Bool.and_eq_true, decide_eq_true_eq] at hf
      have := fst_none_iff.1 h2 j hj
      unfold keyB at this
      simp [hrw, hf.1, hf.2] at this
    | false =>
      rw [hrw] at hf
      simp only [Bool.false_eq_true, if_false, Bool.and_eq_true] at hf
      have hle : (rowN l j).text.length ≤ s.length := by
        have := hf.2
        unfold begB at this
        simp only [Bool.and_eq_true, decide_eq_true_eq] at this
        exact this.1
      have h1 : 1 ≤ (rowN l j).text.length := by
        unfold rowB textB at hrow
        simp only [Bool.and_eq_true, withinB_iff] at hrow
        omega
      exact sg_none h j hj hf.1 hrw hf.2 h1 hle
theorem pair_rows {l : List Rw} : clashV l = none ↔ l.Pairwise (fun x y => clashB x y = false) := by
  rw [clashV_none_iff, List.pairwise_iff_getElem]
  have e : ∀ i (h : i < l.length), rowN l i = l[i] := fun i h => by unfold rowN; rw [List.getD_eq_getElem?_getD, List.getElem?_eq_getElem h]; rfl
  constructor
  · intro h i j hi hj hij
    rw [← e i hi, ← e j hj]
    exact h i j hij hj
  · intro h i k hik hk
    rw [e i (by omega), e k hk]
    exact h i k (by omega) hk hik
theorem filter_tab {l : List Rw} (f : Rw → Bool) (h : tabB l = true) : tabB (l.filter f) = true := by
  obtain ⟨h1, h2⟩ := tabB_out h
  refine tabB_mk (rowsB_part h1 (List.length_filter_le _ _) (fun r hr => (List.mem_filter.1 hr).1)) ?_
  exact pair_rows.2 ((pair_rows.1 h2).filter _)
theorem fits_at {l : List Rw} (h : tabB l = true) (call s : Bytes) (d : Int) : atV (fitsV l call s d) call s d = atV l call s d := by
  have hk : tabB (fitsV l call s d) = true := filter_tab _ h
  rw [at_row, at_row, at_same (tabB_out hk).2 (tabB_out h).2 (fun r hf hc => ?_)]
  rw [fit_mem]
  constructor
  · exact fun hr => hr.1
  · refine fun hr => ⟨hr, ?_⟩
    unfold fitB
    rcases hc with ⟨a, b⟩ | ⟨a, b⟩ <;> simp [a, b, hf]
theorem fits_place {l : List Rw} {call s : Bytes} {d : Int} {i : Nat} (h : rowOfV l call s d = some i) : atV l call s d = some (plc (rowN l i)) := by
  unfold atV
  rw [h]
  rfl
theorem rowR_plR {l : List Rw} {call : Bytes} {d : Int} : (rowR l call d).2 = (plR l call d).2 := by
  unfold rowR plR atV
  split
  · rfl
  · split
    · rfl
    · rename_i q _
      cases h : rowOfV l call (stemV q) d <;> simp

end Go.Proofs.YtkbdmdnahphkkaaGreatDoor
