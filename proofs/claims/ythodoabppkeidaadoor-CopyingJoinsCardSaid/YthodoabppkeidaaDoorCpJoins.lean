/-
  Costs of texts put together and cut, plain. Condition: the texts can be heard in the mode.
-/
import Derived.Test.YthodoabppkeidaaDoorCpApart
namespace Go.Proofs.YthodoabppkeidaaDoor
open Go Go.RowKit
theorem costC_join (F : List Bytes) {mode : Int} {s t u v : Bytes} (h1 : hearE mode s t = 0) (h2 : hearE mode u v = 0) (h3 : hearE mode (s ++ u) (t ++ v) = 0) : costC F mode (s ++ u) (t ++ v) ≤ costC F mode s t + costC F mode u v := by
  obtain ⟨m, a, b, hm, ha, hb, _, _⟩ := hearE_ok h1
  obtain ⟨m', c, d, hm', hc, hd, _, _⟩ := hearE_ok h2
  rw [hm] at hm'
  obtain rfl := Option.some.inj hm'
  rw [costC_ok h1 hm ha hb, costC_ok h2 hm hc hd, costC_ok h3 hm (keysOf_append ha hc) (keysOf_append hb hd)]
  exact lc_append a b c d
/-- The places of the text sent, and of the text heard, that the first steps pass. -/
def cntS (l : List Stp) : Nat := l.countP (fun t => decide (0 ≤ t.1))
def cntH (l : List Stp) : Nat := l.countP (fun t => decide (0 ≤ t.2.1))
theorem joins_cut (F : List Bytes) {mode : Int} {s t : Bytes} (h : hearE mode s t = 0) {at' : Nat} (_ : at' ≤ (alC F mode s t).length) :
    (cntS ((alC F mode s t).take at') ≤ s.length ∧ cntH ((alC F mode s t).take at') ≤ t.length) ∧
      hearE mode (s.take (cntS ((alC F mode s t).take at'))) (t.take (cntH ((alC F mode s t).take at'))) = 0 ∧ hearE mode (s.drop (cntS ((alC F mode s t).take at'))) (t.drop (cntH ((alC F mode s t).take at'))) = 0 ∧
      costC F mode (s.take (cntS ((alC F mode s t).take at'))) (t.take (cntH ((alC F mode s t).take at'))) = sumL ((alC F mode s t).take at') ∧
      sumL ((alC F mode s t).take at') + costC F mode (s.drop (cntS ((alC F mode s t).take at'))) (t.drop (cntH ((alC F mode s t).take at'))) = costC F mode s t := by
  obtain ⟨m, a, b, hm, ha, hb, ls, lt⟩ := hearE_ok h
  have el : alC F mode s t = alL (mdC F m) a b := by rw [alC, if_pos h, hm, ha, hb]
  rw [el]
  obtain ⟨hp, hs⟩ := alL_path (c := mdC F m) (s := a) (h := b)
  have hp' := hp
  rw [← List.take_append_drop at' (alL (mdC F m) a b)] at hp'
  obtain ⟨q, h1, h2⟩ := hp'.cut
  obtain ⟨hin, e1, e2⟩ := cut_least h1 h2 (by rw [List.take_append_drop]; exact hs)
  obtain ⟨c1, c2⟩ := h1.count
  simp only [Nat.zero_add] at c1 c2
  have hi : cntS ((alL (mdC F m) a b).take at') = q.1 := c1.symm
  have hk : cntH ((alL (mdC F m) a b).take at') = q.2 := c2.symm
  rw [hi, hk]
  have la := keysOf_len ha
  have lb := keysOf_len hb
  obtain ⟨i1, i2⟩ := hin
  have t1 := hearE_mk (mode := mode) hm (keysOf_take ha q.1) (keysOf_take hb q.2) (by simp; omega) (by simp; omega)
  have t2 := hearE_mk (mode := mode) hm (keysOf_drop ha q.1) (keysOf_drop hb q.2) (by simp; omega) (by simp; omega)
  refine ⟨⟨by omega, by omega⟩, t1, t2, ?_, ?_⟩
  · rw [costC_ok t1 hm (keysOf_take ha q.1) (keysOf_take hb q.2), e1]
  · rw [costC_ok t2 hm (keysOf_drop ha q.1) (keysOf_drop hb q.2), e2, costC_ok h hm ha hb, ← hs, ← sumL_append, List.take_append_drop]
theorem cntS_take {l : List Stp} {j : Nat} (h : j < l.length) : cntS (l.take (j + 1)) = cntS (l.take j) + (if 0 ≤ l[j].1 then 1 else 0) := by
  rw [cntS, cntS, List.take_succ_eq_append_getElem h, List.countP_append]
  congr 1
  by_cases h0 : 0 ≤ l[j].1 <;> simp [h0]
theorem cntH_take {l : List Stp} {j : Nat} (h : j < l.length) : cntH (l.take (j + 1)) = cntH (l.take j) + (if 0 ≤ l[j].2.1 then 1 else 0) := by
  rw [cntH, cntH, List.take_succ_eq_append_getElem h, List.countP_append]
  congr 1
  by_cases h0 : 0 ≤ l[j].2.1 <;> simp [h0]
theorem sumL_take {l : List Stp} {j : Nat} (h : j < l.length) : sumL (l.take (j + 1)) = sumL (l.take j) + l[j].2.2 := by
  rw [List.take_succ_eq_append_getElem h, sumL_append, sumL_cons, sumL_nil]; omega
theorem cntS_le (l : List Stp) (j : Nat) : cntS (l.take j) ≤ l.length := by
  have h1 : cntS (l.take j) ≤ (l.take j).length := List.countP_le_length
  simp at h1; omega
theorem cntH_le (l : List Stp) (j : Nat) : cntH (l.take j) ≤ l.length := by
  have h1 : cntH (l.take j) ≤ (l.take j).length := List.countP_le_length
  simp at h1; omega
theorem sumL_le (l : List Stp) (j : Nat) : sumL (l.take j) ≤ sumL l := by
  have h : sumL l = sumL (l.take j) + sumL (l.drop j) := by rw [← sumL_append, List.take_append_drop]
  omega
theorem alC_small (F : List Bytes) (mode : Int) (s t : Bytes) : (alC F mode s t).length ≤ 128 ∧ sumL (alC F mode s t) ≤ 1000 := by
  by_cases h : hearE mode s t = 0
  · obtain ⟨m, a, b, hm, ha, hb, ls, lt⟩ := hearE_ok h
    have el : alC F mode s t = alL (mdC F m) a b := by rw [alC, if_pos h, hm, ha, hb]
    have la := keysOf_len ha
    have lb := keysOf_len hb
    rw [el]
    have h1 := alL_len (c := mdC F m) (s := a) (h := b)
    have h2 := (alL_path (c := mdC F m) (s := a) (h := b)).2
    have h3 := lc_small (F := F) (m := m) (a := a) (b := b) (by omega) (by omega)
    exact ⟨by omega, by omega⟩
  · rw [alC, if_neg h]
    exact ⟨by simp, by simp [sumL]⟩
end Go.Proofs.YthodoabppkeidaaDoor
