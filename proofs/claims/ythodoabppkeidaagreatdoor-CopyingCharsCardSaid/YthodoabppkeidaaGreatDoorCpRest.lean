/-
  The closure of Align that tells what the rest costs behind a place. Condition: the table of the turned texts lies in memory.
-/
import Derived.Test.YthodoabppkeidaaGreatDoorCpSteps
namespace Go.Proofs.YthodoabppkeidaaGreatDoor
open Go Go.RowKit
theorem take_rev (l : List Nat) {i : Nat} : l.reverse.take (l.length - i) = (l.drop i).reverse := by
  rw [List.take_reverse]
  rcases Nat.le_total i l.length with h | h
  · rw [show l.length - (l.length - i) = i by omega]
  · rw [show l.length - (l.length - i) = l.length by omega, List.drop_length, List.drop_eq_nil_of_le h]
/-- A row of the table of the turned texts tells the rest. -/
theorem rest_at (c : Cs Nat) (s h : List Nat) {i k : Nat} (hk : k ≤ h.length) : (tabRow c s.reverse h.reverse (s.length - i))[h.length - k]? = some (.int .i64 (rstL c s h (i, k) : Nat)) := by
  rw [tabRow, List.getElem?_map, List.getElem?_range (by simp; omega)]
  simp only [Option.map_some, intV]
  rw [take_rev, take_rev, lc_rev]
  rfl
/-- The closure's memory: the table of the turned texts, and the place of the end. -/
structure RestAt (W : World) (c : Cs Nat) (s h : List Nat) (n0 b1 b2 : Nat) : Prop where
  tab : ∃ v, W.cell? ⟨b1, 0, none⟩ = some v ∧ TabsAt W n0 v ((List.range (s.length + 1)).map (tabRow c s.reverse h.reverse))
  len : RowIs W b2 95 [.int .i64 s.length, .int .i64 h.length]
  lt : b1 < W.heap.size
theorem RestAt.keep {W W' : World} {c : Cs Nat} {s h : List Nat} {n0 b1 b2 : Nat} (x : RestAt W c s h n0 b1 b2) (k : New W W') : RestAt W' c s h n0 b1 b2 := by
  obtain ⟨v, h1, h2⟩ := x.tab
  exact ⟨⟨v, (k.cell (p := ⟨b1, 0, none⟩) x.lt).trans h1, h2.keep k⟩, x.len.keep k, Nat.lt_of_lt_of_le x.lt k.size⟩
set_option maxHeartbeats 1000000 in
theorem cp_rest (c : Cs Nat) (s h : List Nat) (n0 b1 b2 : Nat) (p : Nat × Nat) (w : World) (hx : RestAt w c s h n0 b1 b2) (hp : InL s h p) (ls : s.length ≤ 64) (lh : h.length ≤ 64) :
    Calls Tryz.prog 68 #[plV p, .pointer (some ⟨b1, 0, none⟩), .pointer (some ⟨b2, 0, none⟩)] w fun e w' => e = .returned (.int .i64 (rstL c s h p : Nat)) ∧ New w w' := by
  obtain ⟨i, k⟩ := p
  obtain ⟨hi, hk⟩ := hp
  simp only at hi hk
  have hra := rest_at c s h (i := i) hk
  have hx := hx.keep ((New.refl w).alloc (.cells #[.int .i64 i, .int .i64 k] 95))
  have hpl := RowIs.new w 95 [.int .i64 i, .int .i64 k]
  have hnw := (New.refl w).alloc (.cells #[.int .i64 i, .int .i64 k] 95)
  generalize hW : w.alloc (.cells #[.int .i64 i, .int .i64 k] 95) = W at *
  have d2 := hpl.cell (i := 0) rfl
  have d3 := hpl.cell (i := 1) rfl
  clear hpl
  obtain ⟨⟨v, hv, vs, ho, hl, hr⟩, hlen, hlt⟩ := hx
  generalize hrows : (List.range (s.length + 1)).map (tabRow c s.reverse h.reverse) = rows at *
  have hn : rows.length = s.length + 1 := by rw [← hrows]; simp
  rw [hn] at hl ho
  have hS := owns_sl (cs := vs) (e := 25) (base := n0) (v := v) (w := W) (by rw [hl]; exact ho)
  rw [SlAt, hl] at hS
  obtain ⟨A, cA, rfl, a1, a2, a3⟩ := hS
  obtain ⟨B, O, rfl, hB, hC⟩ := a3 (by omega)
  have hin : s.length - i < vs.length := by omega
  have hc1 := hC (s.length - i) _ (List.getElem?_eq_getElem hin)
  have hrow := hr (s.length - i) _ (tabRow c s.reverse h.reverse (s.length - i)) (List.getElem?_eq_getElem hin) (by rw [← hrows, List.getElem?_map, List.getElem?_range (by omega)]; rfl)
  have hS2 := owns_sl hrow
  generalize vs[s.length - i] = u at *
  have htl : (tabRow c s.reverse h.reverse (s.length - i)).length = h.length + 1 := by simp [tabRow]
  rw [SlAt, htl] at hS2
  obtain ⟨A', cA', rfl, a1', a2', a3'⟩ := hS2
  obtain ⟨B', O', rfl, hB', hC'⟩ := a3' (by omega)
  have hc2 := hC' _ _ hra
  clear hC hC' hrow hr ho hra a3 a3' hrows
  have d0 := hlen.cell (i := 0) rfl
  have d1 := hlen.cell (i := 1) rfl
  generalize rstL c s h (i, k) = z at *
  unfold plV
  have n1 : ((s.length : Int) - (i : Int)).toNat = s.length - i := by omega
  have n2 : ((h.length : Int) - (k : Int)).toNat = h.length - k := by omega
  have n3 : (0 : Int) ≤ (s.length : Int) - (i : Int) := by omega
  have n4 : (0 : Int) ≤ (h.length : Int) - (k : Int) := by omega
  have n5 : (s.length : Int) - (i : Int) < ((s.length + 1 : Nat) : Int) := by omega
  have n6 : (h.length : Int) - (k : Int) < ((h.length + 1 : Nat) : Int) := by omega
  have i1 : IntKind.i64.wrap ((s.length : Int) - (i : Int)) = (s.length : Int) - (i : Int) := IntWalk.i64_in _ (by omega)
  have i2 : IntKind.i64.wrap ((h.length : Int) - (k : Int)) = (h.length : Int) - (k : Int) := IntWalk.i64_in _ (by omega)
  go_enter Tryz.func68, Tryz.ntmps68
  go_wp2_with fail
  go_quiet (fail)
  go_wp2_with fail
  go_ret
  exact ⟨rfl, hnw.drewN _⟩
end Go.Proofs.YthodoabppkeidaaGreatDoor
