/-
  Opening a row's argument of type Ask: its numbers and texts, and its slices of numbers in memory.
-/
import Derived.Test.YthodoabppkeidaaGreatDoorCpLaid
import Derived.ChangeSlices
namespace Go.Proofs.YthodoabppkeidaaGreatDoor
open Go Go.RowKit
open Go.ChangeShapes Go.WideShapes Go.ChangeAt Go.Deep
theorem array12 {α : Type} {cs : Array α} (h : cs.size = 12) : ∃ c0 c1 c2 c3 c4 c5 c6 c7 c8 c9 c10 c11, cs = #[c0, c1, c2, c3, c4, c5, c6, c7, c8, c9, c10, c11] := by
  obtain ⟨l⟩ := cs
  match l, h with
  | [c0, c1, c2, c3, c4, c5, c6, c7, c8, c9, c10, c11], _ => exact ⟨c0, c1, c2, c3, c4, c5, c6, c7, c8, c9, c10, c11, rfl⟩
theorem list12 {α : Type} : ∀ {l : List α}, l.length = 12 → ∃ c0 c1 c2 c3 c4 c5 c6 c7 c8 c9 c10 c11, l = [c0, c1, c2, c3, c4, c5, c6, c7, c8, c9, c10, c11]
  | [c0, c1, c2, c3, c4, c5, c6, c7, c8, c9, c10, c11], _ => ⟨c0, c1, c2, c3, c4, c5, c6, c7, c8, c9, c10, c11, rfl⟩
theorem cells_ask : Tryz.prog.cellsOf 27 = 12 := by kernel_rfl
theorem one_int : Tryz.prog.cellsOf 3 = 1 := by kernel_rfl
theorem one_string : Tryz.prog.cellsOf 9 = 1 := by kernel_rfl
theorem one_strings : Tryz.prog.cellsOf 22 = 1 := by kernel_rfl
theorem one_intss : Tryz.prog.cellsOf 23 = 1 := by kernel_rfl
theorem one_steps : Tryz.prog.cellsOf 24 = 1 := by kernel_rfl
theorem one_ints : Tryz.prog.cellsOf 25 = 1 := by kernel_rfl
set_option maxRecDepth 100000 in
/-- A cell of a slice type is a slice that lies at a place of its own. -/
theorem ok_slice {W : World} {t e : TypeId} {v : Value} (ht : Tryz.prog.underlying t = some (.slice e)) (h : Cell.okWide Tryz.prog W .any 0 t v) :
    v = .slice none 0 0 ∨ ∃ b off len cap, v = .slice (some ⟨b, off, none⟩) len cap ∧ len ≤ cap ∧ cap ≤ 9223372036854775807 := by
  unfold Cell.okWide at h
  rw [ht] at h
  simp only at h
  unfold Cell.ok at h
  rw [ht] at h
  cases v <;> simp at h
  case slice p l c =>
    cases p with
    | none =>
      cases l <;> cases c <;> simp at h
      exact .inl rfl
    | some a =>
      obtain ⟨b, off, sp⟩ := a
      obtain ⟨h1, h2, h3⟩ := h
      obtain ⟨_, h4, _⟩ := h3
      simp only at h4
      subst h4
      have h5 : (c : Int) ≤ 9223372036854775807 := h2
      exact .inr ⟨b, off, l, c, rfl, h1, by omega⟩
set_option maxRecDepth 100000 in
/-- A slice of numbers as the row reads it. -/
theorem open_intsAt {H : Type} {enc : TypeId × Value → H} {W : World} {fuel : Nat} {v : Value} {y : DataW H × List MemPlace} (hok : Cell.okWide Tryz.prog W .any 0 25 v) (h : DataW.trod enc Tryz.prog W 0 (fun _ => true) true fuel 25 [v] = some y) : ∃ l, IntsAt W v l := by
  rcases ok_slice Tryz.underlying25 hok with rfl | ⟨b, off, len, cap, rfl, h1, h2⟩
  · exact ⟨[], .inl ⟨rfl, rfl⟩⟩
  · rcases open_ints Tryz.underlying25 Tryz.underlying3 one_int h with ⟨hcs, _⟩ | ⟨a, len', cap', zs, hcs, _, _, _, hzl, _, hc, _⟩
    · simp at hcs
    · simp only [List.cons.injEq, Value.slice.injEq, Option.some.injEq, and_true] at hcs
      obtain ⟨rfl, rfl, rfl⟩ := hcs
      simp only [if_true] at hzl
      have hl : (zs.take len).length = len := by rw [List.length_take]; omega
      have hcell : ∀ i x, (intsV (zs.take len))[i]? = some x → W.cell? ⟨b, off + i, none⟩ = some x := fun i x hx => by
        have hi : i < (intsV (zs.take len)).length := (List.getElem?_eq_some_iff.1 hx).1
        rw [intsV_len, hl] at hi
        have h3 := hc i (by omega)
        have hadd : (⟨b, off, none⟩ : Addr).add i = ⟨b, off + i, none⟩ := by unfold Addr.add; split <;> simp_all
        rw [hadd] at h3
        rw [h3]
        rw [intsV, List.getElem?_map, List.getElem?_take, if_pos hi, List.getElem?_eq_getElem (by omega)] at hx
        rw [← hx, List.getD_eq_getElem?_getD, List.getElem?_eq_getElem (by omega)]
        rfl
      refine ⟨zs.take len, .inr ⟨b, off, cap, by rw [hl], by rw [hl]; exact h1, h2, fun h0 => ?_, hcell⟩⟩
      have h4 := hcell 0 (.int .i64 (zs.take len)[0]) (by rw [intsV, List.getElem?_map, List.getElem?_eq_getElem h0]; rfl)
      exact World.block_lt_of_cell? _ _ h4
set_option maxRecDepth 100000 in
set_option maxHeartbeats 1000000 in
theorem open_ask {H : Type} {enc : TypeId × Value → H} {W : World} {v : Value} {d : DataW H} {p : List MemPlace} (hv : Value.okWide Tryz.prog W .any 0 27 v) (h : DataW.Trod enc Tryz.prog W 0 (fun _ => true) true 27 v d p) :
    ∃ (m : Int) (x y c : ByteArray) (i j k : Int) (v7 v8 v9 v10 v11 : Value), v = .agg #[.int .i64 m, .string x, .string y, .string c, .int .i64 i, .int .i64 j, .int .i64 k, v7, v8, v9, v10, v11] ∧
      (∃ A n c, v7 = .slice A n c) ∧ (Cell.okWide Tryz.prog W .any 0 23 v8 ∧ ∃ fuel y, DataW.trod enc Tryz.prog W 0 (fun _ => true) true fuel 23 [v8] = some y) ∧
      (Cell.okWide Tryz.prog W .any 0 24 v9 ∧ ∃ fuel y, DataW.trod enc Tryz.prog W 0 (fun _ => true) true fuel 24 [v9] = some y) ∧ (∃ l, IntsAt W v10 l) ∧ (∃ l, IntsAt W v11 l) := by
  obtain ⟨cs, rfl, hsz⟩ := okWide_struct Tryz.underlying27 hv
  obtain ⟨c0, c1, c2, c3, c4, c5, c6, c7, c8, c9, c10, c11, rfl⟩ := array12 (hsz.trans cells_ask)
  have hrow : Row.okWide Tryz.prog W .any 0 27 #[c0, c1, c2, c3, c4, c5, c6, c7, c8, c9, c10, c11] := by
    unfold Value.okWide at hv
    rw [Tryz.underlying27] at hv
    obtain ⟨cs, e, _, hr⟩ := hv
    obtain rfl := Value.agg.inj e
    exact hr
  obtain ⟨ts, hts, _, hall⟩ := hrow
  have hct : Tryz.prog.cellTypes Tryz.prog.depth 27 = some [3, 9, 9, 9, 3, 3, 3, 22, 23, 24, 25, 25] := by kernel_rfl
  obtain rfl := Option.some.inj (hct.symm.trans hts)
  have ok : ∀ (i : Nat) (v : Value) (t : TypeId), #[c0, c1, c2, c3, c4, c5, c6, c7, c8, c9, c10, c11][i]? = some v → [3, 9, 9, 9, 3, 3, 3, 22, 23, 24, 25, 25][i % 12]? = some t → Cell.okWide Tryz.prog W .any 0 t v := fun i v t h1 h2 => by
    obtain ⟨u, hu, hok⟩ := hall i v h1
    obtain rfl : u = t := Option.some.inj (hu.symm.trans h2)
    exact hok
  have o7 := ok 7 c7 _ rfl rfl
  have o8 := ok 8 c8 _ rfl rfl
  have o9 := ok 9 c9 _ rfl rfl
  have o10 := ok 10 c10 _ rfl rfl
  have o11 := ok 11 c11 _ rfl rfl
  clear ok hall hts hct hv
  obtain ⟨fuel, hf⟩ := h
  obtain ⟨xs, n, _, _, hl, hlen, hfl⟩ := DataW.trod_struct Tryz.underlying27 hf
  obtain ⟨y0, y1, y2, y3, y4, y5, y6, y7, y8, y9, y10, y11, rfl⟩ := list12 (show xs.length = 12 from hlen)
  have g0 := hfl 0 _ rfl
  have g1 := hfl 1 _ rfl
  have g2 := hfl 2 _ rfl
  have g3 := hfl 3 _ rfl
  have g4 := hfl 4 _ rfl
  have g5 := hfl 5 _ rfl
  have g6 := hfl 6 _ rfl
  have g8 := hfl 8 _ rfl
  have g9 := hfl 9 _ rfl
  have g10 := hfl 10 _ rfl
  have g11 := hfl 11 _ rfl
  simp [Value.cells, one_int, one_string, one_intss, one_steps, one_ints] at g0 g1 g2 g3 g4 g5 g6 g8 g9 g10 g11
  obtain ⟨m, e0, _, _⟩ := DataW.trod_int Tryz.underlying3 g0
  obtain ⟨x, e1, _, _⟩ := DataW.trod_string Tryz.underlying9 g1
  obtain ⟨y, e2, _, _⟩ := DataW.trod_string Tryz.underlying9 g2
  obtain ⟨c, e3, _, _⟩ := DataW.trod_string Tryz.underlying9 g3
  obtain ⟨i, e4, _, _⟩ := DataW.trod_int Tryz.underlying3 g4
  obtain ⟨j, e5, _, _⟩ := DataW.trod_int Tryz.underlying3 g5
  obtain ⟨k, e6, _, _⟩ := DataW.trod_int Tryz.underlying3 g6
  simp at e0 e1 e2 e3 e4 e5 e6
  subst e0 e1 e2 e3 e4 e5 e6
  refine ⟨m, x, y, c, i, j, k, c7, c8, c9, c10, c11, rfl, ?_, ⟨o8, _, _, g8⟩, ⟨o9, _, _, g9⟩, open_intsAt o10 g10, open_intsAt o11 g11⟩
  rcases ok_slice Tryz.underlying22 o7 with rfl | ⟨b, off, len, cap, rfl, _, _⟩
  · exact ⟨_, _, _, rfl⟩
  · exact ⟨_, _, _, rfl⟩
set_option maxRecDepth 100000 in
theorem slice_of_ok {W : World} {t e : TypeId} {v : Value} (ht : Tryz.prog.underlying t = some (.slice e)) (h : Cell.okWide Tryz.prog W .any 0 t v) : ∃ A n c, v = .slice A n c := by
  rcases ok_slice ht h with rfl | ⟨b, off, len, cap, rfl, _, _⟩
  · exact ⟨_, _, _, rfl⟩
  · exact ⟨_, _, _, rfl⟩
end Go.Proofs.YthodoabppkeidaaGreatDoor
