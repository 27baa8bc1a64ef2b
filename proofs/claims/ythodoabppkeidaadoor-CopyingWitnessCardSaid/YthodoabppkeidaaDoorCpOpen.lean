/-
  Opening a row's argument of type Ask: its steps, and its table.
-/
import Derived.Test.YthodoabppkeidaaDoorCpAsk
import Derived.Test.YthodoabppkeidaaDoorCpCkT
namespace Go.Proofs.YthodoabppkeidaaDoor
open Go Go.RowKit
open Go.ChangeShapes Go.WideShapes Go.ChangeAt Go.Deep
theorem cells_step : Tryd.prog.cellsOf 51 = 3 := by kernel_rfl
theorem list3 {α : Type} : ∀ {l : List α}, l.length = 3 → ∃ a b c, l = [a, b, c]
  | [a, b, c], _ => ⟨a, b, c, rfl⟩
theorem add_off (b off k : Nat) : (⟨b, off, none⟩ : Addr).add k = ⟨b, off + k, none⟩ := by unfold Addr.add; split <;> simp_all
theorem each_choose {α : Type} [Inhabited α] {n : Nat} {p : Nat → α → Prop} (h : ∀ i, i < n → ∃ x, p i x) : ∃ q : Nat → α, ∀ i, i < n → p i (q i) :=
  ⟨fun i => if hi : i < n then Classical.choose (h i hi) else default, fun i hi => by simp only [hi, dif_pos]; exact Classical.choose_spec (h i hi)⟩
set_option maxRecDepth 100000 in
set_option maxHeartbeats 1000000 in
theorem open_stis {H : Type} {enc : TypeId × Value → H} {W : World} {fuel : Nat} {v : Value} {y : DataW H × List MemPlace} (hok : Cell.okWide Tryd.prog W .any 0 24 v) (h : DataW.trod enc Tryd.prog W 0 (fun _ => true) true fuel 24 [v] = some y) : ∃ l, StiAt W v l := by
  rcases ok_slice Tryd.underlying24 hok with rfl | ⟨b, off, len, cap, rfl, h1, h2⟩
  · exact ⟨[], .inl ⟨rfl, rfl⟩⟩
  · rcases open_slice Tryd.underlying24 h with ⟨hcs, _⟩ | ⟨a, len', cap', m, k, D, Pl, hcs, _, hlc, hmax, hmm, _, hx⟩
    · simp at hcs
    · simp only [List.cons.injEq, Value.slice.injEq, Option.some.injEq, and_true] at hcs
      obtain ⟨rfl, rfl, rfl⟩ := hcs
      simp only [if_true] at hmm
      subst hmm
      have each : ∀ i, i < len → ∃ t : StI, W.cell? ⟨b, off + i * 3 + 0, none⟩ = some (.int .i64 t.1) ∧ W.cell? ⟨b, off + i * 3 + 1, none⟩ = some (.int .i64 t.2.1) ∧ W.cell? ⟨b, off + i * 3 + 2, none⟩ = some (.int .i64 t.2.2) := by
        intro i hi
        obtain ⟨cs', g1, g2⟩ := hx i (by omega)
        rw [cells_step] at g1
        obtain ⟨_, hlen, hcell⟩ := World.cells?_some g1
        obtain ⟨xs, k, hk, hxy, _, hxl, hfl⟩ := DataW.trod_struct Tryd.underlying51 g2
        obtain ⟨y0, y1, y2, rfl⟩ := list3 (show xs.length = 3 from hxl)
        obtain ⟨v0, v1, v2, rfl⟩ := list3 hlen
        have f0 := hfl 0 _ rfl
        have f1 := hfl 1 _ rfl
        have f2 := hfl 2 _ rfl
        simp [one_int] at f0 f1 f2
        obtain ⟨z0, e0, _, _⟩ := DataW.trod_int Tryd.underlying3 f0
        obtain ⟨z1, e1, _, _⟩ := DataW.trod_int Tryd.underlying3 f1
        obtain ⟨z2, e2, _, _⟩ := DataW.trod_int Tryd.underlying3 f2
        have c0 := hcell 0 (by omega)
        have c1 := hcell 1 (by omega)
        have c2 := hcell 2 (by omega)
        rw [add_off, add_off] at c0 c1 c2
        simp at e0 e1 e2
        subst e0 e1 e2
        exact ⟨(z0, z1, z2), by simpa using c0, by simpa using c1, by simpa using c2⟩
      obtain ⟨q, hq⟩ := each_choose each
      have hll : ((List.range len).map q).length = len := by simp
      refine ⟨(List.range len).map q, .inr ⟨b, off, _, by rw [hll], by rw [hll]; exact h1, h2, fun h0 => ?_, fun j t hj r u hu => ?_⟩⟩
      · rw [hll] at h0
        exact World.block_lt_of_cell? _ _ (hq 0 h0).1
      · have hjl : j < len := by
          have := (List.getElem?_eq_some_iff.1 hj).1
          rwa [hll] at this
        rw [List.getElem?_map, List.getElem?_range hjl] at hj
        obtain rfl : q j = t := Option.some.inj hj
        obtain ⟨c0, c1, c2⟩ := hq j hjl
        match r, hu with
        | 0, hu => rw [c0]; exact hu
        | 1, hu => rw [c1]; exact hu
        | 2, hu => rw [c2]; exact hu
        | r + 3, hu => simp [stK] at hu
theorem open_rowIn {H : Type} {enc : TypeId × Value → H} {W : World} {fuel : Nat} {v : Value} {y : DataW H × List MemPlace} (h : DataW.trod enc Tryd.prog W 0 (fun _ => true) true fuel 25 [v] = some y) : ∃ r, RowIn W v r := by
  rcases open_ints Tryd.underlying25 Tryd.underlying3 one_int h with ⟨hcs, _⟩ | ⟨a, len, cap, zs, hcs, _, h1, h2, hzl, _, hc, _⟩
  · simp only [List.cons.injEq, and_true] at hcs
    subst hcs
    exact ⟨[], .inr (.inl ⟨rfl, rfl⟩)⟩
  · simp only [List.cons.injEq, and_true] at hcs
    subst hcs
    unfold maxLen at h2
    simp only [if_true] at hzl
    rcases Nat.eq_zero_or_pos len with h0 | h0
    · subst h0
      exact ⟨[], .inl ⟨rfl, some a, cap, rfl, h2⟩⟩
    · obtain ⟨b, off, spot⟩ := a
      have hs : spot = none := by simpa [Addr.add] using World.cell?_spot (hc 0 (by omega))
      subst hs
      have hl : (zs.take len).length = len := by rw [List.length_take]; omega
      have hcell : ∀ i x, (intsV (zs.take len))[i]? = some x → W.cell? ⟨b, off + i, none⟩ = some x := fun i x hx => by
        have hi : i < (intsV (zs.take len)).length := (List.getElem?_eq_some_iff.1 hx).1
        rw [intsV_len, hl] at hi
        have h3 := hc i (by omega)
        rw [add_off] at h3
        rw [h3]
        rw [intsV, List.getElem?_map, List.getElem?_take, if_pos hi, List.getElem?_eq_getElem (by omega)] at hx
        rw [← hx, List.getD_eq_getElem?_getD, List.getElem?_eq_getElem (by omega)]
        rfl
      refine ⟨zs.take len, .inr (.inr ⟨b, off, cap, by rw [hl], by rw [hl]; exact h1, h2, fun _ => ?_, hcell⟩)⟩
      have h4 := hcell 0 (.int .i64 (zs.take len)[0]) (by rw [intsV, List.getElem?_map, List.getElem?_eq_getElem (by omega)]; rfl)
      exact World.block_lt_of_cell? _ _ h4
set_option maxRecDepth 100000 in
set_option maxHeartbeats 1000000 in
theorem open_tbl {H : Type} {enc : TypeId × Value → H} {W : World} {fuel : Nat} {v : Value} {y : DataW H × List MemPlace} (hok : Cell.okWide Tryd.prog W .any 0 23 v) (h : DataW.trod enc Tryd.prog W 0 (fun _ => true) true fuel 23 [v] = some y) : ∃ rs, TblAt W v rs := by
  rcases ok_slice Tryd.underlying23 hok with rfl | ⟨b, off, len, cap, rfl, h1, h2⟩
  · exact ⟨[], .inl ⟨rfl, rfl⟩⟩
  · rcases open_slice Tryd.underlying23 h with ⟨hcs, _⟩ | ⟨a, len', cap', m, k, D, Pl, hcs, _, hlc, hmax, hmm, _, hx⟩
    · simp at hcs
    · simp only [List.cons.injEq, Value.slice.injEq, Option.some.injEq, and_true] at hcs
      obtain ⟨rfl, rfl, rfl⟩ := hcs
      simp only [if_true] at hmm
      subst hmm
      have each : ∀ i, i < len → ∃ r : List Int, ∃ u, W.cell? ⟨b, off + i, none⟩ = some u ∧ RowIn W u r := by
        intro i hi
        obtain ⟨cs', g1, g2⟩ := hx i (by omega)
        rw [one_ints] at g1
        obtain ⟨_, hlen, hcell⟩ := World.cells?_some g1
        obtain ⟨u, rfl⟩ := List.length_eq_one_iff.1 hlen
        have c0 := hcell 0 (by omega)
        rw [add_off, add_off] at c0
        obtain ⟨r, hr⟩ := open_rowIn g2
        exact ⟨r, u, by simpa using c0, hr⟩
      obtain ⟨q, hq⟩ := each_choose each
      have hll : ((List.range len).map q).length = len := by simp
      refine ⟨(List.range len).map q, .inr ⟨b, off, _, by rw [hll], by rw [hll]; exact h1, h2, fun h0 => ?_, fun j r hj => ?_⟩⟩
      · rw [hll] at h0
        obtain ⟨u, hu, _⟩ := hq 0 h0
        exact World.block_lt_of_cell? _ _ hu
      · have hjl : j < len := by
          have := (List.getElem?_eq_some_iff.1 hj).1
          rwa [hll] at this
        rw [List.getElem?_map, List.getElem?_range hjl] at hj
        obtain rfl : q j = r := Option.some.inj hj
        exact hq j hjl
end Go.Proofs.YthodoabppkeidaaDoor
