/-
  Further arguments of the laws of clocks: lists of lists of ints, lists of bounds, lists of ties, truths. No condition.
-/
import Derived.Test.YtodmbcoobjcooaaDoorCkOpen
import Derived.Test.YtodmbcoobjcooaaDoorCkMoms
namespace Go.Proofs.YtodmbcoobjcooaaDoor
open Go Go.RowKit Go.Shelf
open Go.ChangeShapes Go.WideShapes Go.ChangeAt Go.Deep
theorem cells_bound : Tryd.prog.cellsOf 91 = 7 := by kernel_rfl
theorem list7 {α : Type} : ∀ {l : List α}, l.length = 7 → ∃ a b c d e f g, l = [a, b, c, d, e, f, g]
  | [a, b, c, d, e, f, g], _ => ⟨a, b, c, d, e, f, g, rfl⟩
set_option maxRecDepth 100000 in
theorem open_iss1 {H : Type} {enc : TypeId × Value → H} {W : World} {fuel : Nat} {v : Value} {y : DataW H × List MemPlace} (h : DataW.trod enc Tryd.prog W 0 (fun _ => true) true fuel 47 [v] = some y) : ∃ A c l, v = .slice A (List.length l) c ∧ IssA W A l := by
  rcases open_slice Tryd.underlying47 h with ⟨hcs, _⟩ | ⟨a, len, cap, m, k, D, Pl, hcs, _, hlc, hmax, hmm, _, hx⟩
  · simp only [List.cons.injEq, and_true] at hcs
    subst hcs
    exact ⟨none, 0, [], rfl, by simp, fun h => absurd h (by simp)⟩
  · simp only [List.cons.injEq, and_true] at hcs
    subst hcs
    simp only [if_true] at hmm
    subst hmm
    have hsp : 0 < len → a.spot = none := fun h0 => by
      obtain ⟨cs', g1, g2⟩ := hx 0 (by omega)
      rw [one_ints] at g1
      obtain ⟨_, hlen, hcell⟩ := World.cells?_some g1
      obtain ⟨v0, rfl⟩ := List.length_eq_one_iff.1 hlen
      have c0 := hcell 0 (by omega)
      have h9 := World.cell?_spot c0
      simpa [Addr.add] using h9
    have each : ∀ i, i < len → ∃ t : List Int, a.spot = none ∧ ∃ B c, W.cell? ⟨a.block, a.off + i, none⟩ = some (.slice B t.length c) ∧ IntsA W B t := by
      intro i hi
      obtain ⟨cs', g1, g2⟩ := hx i (by omega)
      rw [one_ints] at g1
      obtain ⟨_, hlen, hcell⟩ := World.cells?_some g1
      obtain ⟨v0, rfl⟩ := List.length_eq_one_iff.1 hlen
      obtain ⟨B, c, t, rfl, hB⟩ := open_ints1 g2
      have c0 := hcell 0 (by omega)
      obtain ⟨b, off, spot⟩ := a
      have hs : spot = none := hsp (by omega)
      subst hs
      rw [add_off, add_off] at c0
      exact ⟨t, rfl, B, c, by simpa using c0, hB⟩
    obtain ⟨q, hq⟩ := each_choose each
    have hll : ((List.range len).map q).length = len := by simp
    unfold maxLen at hmax
    refine ⟨some a, m, (List.range len).map q, by rw [hll], ⟨by rw [hll]; omega, fun h0 => ?_⟩⟩
    rw [hll] at h0
    obtain ⟨b, off, spot⟩ := a
    have hs := (hq 0 h0).1
    dsimp only at hs
    subst hs
    obtain ⟨_, B0, c0, x0, _⟩ := hq 0 h0
    refine ⟨b, off, rfl, lt_of_cell x0, fun i hi => ?_⟩
    rw [hll] at hi
    rw [List.getElem?_map, List.getElem?_range hi]
    exact (hq i hi).2
theorem open_bd1 {H : Type} {enc : TypeId × Value → H} {W : World} {fuel : Nat} {v0 v1 v2 v3 v4 v5 v6 : Value} {y : DataW H × List MemPlace} (h : DataW.trod enc Tryd.prog W 0 (fun _ => true) true fuel 91 [v0, v1, v2, v3, v4, v5, v6] = some y) :
    ∃ t : Bd, v0 = .int .i64 t.frm.log ∧ v1 = .int .i64 t.frm.line ∧ v2 = .int .i64 t.to.log ∧ v3 = .int .i64 t.to.line ∧ v4 = .int .i64 t.most ∧ v5 = .int .i64 t.kind ∧ v6 = .int .i64 t.id := by
  obtain ⟨xs, k, hk, hxy, _, hxl, hfl⟩ := DataW.trod_struct Tryd.underlying91 h
  have hl5 : xs.length = 5 := hxl
  match xs, hl5 with
  | [u0, u1, u2, u3, u4], _ =>
  have g0 := hfl 0 _ rfl
  have g1 := hfl 1 _ rfl
  have g2 := hfl 2 _ rfl
  have g3 := hfl 3 _ rfl
  have g4 := hfl 4 _ rfl
  simp [one_int, cells_ref] at g0 g1 g2 g3 g4
  obtain ⟨a, e0, e1⟩ := open_rf g0
  obtain ⟨b, e2, e3⟩ := open_rf g1
  obtain ⟨z2, e4, _, _⟩ := DataW.trod_int Tryd.underlying3 g2
  obtain ⟨z3, e5, _, _⟩ := DataW.trod_int Tryd.underlying3 g3
  obtain ⟨z4, e6, _, _⟩ := DataW.trod_int Tryd.underlying3 g4
  simp at e4 e5 e6
  exact ⟨⟨a, b, z2, z3, z4⟩, e0, e1, e2, e3, e4, e5, e6⟩
set_option maxRecDepth 100000 in
theorem open_bds1 {H : Type} {enc : TypeId × Value → H} {W : World} {fuel : Nat} {v : Value} {y : DataW H × List MemPlace} (h : DataW.trod enc Tryd.prog W 0 (fun _ => true) true fuel 36 [v] = some y) : ∃ A c l, v = .slice A (List.length l) c ∧ BnsA W A l := by
  rcases open_slice Tryd.underlying36 h with ⟨hcs, _⟩ | ⟨a, len, cap, m, k, D, Pl, hcs, _, hlc, hmax, hmm, _, hx⟩
  · simp only [List.cons.injEq, and_true] at hcs
    subst hcs
    exact ⟨none, 0, [], rfl, by simp, fun h => absurd h (by simp)⟩
  · simp only [List.cons.injEq, and_true] at hcs
    subst hcs
    simp only [if_true] at hmm
    subst hmm
    have hsp : 0 < len → a.spot = none := fun h0 => by
      obtain ⟨cs', g1, g2⟩ := hx 0 (by omega)
      rw [cells_bound] at g1
      obtain ⟨_, hlen, hcell⟩ := World.cells?_some g1
      obtain ⟨v0, v1, v2, v3, v4, v5, v6, rfl⟩ := list7 hlen
      have c0 := hcell 0 (by omega)
      have h9 := World.cell?_spot c0
      simpa [Addr.add] using h9
    have each : ∀ i, i < len → ∃ t : Bd, a.spot = none ∧ BdC W a.block (a.off + i * 7) t := by
      intro i hi
      obtain ⟨cs', g1, g2⟩ := hx i (by omega)
      rw [cells_bound] at g1
      obtain ⟨_, hlen, hcell⟩ := World.cells?_some g1
      obtain ⟨v0, v1, v2, v3, v4, v5, v6, rfl⟩ := list7 hlen
      obtain ⟨t, rfl, rfl, rfl, rfl, rfl, rfl, rfl⟩ := open_bd1 g2
      have c0 := hcell 0 (by omega)
      have c1 := hcell 1 (by omega)
      have c2 := hcell 2 (by omega)
      have c3 := hcell 3 (by omega)
      have c4 := hcell 4 (by omega)
      have c5 := hcell 5 (by omega)
      have c6 := hcell 6 (by omega)
      obtain ⟨b, off, spot⟩ := a
      have hs : spot = none := hsp (by omega)
      subst hs
      rw [add_off, add_off] at c0 c1 c2 c3 c4 c5 c6
      exact ⟨t, rfl, by simpa using c0, by simpa using c1, by simpa using c2, by simpa using c3, by simpa using c4, by simpa using c5, by simpa using c6⟩
    obtain ⟨q, hq⟩ := each_choose each
    have hll : ((List.range len).map q).length = len := by simp
    unfold maxLen at hmax
    refine ⟨some a, m, (List.range len).map q, by rw [hll], ⟨by rw [hll]; omega, fun h0 => ?_⟩⟩
    rw [hll] at h0
    obtain ⟨b, off, spot⟩ := a
    have hs := (hq 0 h0).1
    dsimp only at hs
    subst hs
    refine ⟨b, off, rfl, lt_of_cell (hq 0 h0).2.1, fun i hi => ?_⟩
    rw [hll] at hi
    rw [List.getElem?_map, List.getElem?_range hi]
    exact (hq i hi).2
set_option maxRecDepth 100000 in
theorem open_iss {H : Type} {enc : TypeId × Value → H} {W : World} {base : Nat} {v : Value} {d : DataW H} {p : List MemPlace} (hv : Value.okWide Tryd.prog W .any base 47 v) (h : DataW.Trod enc Tryd.prog W 0 (fun _ => true) true 47 v d p) :
    ∃ A c l, v = .slice A (List.length l) c ∧ IssA W A l := by
  obtain ⟨A, n, c, rfl⟩ := okWide_slice Tryd.underlying47 hv
  obtain ⟨fuel, hf⟩ := h
  exact open_iss1 hf
set_option maxRecDepth 100000 in
theorem open_bds {H : Type} {enc : TypeId × Value → H} {W : World} {base : Nat} {v : Value} {d : DataW H} {p : List MemPlace} (hv : Value.okWide Tryd.prog W .any base 36 v) (h : DataW.Trod enc Tryd.prog W 0 (fun _ => true) true 36 v d p) :
    ∃ A c l, v = .slice A (List.length l) c ∧ BnsA W A l := by
  obtain ⟨A, n, c, rfl⟩ := okWide_slice Tryd.underlying36 hv
  obtain ⟨fuel, hf⟩ := h
  exact open_bds1 hf
set_option maxRecDepth 100000 in
theorem open_tisv {H : Type} {enc : TypeId × Value → H} {W : World} {base : Nat} {v : Value} {d : DataW H} {p : List MemPlace} (hv : Value.okWide Tryd.prog W .any base 23 v) (h : DataW.Trod enc Tryd.prog W 0 (fun _ => true) true 23 v d p) :
    ∃ A c l, v = .slice A (List.length l) c ∧ TisA W A l := by
  obtain ⟨A, n, c, rfl⟩ := okWide_slice Tryd.underlying23 hv
  obtain ⟨fuel, hf⟩ := h
  exact open_tis hf
end Go.Proofs.YtodmbcoobjcooaaDoor
