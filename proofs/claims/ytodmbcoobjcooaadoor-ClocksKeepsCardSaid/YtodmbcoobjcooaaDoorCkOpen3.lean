/-
  Lists of bounds that are arguments, their numbers those of 64 bits. No condition.
-/
import Derived.Test.YtodmbcoobjcooaaDoorCkOpen2
import Derived.Test.YtodmbcoobjcooaaDoorCkSet
namespace Go.Proofs.YtodmbcoobjcooaaDoor
open Go Go.RowKit Go.Shelf
open Go.ChangeShapes Go.WideShapes Go.ChangeAt Go.Deep
theorem open_rfw {H : Type} {enc : TypeId × Value → H} {W : World} {fuel : Nat} {v0 v1 : Value} {y : DataW H × List MemPlace} (h : DataW.trod enc Tryd.prog W 0 (fun _ => true) true fuel 53 [v0, v1] = some y) : ∃ r : Rf, v0 = .int .i64 r.log ∧ v1 = .int .i64 r.line ∧ (Lit.int .i64 r.log).wf = true ∧ (Lit.int .i64 r.line).wf = true := by
  obtain ⟨xs, k, hk, hxy, _, hxl, hfl⟩ := DataW.trod_struct Tryd.underlying53 h
  obtain ⟨y0, y1, rfl⟩ := list2 (show xs.length = 2 from hxl)
  have f0 := hfl 0 _ rfl
  have f1 := hfl 1 _ rfl
  simp [one_int] at f0 f1
  obtain ⟨z0, e0, _, p0⟩ := DataW.trod_int Tryd.underlying3 f0
  obtain ⟨z1, e1, _, p1⟩ := DataW.trod_int Tryd.underlying3 f1
  simp at e0 e1
  exact ⟨⟨z0, z1⟩, e0, e1, p0, p1⟩
theorem open_bdw1 {H : Type} {enc : TypeId × Value → H} {W : World} {fuel : Nat} {v0 v1 v2 v3 v4 v5 v6 : Value} {y : DataW H × List MemPlace} (h : DataW.trod enc Tryd.prog W 0 (fun _ => true) true fuel 91 [v0, v1, v2, v3, v4, v5, v6] = some y) :
    ∃ t : Bd, v0 = .int .i64 t.frm.log ∧ v1 = .int .i64 t.frm.line ∧ v2 = .int .i64 t.to.log ∧ v3 = .int .i64 t.to.line ∧ v4 = .int .i64 t.most ∧ v5 = .int .i64 t.kind ∧ v6 = .int .i64 t.id ∧ BdW t := by
  obtain ⟨xs, k, hk, hxy, _, hxl, hfl⟩ := DataW.trod_struct Tryd.underlying91 h
  have hl5 : xs.length = 5 := hxl
  match xs, hl5 with
  | [u0, u1, u2, u3, u4], _ =>
  have g0 := hfl 0 _ rfl
  have g1 := hfl 1 _ rfl
  have g2 := hfl 2 _ rfl
  have g3 := hfl 3 _ rfl
  have g4 := hfl 4 _ rfl
  simp [one_int, cells_ref] at g0 g1 g2 g3 g4
  obtain ⟨a, e0, e1, p1, p2⟩ := open_rfw g0
  obtain ⟨b, e2, e3, p3, p4⟩ := open_rfw g1
  obtain ⟨z2, e4, _, p5⟩ := DataW.trod_int Tryd.underlying3 g2
  obtain ⟨z3, e5, _, p6⟩ := DataW.trod_int Tryd.underlying3 g3
  obtain ⟨z4, e6, _, p7⟩ := DataW.trod_int Tryd.underlying3 g4
  simp at e4 e5 e6
  exact ⟨⟨a, b, z2, z3, z4⟩, e0, e1, e2, e3, e4, e5, e6, p1, p2, p3, p4, p5, p6, p7⟩
set_option maxRecDepth 100000 in
theorem open_bdsw1 {H : Type} {enc : TypeId × Value → H} {W : World} {fuel : Nat} {v : Value} {y : DataW H × List MemPlace} (h : DataW.trod enc Tryd.prog W 0 (fun _ => true) true fuel 36 [v] = some y) : ∃ A c l, v = .slice A (List.length l) c ∧ BnsA W A l ∧ ∀ b ∈ l, BdW b := by
  rcases open_slice Tryd.underlying36 h with ⟨hcs, _⟩ | ⟨a, len, cap, m, k, D, Pl, hcs, _, hlc, hmax, hmm, _, hx⟩
  · simp only [List.cons.injEq, and_true] at hcs
    subst hcs
    exact ⟨none, 0, [], rfl, ⟨by simp, fun h => absurd h (by simp)⟩, fun _ h => by cases h⟩
  · simp only [List.cons.injEq, and_true] at hcs
    subst hcs
    simp only [if_true] at hmm
    subst hmm
    have hsp : 0 < len → a.spot = none := fun h0 => by
      obtain ⟨cs', g1, g2⟩ := hx 0 (by omega)
      rw [cells_bound] at g1
      obtain ⟨_, hlen, hcell⟩ := World.cells?_some g1
      obtain ⟨v0, v1, v2, v3, v4, v5, v6, rfl⟩ := list7 hlen
      have c0 := hcell 0 (by omega)
      have h9 := World.cell?_spot c0
      simpa [Addr.add] using h9
    have each : ∀ i, i < len → ∃ t : Bd, (a.spot = none ∧ BdC W a.block (a.off + i * 7) t) ∧ BdW t := by
      intro i hi
      obtain ⟨cs', g1, g2⟩ := hx i (by omega)
      rw [cells_bound] at g1
      obtain ⟨_, hlen, hcell⟩ := World.cells?_some g1
      obtain ⟨v0, v1, v2, v3, v4, v5, v6, rfl⟩ := list7 hlen
      obtain ⟨t, rfl, rfl, rfl, rfl, rfl, rfl, rfl, hw⟩ := open_bdw1 g2
      have c0 := hcell 0 (by omega)
      have c1 := hcell 1 (by omega)
      have c2 := hcell 2 (by omega)
      have c3 := hcell 3 (by omega)
      have c4 := hcell 4 (by omega)
      have c5 := hcell 5 (by omega)
      have c6 := hcell 6 (by omega)
      obtain ⟨b, off, spot⟩ := a
      have hs : spot = none := hsp (by omega)
      subst hs
      rw [add_off, add_off] at c0 c1 c2 c3 c4 c5 c6
      exact ⟨t, ⟨rfl, by simpa using c0, by simpa using c1, by simpa using c2, by simpa using c3, by simpa using c4, by simpa using c5, by simpa using c6⟩, hw⟩
    obtain ⟨q, hq⟩ := each_choose each
    have hll : ((List.range len).map q).length = len := by simp
    unfold maxLen at hmax
    refine ⟨some a, m, (List.range len).map q, by rw [hll], ⟨by rw [hll]; omega, fun h0 => ?_⟩, fun b hb => ?_⟩
    rotate_left
    · obtain ⟨i, hi, rfl⟩ := List.mem_map.1 hb
      exact (hq i (List.mem_range.1 hi)).2
    rw [hll] at h0
    obtain ⟨b, off, spot⟩ := a
    have hs := (hq 0 h0).1.1
    dsimp only at hs
    subst hs
    refine ⟨b, off, rfl, lt_of_cell (hq 0 h0).1.2.1, fun i hi => ?_⟩
    rw [hll] at hi
    rw [List.getElem?_map, List.getElem?_range hi]
    exact (hq i hi).1.2
set_option maxRecDepth 100000 in
theorem open_bdsw {H : Type} {enc : TypeId × Value → H} {W : World} {base : Nat} {v : Value} {d : DataW H} {p : List MemPlace} (hv : Value.okWide Tryd.prog W .any base 36 v) (h : DataW.Trod enc Tryd.prog W 0 (fun _ => true) true 36 v d p) :
    ∃ A c l, v = .slice A (List.length l) c ∧ BnsA W A l ∧ ∀ b ∈ l, BdW b := by
  obtain ⟨A, n, c, rfl⟩ := okWide_slice Tryd.underlying36 hv
  obtain ⟨fuel, hf⟩ := h
  exact open_bdsw1 hf
end Go.Proofs.YtodmbcoobjcooaaDoor
