/-
  Opening a row's argument of type []api.Prefix: the slice reads as a list of rows, whose texts are in memory.
-/
import Derived.Test.YtkbdmdnahphkkaaGreatDoorRow
import Derived.Test.YtkbdmdnahphkkaaGreatDoorTabSlice
namespace Go.Proofs.YtkbdmdnahphkkaaGreatDoor
open Go.RowKit
open Go.ChangeShapes Go.WideShapes Go.ChangeAt Go.Deep
instance : Inhabited Rw := ⟨⟨[], 0, 0, 0, 0, 0, false⟩⟩
theorem cells_prefix : Tryz.prog.cellsOf 49 = 7 := by kernel_rfl
theorem rows_int : Tryz.prog.cellsOf 3 = 1 := by kernel_rfl
theorem rows_str : Tryz.prog.cellsOf 9 = 1 := by kernel_rfl
theorem rows_bool : Tryz.prog.cellsOf 4 = 1 := by kernel_rfl
theorem seven_of {α : Type} : ∀ {l : List α}, l.length = 7 → ∃ a b c d e f g, l = [a, b, c, d, e, f, g]
  | [a, b, c, d, e, f, g], _ => ⟨a, b, c, d, e, f, g, rfl⟩
set_option maxHeartbeats 1000000 in
theorem open_rows {H : Type} {enc : TypeId × Value → H} {W : World} {A : Option Addr} {n c : Nat} {d : DataW H} {ps : List MemPlace} (h : DataW.Trod enc Tryz.prog W 0 (fun _ => true) true 22 (.slice A n c) d ps) :
    ∃ l, RowsAt W A n l ∧ TextsIn l ∧ n ≤ c ∧ c ≤ 9223372036854775807 := by
  obtain ⟨fuel, hf⟩ := h
  rcases open_slice Tryz.underlying22 hf with ⟨hcs, _⟩ | ⟨a, len, cap, m, k, D, Pl, hcs, _, hlc, hmax, hmm, _, hx⟩
  · simp [Value.cells] at hcs
    obtain ⟨rfl, rfl, rfl⟩ := hcs
    exact ⟨[], ⟨rfl, fun h => by omega⟩, (fun r hr => by cases hr), by omega, by omega⟩
  · simp [Value.cells] at hcs
    obtain ⟨rfl, rfl, rfl⟩ := hcs
    simp only [if_true] at hmm
    subst hmm
    have each : ∀ i, i < n → ∃ r : Rw, (W.cell? (a.add (i * 7)) = some (.string (B r.text)) ∧ W.cell? (a.add (i * 7 + 1)) = some (.int .i64 r.country) ∧ W.cell? (a.add (i * 7 + 2)) = some (.int .i64 r.zone) ∧ W.cell? (a.add (i * 7 + 3)) = some (.int .i64 r.cont) ∧
        W.cell? (a.add (i * 7 + 4)) = some (.int .i64 r.frm) ∧ W.cell? (a.add (i * 7 + 5)) = some (.int .i64 r.til) ∧ W.cell? (a.add (i * 7 + 6)) = some (.bool r.whole)) ∧ r.text.length ≤ 9223372036854775807 := by
      intro i hi
      obtain ⟨cs', h1, h2⟩ := hx i (by omega)
      rw [cells_prefix] at h1
      obtain ⟨_, hlen, hcell⟩ := World.cells?_some h1
      obtain ⟨xs, k, hk, hxy, _, hxl, hfl⟩ := DataW.trod_struct Tryz.underlying49 h2
      obtain ⟨y0, y1, y2, y3, y4, y5, y6, rfl⟩ := seven_of (show xs.length = 7 from hxl)
      obtain ⟨v0, v1, v2, v3, v4, v5, v6, rfl⟩ := seven_of hlen
      have g0 := hfl 0 _ rfl
      have g1 := hfl 1 _ rfl
      have g2 := hfl 2 _ rfl
      have g3 := hfl 3 _ rfl
      have g4 := hfl 4 _ rfl
      have g5 := hfl 5 _ rfl
      have g6 := hfl 6 _ rfl
      simp [rows_int, rows_str, rows_bool] at g0 g1 g2 g3 g4 g5 g6
      obtain ⟨z0, e0, _, hz⟩ := DataW.trod_string Tryz.underlying9 g0
      obtain ⟨z1, e1, _, _⟩ := DataW.trod_int Tryz.underlying3 g1
      obtain ⟨z2, e2, _, _⟩ := DataW.trod_int Tryz.underlying3 g2
      obtain ⟨z3, e3, _, _⟩ := DataW.trod_int Tryz.underlying3 g3
      obtain ⟨z4, e4, _, _⟩ := DataW.trod_int Tryz.underlying3 g4
      obtain ⟨z5, e5, _, _⟩ := DataW.trod_int Tryz.underlying3 g5
      obtain ⟨z6, e6, _⟩ := DataW.trod_bool Tryz.underlying4 g6
      have c0 := hcell 0 (by omega)
      have c1 := hcell 1 (by omega)
      have c2 := hcell 2 (by omega)
      have c3 := hcell 3 (by omega)
      have c4 := hcell 4 (by omega)
      have c5 := hcell 5 (by omega)
      have c6 := hcell 6 (by omega)
      rw [add_add] at c0 c1 c2 c3 c4 c5 c6
      simp at e0 e1 e2 e3 e4 e5 e6
      subst e0 e1 e2 e3 e4 e5 e6
      refine ⟨⟨bs z0, z1, z2, z3, z4, z5, z6⟩, ⟨by simpa using c0, by simpa using c1, by simpa using c2, by simpa using c3, by simpa using c4, by simpa using c5, by simpa using c6⟩, ?_⟩
      show (bs z0).length ≤ _
      rw [bs_size]
      exact hz
    obtain ⟨q, hq⟩ := choose_lt each
    refine ⟨(List.range n).map q, ⟨by simp, fun hn => ?_⟩, ?_, hlc, hmax⟩
    · obtain ⟨b, off, spot⟩ := a
      have hspot : spot = none := by simpa [Addr.add] using World.cell?_spot (hq 0 hn).1.1
      subst hspot
      refine ⟨b, off, rfl, World.block_lt_of_cell? W ⟨b, off + 0 * 7, none⟩ (by have := (hq 0 hn).1.1; rwa [add_plain] at this), fun i hi => ?_⟩
      have hi' : i < n := by simpa using hi
      have := (hq i hi').1
      simp only [add_plain, ← Nat.add_assoc] at this
      simpa [RowAt] using this
    · intro r hr
      obtain ⟨i, hi, rfl⟩ := List.mem_map.1 hr
      exact (hq i (List.mem_range.1 hi)).2

end Go.Proofs.YtkbdmdnahphkkaaGreatDoor
