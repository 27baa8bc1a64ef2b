/-
  Rows of cells that a call makes itself, and slices that read as a list of values: what a store, a new block, another call leave of them. No condition.
-/
import Derived.Test.YthodoabppkeidaaGreatDoorCpKey
import Derived.IntWalk
namespace Go.Proofs.YthodoabppkeidaaGreatDoor
open Go Go.RowKit
/-- Block g holds just these cells, none of them frozen. -/
def RowIs (w : World) (g : Nat) (e : TypeId) (cs : List Value) : Prop := w.heap[g]? = some (.cells cs.toArray e (0, 0))
theorem RowIs.new (w : World) (e : TypeId) (cs : List Value) : RowIs (w.alloc (.cells cs.toArray e)) w.heap.size e cs := heap_alloc_new w _
theorem RowIs.zeros (w : World) (e : TypeId) (n : Nat) (z : Value) : RowIs (w.alloc (.cells (Array.replicate n z) e)) w.heap.size e (List.replicate n z) := by
  rw [← List.toArray_replicate]
  exact RowIs.new w e _
theorem RowIs.lt {w : World} {g : Nat} {e : TypeId} {cs : List Value} (h : RowIs w g e cs) : g < w.heap.size := (Array.getElem?_eq_some_iff.1 h).1
theorem RowIs.keep {w w' : World} {g : Nat} {e : TypeId} {cs : List Value} (h : RowIs w g e cs) (k : New w w') : RowIs w' g e cs := heap_keep k h
theorem RowIs.cell {w : World} {g : Nat} {e : TypeId} {cs : List Value} (h : RowIs w g e cs) {i : Nat} {v : Value} (hv : cs[i]? = some v) : w.cell? ⟨g, i, none⟩ = some v := by
  rw [cell_of_row w g i _ _ _ h, List.getElem?_toArray, hv]
theorem RowIs.free {w : World} {g : Nat} {e : TypeId} {cs : List Value} (h : RowIs w g e cs) (i : Nat) : w.frozen? ⟨g, i, none⟩ = false := by
  unfold RowIs at h
  simp [World.frozen?, h]
theorem RowIs.put {w : World} {g : Nat} {e : TypeId} {cs : List Value} (h : RowIs w g e cs) (i : Nat) (v : Value) : RowIs (w.setCell ⟨g, i, none⟩ v) g e (cs.set i v) := by
  unfold RowIs at h ⊢
  simp [World.setCell, Array.getElem?_modify, h]
theorem RowIs.other {w : World} {g k : Nat} {e : TypeId} {cs : List Value} (h : RowIs w g e cs) (hne : k ≠ g) (i : Nat) (v : Value) : RowIs (w.setCell ⟨k, i, none⟩ v) g e cs := by
  unfold RowIs at h ⊢
  simp [World.setCell, Array.getElem?_modify, h, hne]
theorem RowIs.put3 {w : World} {g : Nat} {e : TypeId} {x y z : Value} (h : RowIs w g e [x, y, z]) (a b c : Value) :
    (((w.setCell ⟨g, 0, none⟩ a).setCell ⟨g, 1, none⟩ b).setCell ⟨g, 2, none⟩ c).cell? ⟨g, 0, none⟩ = some a ∧ (((w.setCell ⟨g, 0, none⟩ a).setCell ⟨g, 1, none⟩ b).setCell ⟨g, 2, none⟩ c).cell? ⟨g, 1, none⟩ = some b ∧
      (((w.setCell ⟨g, 0, none⟩ a).setCell ⟨g, 1, none⟩ b).setCell ⟨g, 2, none⟩ c).cell? ⟨g, 2, none⟩ = some c := by
  have h3 := ((h.put 0 a).put 1 b).put 2 c
  exact ⟨h3.cell rfl, h3.cell rfl, h3.cell rfl⟩
theorem RowIs.drew {w : World} {g : Nat} {e : TypeId} {cs : List Value} (h : RowIs w g e cs) : RowIs w.drew g e cs := h
/-- A slice that reads as these values, one cell each. -/
def SlAt (w : World) (v : Value) (cs : List Value) : Prop :=
  ∃ A c, v = .slice A cs.length c ∧ cs.length ≤ c ∧ c ≤ 9223372036854775807 ∧ (0 < cs.length → ∃ b off, A = some ⟨b, off, none⟩ ∧ b < w.heap.size ∧ ∀ (i : Nat) x, cs[i]? = some x → w.cell? ⟨b, off + i, none⟩ = some x)
theorem SlAt.keep {w w' : World} {v : Value} {cs : List Value} (h : SlAt w v cs) (k : New w w') : SlAt w' v cs := by
  obtain ⟨A, c, e, h1, h2, h3⟩ := h
  refine ⟨A, c, e, h1, h2, fun hn => ?_⟩
  obtain ⟨b, off, e2, hb, hc⟩ := h3 hn
  exact ⟨b, off, e2, Nat.lt_of_lt_of_le hb k.size, fun i x hx => (k.cell (p := ⟨b, off + i, none⟩) hb).trans (hc i x hx)⟩
theorem RowIs.slice {w : World} {g : Nat} {e : TypeId} {cs : List Value} (h : RowIs w g e cs) (hl : cs.length ≤ 9223372036854775807) : SlAt w (.slice (some ⟨g, 0, none⟩) cs.length cs.length) cs :=
  ⟨_, _, rfl, Nat.le_refl _, hl, fun _ => ⟨g, 0, rfl, h.lt, fun i x hx => by rw [Nat.zero_add]; exact h.cell hx⟩⟩
theorem SlAt.nil (w : World) : SlAt w (.slice none 0 0) [] := ⟨none, 0, rfl, Nat.le_refl _, by omega, fun h => absurd h (by simp)⟩
theorem made_rep (z : Value) (hz : z.cells = #[z]) (n : Nat) : madeCells z.cells (n * 1) = (List.replicate n z).toArray := by
  apply Array.ext
  · rw [size_madeCells]; simp
  · intro i h1 h2
    simp [madeCells, hz, Nat.mod_one]
/-- make([]T, n) at values of one cell: a new block of zero values. -/
theorem make_row {P : Program} {t e : TypeId} {z : Value} {bytes : Nat} (ht : P.underlying t = some (.slice e)) (hi : (P.info? e).map (fun i => (i.zero, i.size, i.bytes)) = some (some z, 1, bytes)) (hz : z.cells = #[z]) (hb : bytes ≤ 24) (n : Nat) (hn : n ≤ 1000000) (w : World) :
    (Instr.makeSlice t (.int .i64 n) (.int .i64 n)).run P w = .ok (.slice (some ⟨w.heap.size, 0, none⟩) n n) (w.alloc (.cells (Array.replicate n z) e)) := by
  obtain ⟨i, h1, h2, h3, h4⟩ := info_parts hi
  have hbb : (i.bytes : Int) * (n : Int) ≤ 281474976710656 := by
    rw [h4]
    have h6 : bytes * n ≤ 24 * 1000000 := Nat.mul_le_mul hb hn
    rw [← Int.natCast_mul]
    omega
  rw [run_make w t e i z ht h1 h2 .i64 .i64 n n (by omega) (by omega) hbb (by omega), h3]
  simp only [Int.toNat_natCast]
  rw [made_rep z hz, List.toArray_replicate]

end Go.Proofs.YthodoabppkeidaaGreatDoor
