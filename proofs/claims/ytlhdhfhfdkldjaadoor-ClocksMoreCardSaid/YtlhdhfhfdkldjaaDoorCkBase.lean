/-
  What the walks over systems of clocks use: rows of cells that a call makes itself, slices of numbers, of tracks and of ties in memory, and what a later world keeps of them. No condition.
-/
import Derived.Test.YtlhdhfhfdkldjaaDoorProg
import Derived.Test.YtlhdhfhfdkldjaaDoorBase
import Derived.Test.YtlhdhfhfdkldjaaDoorCkSys
import Derived.Laws.Rows
import Derived.Deep.RegionHeld3
import Derived.Outline
import Derived.IntWalk
namespace Go.Proofs.YtlhdhfhfdkldjaaDoor
open Go Go.RowKit
theorem heap_keep {w w' : World} (k : New w w') {g : Nat} {o : Obj} (h : w.heap[g]? = some o) : w'.heap[g]? = some o := (k.out.block g (Array.getElem?_eq_some_iff.1 h).1).trans h
theorem lt_of_cell {w : World} {b i : Nat} {v : Value} (h : w.cell? ⟨b, i, none⟩ = some v) : b < w.heap.size := World.block_lt_of_cell? w _ h
theorem New.cellOf {w w' : World} (h : New w w') {b i : Nat} {v : Value} (hc : w.cell? ⟨b, i, none⟩ = some v) : w'.cell? ⟨b, i, none⟩ = some v := (h.cell (p := ⟨b, i, none⟩) (lt_of_cell hc)).trans hc
theorem grown_of {w w' : World} (h : New w w') (r : Option Nat) : w.grownBy w' r := ⟨h.out.os, h.out.tape, h.out.output, h.size, fun k hk _ => h.out.block k hk⟩
/-- Block g holds just these cells, none of them frozen. -/
def RowIs (w : World) (g : Nat) (e : TypeId) (cs : List Value) : Prop := w.heap[g]? = some (.cells cs.toArray e (0, 0))
theorem RowIs.new (w : World) (e : TypeId) (cs : List Value) : RowIs (w.alloc (.cells cs.toArray e)) w.heap.size e cs := heap_alloc_new w _
theorem RowIs.zeros (w : World) (e : TypeId) (n : Nat) (z : Value) : RowIs (w.alloc (.cells (Array.replicate n z) e)) w.heap.size e (List.replicate n z) := by
  rw [← List.toArray_replicate]
  exact RowIs.new w e _
theorem RowIs.lt {w : World} {g : Nat} {e : TypeId} {cs : List Value} (h : RowIs w g e cs) : g < w.heap.size := (Array.getElem?_eq_some_iff.1 h).1
theorem RowIs.keep {w w' : World} {g : Nat} {e : TypeId} {cs : List Value} (h : RowIs w g e cs) (k : New w w') : RowIs w' g e cs := heap_keep k h
theorem RowIs.cell {w : World} {g : Nat} {e : TypeId} {cs : List Value} (h : RowIs w g e cs) {i : Nat} {v : Value} (hv : cs[i]? = some v) : w.cell? ⟨g, i, none⟩ = some v := by
  rw [cell_of_row w g i _ _ _ h, List.getElem?_toArray, hv]
theorem RowIs.free {w : World} {g : Nat} {e : TypeId} {cs : List Value} (h : RowIs w g e cs) (i : Nat) : w.frozen? ⟨g, i, none⟩ = false := by
  unfold RowIs at h
  simp [World.frozen?, h]
theorem RowIs.put {w : World} {g : Nat} {e : TypeId} {cs : List Value} (h : RowIs w g e cs) (i : Nat) (v : Value) : RowIs (w.setCell ⟨g, i, none⟩ v) g e (cs.set i v) := by
  unfold RowIs at h ⊢
  simp [World.setCell, Array.getElem?_modify, h]
theorem RowIs.other {w : World} {g k : Nat} {e : TypeId} {cs : List Value} (h : RowIs w g e cs) (hne : k ≠ g) (i : Nat) (v : Value) : RowIs (w.setCell ⟨k, i, none⟩ v) g e cs := by
  unfold RowIs at h ⊢
  simp [World.setCell, Array.getElem?_modify, h, hne]
theorem RowIs.drew {w : World} {g : Nat} {e : TypeId} {cs : List Value} (h : RowIs w g e cs) : RowIs w.drew g e cs := h
theorem made_rep (z : Value) (hz : z.cells = #[z]) (n : Nat) : madeCells z.cells (n * 1) = (List.replicate n z).toArray := by
  apply Array.ext
  · rw [size_madeCells]; simp
  · intro i h1 h2
    simp [madeCells, hz, Nat.mod_one]
/-- make([]T, n) at values of one cell: a new block of zero values. -/
theorem make_row {P : Program} {t e : TypeId} {z : Value} {bytes : Nat} (ht : P.underlying t = some (.slice e)) (hi : (P.info? e).map (fun i => (i.zero, i.size, i.bytes)) = some (some z, 1, bytes)) (hz : z.cells = #[z]) (hb : bytes ≤ 24) (n : Nat) (hn : n ≤ 1000000) (w : World) :
    (Instr.makeSlice t (.int .i64 n) (.int .i64 n)).run P w = .ok (.slice (some ⟨w.heap.size, 0, none⟩) n n) (w.alloc (.cells (Array.replicate n z) e)) := by
  obtain ⟨i, h1, h2, h3, h4⟩ := info_parts hi
  have hbb : (i.bytes : Int) * (n : Int) ≤ 281474976710656 := by
    rw [h4]
    have h6 : bytes * n ≤ 24 * 1000000 := Nat.mul_le_mul hb hn
    rw [← Int.natCast_mul]
    omega
  rw [run_make w t e i z ht h1 h2 .i64 .i64 n n (by omega) (by omega) hbb (by omega), h3]
  simp only [Int.toNat_natCast]
  rw [made_rep z hz, List.toArray_replicate]
/-- Numbers in memory. -/
def IntsA (w : World) (A : Option Addr) (l : List Int) : Prop :=
  l.length ≤ 9223372036854775807 ∧ (0 < l.length → ∃ b off, A = some ⟨b, off, none⟩ ∧ b < w.heap.size ∧ ∀ i, i < l.length → w.cell? ⟨b, off + i, none⟩ = some (.int .i64 (l[i]?.getD 0)))
theorem IntsA.keep {w w' : World} {A : Option Addr} {l : List Int} (h : IntsA w A l) (k : New w w') : IntsA w' A l :=
  ⟨h.1, fun h0 => by
    obtain ⟨b, off, e, hb, hc⟩ := h.2 h0
    exact ⟨b, off, e, Nat.lt_of_lt_of_le hb k.size, fun i hi => (k.cell (p := ⟨b, off + i, none⟩) hb).trans (hc i hi)⟩⟩
theorem IntsA.nil (w : World) (A : Option Addr) : IntsA w A [] := ⟨by simp, fun h => absurd h (by simp)⟩
/-- A track in memory. -/
def TkC (w : World) (b o : Nat) (t : Tk) : Prop :=
  ∃ JA jc TA tc, w.cell? ⟨b, o, none⟩ = some (.int .i64 t.slip) ∧ w.cell? ⟨b, o + 1, none⟩ = some (.int .i64 t.drift) ∧ w.cell? ⟨b, o + 2, none⟩ = some (.slice JA t.jumps.length jc) ∧ w.cell? ⟨b, o + 3, none⟩ = some (.slice TA t.times.length tc) ∧ IntsA w JA t.jumps ∧ IntsA w TA t.times
theorem TkC.keep {w w' : World} {b o : Nat} {t : Tk} (h : TkC w b o t) (k : New w w') : TkC w' b o t := by
  obtain ⟨JA, jc, TA, tc, h1, h2, h3, h4, h5, h6⟩ := h
  exact ⟨JA, jc, TA, tc, k.cellOf h1, k.cellOf h2, k.cellOf h3, k.cellOf h4, h5.keep k, h6.keep k⟩
def TksA (w : World) (A : Option Addr) (l : List Tk) : Prop :=
  l.length ≤ 9223372036854775807 ∧ (0 < l.length → ∃ b off, A = some ⟨b, off, none⟩ ∧ b < w.heap.size ∧ ∀ i, i < l.length → TkC w b (off + i * 4) (l[i]?.getD default))
theorem TksA.keep {w w' : World} {A : Option Addr} {l : List Tk} (h : TksA w A l) (k : New w w') : TksA w' A l :=
  ⟨h.1, fun h0 => by
    obtain ⟨b, off, e, hb, hc⟩ := h.2 h0
    exact ⟨b, off, e, Nat.lt_of_lt_of_le hb k.size, fun i hi => (hc i hi).keep k⟩⟩
/-- A tie in memory. -/
def TiC (w : World) (b o : Nat) (t : Ti) : Prop :=
  w.cell? ⟨b, o, none⟩ = some (.int .i64 t.a.log) ∧ w.cell? ⟨b, o + 1, none⟩ = some (.int .i64 t.a.line) ∧ w.cell? ⟨b, o + 2, none⟩ = some (.int .i64 t.b.log) ∧ w.cell? ⟨b, o + 3, none⟩ = some (.int .i64 t.b.line)
theorem TiC.keep {w w' : World} {b o : Nat} {t : Ti} (h : TiC w b o t) (k : New w w') : TiC w' b o t := ⟨k.cellOf h.1, k.cellOf h.2.1, k.cellOf h.2.2.1, k.cellOf h.2.2.2⟩
def TisA (w : World) (A : Option Addr) (l : List Ti) : Prop :=
  l.length ≤ 9223372036854775807 ∧ (0 < l.length → ∃ b off, A = some ⟨b, off, none⟩ ∧ b < w.heap.size ∧ ∀ i, i < l.length → TiC w b (off + i * 4) (l[i]?.getD default))
theorem TisA.keep {w w' : World} {A : Option Addr} {l : List Ti} (h : TisA w A l) (k : New w w') : TisA w' A l :=
  ⟨h.1, fun h0 => by
    obtain ⟨b, off, e, hb, hc⟩ := h.2 h0
    exact ⟨b, off, e, Nat.lt_of_lt_of_le hb k.size, fun i hi => (hc i hi).keep k⟩⟩
theorem TisA.nil (w : World) (A : Option Addr) : TisA w A [] := ⟨by simp, fun h => absurd h (by simp)⟩
/-- A system in memory: where its tracks and its ties lie. -/
def SysM (w : World) (A D : Option Addr) (s : Sy) : Prop := TksA w A s.tracks ∧ TisA w D s.ties
theorem SysM.keep {w w' : World} {A D : Option Addr} {s : Sy} (h : SysM w A D s) (k : New w w') : SysM w' A D s := ⟨h.1.keep k, h.2.keep k⟩
/-- A track, as a value. -/
def TkM (w : World) (JA TA : Option Addr) (t : Tk) : Prop := IntsA w JA t.jumps ∧ IntsA w TA t.times
theorem TkM.keep {w w' : World} {JA TA : Option Addr} {t : Tk} (h : TkM w JA TA t) (k : New w w') : TkM w' JA TA t := ⟨h.1.keep k, h.2.keep k⟩
theorem getD_get {α : Type} [Inhabited α] {l : List α} {i : Nat} (h : i < l.length) : l[i]?.getD default = l[i] := by rw [List.getElem?_eq_getElem h]; rfl
theorem drop_at {α : Type} [Inhabited α] {l : List α} {i : Nat} (h : i < l.length) : l.drop i = (l[i]?.getD default) :: l.drop (i + 1) := by rw [getD_get h]; exact List.drop_eq_getElem_cons h
theorem drop_int {l : List Int} {i : Nat} (h : i < l.length) : l.drop i = (l[i]?.getD 0) :: l.drop (i + 1) := drop_at h
theorem take_at {α : Type} [Inhabited α] {l : List α} {i : Nat} (h : i < l.length) : l.take (i + 1) = l.take i ++ [l[i]?.getD default] := by rw [getD_get h]; exact List.take_succ_eq_append_getElem h
end Go.Proofs.YtlhdhfhfdkldjaaDoor
