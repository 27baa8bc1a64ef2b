/-
  A table of least costs that is filled cell by cell: which cells are done, and what a further cell holds; a world in which one block alone has been written. No condition.
-/
import Derived.Test.YthodoabppkeidaaGreatDoorCpMode
import Derived.StillTailTactics
import Derived.Deep.RegionHeld3
namespace Go.Proofs.YthodoabppkeidaaGreatDoor
open Go Go.RowKit
/-- Nothing but block g has turned; there may be new blocks and draws. -/
structure Upd (g : Nat) (a w : World) : Prop where
  os : w.os = a.os
  tape : w.tape = a.tape
  output : w.output = a.output
  size : a.heap.size ≤ w.heap.size
  block : ∀ i, i < a.heap.size → i ≠ g → w.heap[i]? = a.heap[i]?
theorem Upd.of {g : Nat} {a w : World} (h : New a w) : Upd g a w := ⟨h.out.os, h.out.tape, h.out.output, h.size, fun i hi _ => h.out.block i hi⟩
theorem Upd.refl (g : Nat) (w : World) : Upd g w w := Upd.of (New.refl w)
theorem Upd.trans {g : Nat} {a b c : World} (h : Upd g a b) (k : Upd g b c) : Upd g a c :=
  ⟨k.os.trans h.os, k.tape.trans h.tape, k.output.trans h.output, Nat.le_trans h.size k.size, fun i hi hn => (k.block i (Nat.lt_of_lt_of_le hi h.size) hn).trans (h.block i hi hn)⟩
theorem Upd.call {g : Nat} {a b c : World} (h : Upd g a b) (k : New b c) : Upd g a c := h.trans (Upd.of k)
theorem Upd.drew {g : Nat} {a w : World} (h : Upd g a w) : Upd g a w.drew := h.call ((New.refl _).drew)
theorem Upd.alloc {g : Nat} {a w : World} (h : Upd g a w) (o : Obj) : Upd g a (w.alloc o) := h.call ((New.refl _).alloc o)
theorem Upd.set {g : Nat} {a w : World} (h : Upd g a w) (i : Nat) (v : Value) : Upd g a (w.setCell ⟨g, i, none⟩ v) := by
  refine ⟨h.os, h.tape, h.output, by simpa [World.setCell] using h.size, fun k hk hn => ?_⟩
  rw [← h.block k hk hn]
  simp [World.setCell, Array.getElem?_modify, Ne.symm hn]
/-- The block is of the call's own. -/
theorem Upd.new {g : Nat} {w0 a w : World} (k : New w0 a) (hg : w0.heap.size ≤ g) (h : Upd g a w) : New w0 w :=
  ⟨h.os.trans k.out.os, h.tape.trans k.out.tape, h.output.trans k.out.output, Nat.le_trans k.size h.size, fun i hi => (h.block i (Nat.lt_of_lt_of_le hi k.size) (by omega)).trans (k.out.block i hi)⟩
theorem RowIs.upd {w w' : World} {g k : Nat} {e : TypeId} {cs : List Value} (h : RowIs w k e cs) (u : Upd g w w') (hne : k ≠ g) : RowIs w' k e cs := (u.block k h.lt hne).trans h
theorem TabAt.upd {w w' : World} {F : List Bytes} {g : Nat} (h : TabAt w F) (u : Upd g w w') (h1 : 0 ≠ g) (h2 : 1 ≠ g) : TabAt w' F := by
  obtain ⟨⟨t, c1⟩, ⟨s, c2⟩, c3⟩ := h
  exact ⟨⟨t, (u.block _ (Array.getElem?_eq_some_iff.1 c1).1 h1).trans c1⟩, ⟨s, (u.block _ (Array.getElem?_eq_some_iff.1 c2).1 h2).trans c2⟩, c3⟩
/-- A slice that reads as these values and lies elsewhere than in block g. -/
def SlOff (w : World) (g : Nat) (v : Value) (cs : List Value) : Prop :=
  ∃ A c, v = .slice A cs.length c ∧ cs.length ≤ c ∧ c ≤ 9223372036854775807 ∧ (0 < cs.length → ∃ b off, A = some ⟨b, off, none⟩ ∧ (b ≠ g ∧ b < w.heap.size) ∧ ∀ (i : Nat) x, cs[i]? = some x → w.cell? ⟨b, off + i, none⟩ = some x)
theorem SlAt.off {w w' : World} {v : Value} {cs : List Value} {g : Nat} (h : SlAt w v cs) (k : New w w') (hg : w.heap.size ≤ g) : SlOff w' g v cs := by
  obtain ⟨A, c, e, h1, h2, h3⟩ := h
  refine ⟨A, c, e, h1, h2, fun hn => ?_⟩
  obtain ⟨b, off, e2, hb, hc⟩ := h3 hn
  exact ⟨b, off, e2, ⟨by omega, Nat.lt_of_lt_of_le hb k.size⟩, fun i x hx => (k.cell (p := ⟨b, off + i, none⟩) hb).trans (hc i x hx)⟩
theorem SlOff.upd {w w' : World} {v : Value} {cs : List Value} {g : Nat} (h : SlOff w g v cs) (u : Upd g w w') : SlOff w' g v cs := by
  obtain ⟨A, c, e, h1, h2, h3⟩ := h
  refine ⟨A, c, e, h1, h2, fun hn => ?_⟩
  obtain ⟨b, off, e2, hb, hc⟩ := h3 hn
  refine ⟨b, off, e2, ⟨hb.1, Nat.lt_of_lt_of_le hb.2 u.size⟩, fun i x hx => ?_⟩
  rw [← hc i x hx]
  unfold World.cell?
  rw [u.block b hb.2 hb.1]
theorem cell_upd {w w' : World} {g b : Nat} (u : Upd g w w') (hb : b ≠ g) (hlt : b < w.heap.size) (o : Nat) : w'.cell? ⟨b, o, none⟩ = w.cell? ⟨b, o, none⟩ := by
  unfold World.cell?
  rw [u.block b hlt hb]
theorem RowIs.sliceOff {w : World} {k g : Nat} {e : TypeId} {cs : List Value} (h : RowIs w k e cs) (hl : cs.length ≤ 9223372036854775807) (hne : k ≠ g) : SlOff w g (.slice (some ⟨k, 0, none⟩) cs.length cs.length) cs :=
  ⟨_, _, rfl, Nat.le_refl _, hl, fun _ => ⟨k, 0, rfl, ⟨hne, h.lt⟩, fun i x hx => by rw [Nat.zero_add]; exact h.cell hx⟩⟩

section
variable {α : Type}
/-- What the p-th cell of the table of two lists holds. -/
def dpAt (c : Cs α) (s h : List α) (p : Nat) : Nat := lc c (s.take (p / (h.length + 1))) (h.take (p % (h.length + 1)))
theorem dp_div (i k m : Nat) (h : k ≤ m) : (i * (m + 1) + k) / (m + 1) = i ∧ (i * (m + 1) + k) % (m + 1) = k := by
  constructor
  · rw [Nat.add_comm, Nat.mul_comm, Nat.add_mul_div_left _ _ (by omega), Nat.div_eq_of_lt (by omega), Nat.zero_add]
  · rw [Nat.add_comm, Nat.mul_comm, Nat.add_mul_mod_self_left, Nat.mod_eq_of_lt (by omega)]
theorem dpAt_at (c : Cs α) (s h : List α) {i k : Nat} (hk : k ≤ h.length) : dpAt c s h (i * (h.length + 1) + k) = lc c (s.take i) (h.take k) := by
  obtain ⟨e1, e2⟩ := dp_div i k h.length hk
  rw [dpAt, e1, e2]
theorem dpAt_row0 (c : Cs α) (s h : List α) {k : Nat} (hk : k ≤ h.length) : dpAt c s h k = k * c.ex := by
  have := dpAt_at c s h (i := 0) hk
  rw [Nat.zero_mul, Nat.zero_add] at this
  rw [this, List.take_zero, lc_nil, List.length_take, Nat.min_eq_left hk]
theorem dpAt_col0 (c : Cs α) (s h : List α) {i : Nat} (hi : i ≤ s.length) : dpAt c s h (i * (h.length + 1)) = i * c.ms := by
  have := dpAt_at c s h (i := i) (k := 0) (Nat.zero_le _)
  rw [Nat.add_zero] at this
  rw [this, List.take_zero, lc_nil_r, List.length_take, Nat.min_eq_left hi]
theorem dpAt_step (c : Cs α) (s h : List α) {i k : Nat} (hi : i < s.length) (hk : k < h.length) : dpAt c s h ((i + 1) * (h.length + 1) + (k + 1)) =
    min (min (dpAt c s h (i * (h.length + 1) + k) + c.sw s[i] h[k]) (dpAt c s h (i * (h.length + 1) + (k + 1)) + c.ms)) (dpAt c s h ((i + 1) * (h.length + 1) + k) + c.ex) := by
  rw [dpAt_at c s h (by omega), dpAt_at c s h (by omega), dpAt_at c s h (by omega), dpAt_at c s h (by omega), lc_take s h i k hi hk]
  omega
theorem dpAt_last (c : Cs α) (s h : List α) : dpAt c s h ((s.length + 1) * (h.length + 1) - 1) = lc c s h := by
  have := dpAt_at c s h (i := s.length) (k := h.length) (Nat.le_refl _)
  rw [List.take_length, List.take_length] at this
  rw [← this]
  congr 1
  rw [Nat.add_mul]
  omega
theorem dpAt_le (c : Cs α) (s h : List α) (K : Nat) (hm : c.ms ≤ K) (he : c.ex ≤ K) (p : Nat) : dpAt c s h p ≤ (s.length + h.length) * K := by
  refine Nat.le_trans (lc_le _ _ K hm he) (Nat.mul_le_mul_right _ ?_)
  rw [List.length_take, List.length_take]
  omega
/-- The first p cells of the table in block g are done. -/
def Filled (w : World) (g : Nat) (e : TypeId) (c : Cs α) (s h : List α) (N p : Nat) : Prop :=
  ∃ cs : List Value, RowIs w g e cs ∧ cs.length = N ∧ ∀ q, q < p → cs[q]? = some (.int .i64 (dpAt c s h q : Nat))
theorem Filled.zero {w : World} {g : Nat} {e : TypeId} (c : Cs α) (s h : List α) {cs : List Value} (hr : RowIs w g e cs) : Filled w g e c s h cs.length 0 := ⟨cs, hr, rfl, fun q hq => absurd hq (by omega)⟩
theorem Filled.keep {w w' : World} {g : Nat} {e : TypeId} {c : Cs α} {s h : List α} {N p : Nat} (hf : Filled w g e c s h N p) (k : New w w') : Filled w' g e c s h N p := by
  obtain ⟨cs, h1, h2, h3⟩ := hf
  exact ⟨cs, h1.keep k, h2, h3⟩
theorem Filled.cell {w : World} {g : Nat} {e : TypeId} {c : Cs α} {s h : List α} {N p : Nat} (hf : Filled w g e c s h N p) {q : Nat} (hq : q < p) : w.cell? ⟨g, q, none⟩ = some (.int .i64 (dpAt c s h q : Nat)) := by
  obtain ⟨cs, h1, h2, h3⟩ := hf
  exact h1.cell (h3 q hq)
theorem Filled.there {w : World} {g : Nat} {e : TypeId} {c : Cs α} {s h : List α} {N p : Nat} (hf : Filled w g e c s h N p) {q : Nat} (hq : q < N) : ∃ v, w.cell? ⟨g, q, none⟩ = some v ∧ w.frozen? ⟨g, q, none⟩ = false := by
  obtain ⟨cs, h1, h2, h3⟩ := hf
  exact ⟨cs[q]'(by omega), h1.cell (List.getElem?_eq_getElem (by omega)), h1.free q⟩
theorem Filled.put {w : World} {g : Nat} {e : TypeId} {c : Cs α} {s h : List α} {N p : Nat} (hf : Filled w g e c s h N p) (hp : p < N) {n : Int} (hn : n = (dpAt c s h p : Nat)) : Filled (w.setCell ⟨g, p, none⟩ (.int .i64 n)) g e c s h N (p + 1) := by
  obtain ⟨cs, h1, h2, h3⟩ := hf
  refine ⟨_, h1.put p _, by rw [List.length_set]; exact h2, fun q hq => ?_⟩
  by_cases e : q = p
  · subst e
    rw [List.getElem?_set_self (by omega), hn]
  · rw [List.getElem?_set_ne (fun h => e h.symm)]
    exact h3 q (by omega)
end

end Go.Proofs.YthodoabppkeidaaGreatDoor
