/-
  The closures of chain: whether two numbers can stay both, and how many can stay behind one, with a memory. Condition: the closures' memory lies apart.
-/
import Derived.Test.YthodoabppkeidaaGreatDoorCpConcat
import Derived.Test.YthodoabppkeidaaGreatDoorCpChn
import Derived.Deep.LoopGhost
namespace Go.Proofs.YthodoabppkeidaaGreatDoor
open Go Go.RowKit
/-- A row of numbers that a function tells. -/
def rowF (n : Nat) (f : Nat → Nat) : List Value := (List.range n).map fun j => intV (f j)
theorem rowF_len (n : Nat) (f : Nat → Nat) : (rowF n f).length = n := by simp [rowF]
theorem rowF_at {n i : Nat} (f : Nat → Nat) (h : i < n) : (rowF n f)[i]? = some (intV (f i)) := by
  rw [rowF, List.getElem?_map, List.getElem?_range h]; rfl
def updF (f : Nat → Nat) (i v : Nat) : Nat → Nat := fun j => if j = i then v else f j
theorem updF_same (f : Nat → Nat) (i v : Nat) : updF f i v i = v := if_pos rfl
theorem updF_other (f : Nat → Nat) {i j : Nat} (v : Nat) (h : j ≠ i) : updF f i v j = f j := if_neg h
theorem rowF_set (n : Nat) (f : Nat → Nat) (i v : Nat) : (rowF n f).set i (intV v) = rowF n (updF f i v) := by
  apply List.ext_getElem?
  intro j
  rw [List.getElem?_set]
  by_cases hj : j < n
  · rw [rowF_at _ hj, rowF_at _ hj, rowF_len]
    by_cases e : i = j
    · subst e; rw [if_pos rfl, if_pos hj, updF_same]
    · rw [if_neg e, updF_other _ _ (Ne.symm e)]
  · rw [List.getElem?_eq_none (l := rowF n f) (by rw [rowF_len]; omega), List.getElem?_eq_none (l := rowF n (updF f i v)) (by rw [rowF_len]; omega), rowF_len]
    by_cases e : i = j
    · subst e; rw [if_pos rfl, if_neg hj]
    · rw [if_neg e]
/-- The memory of the closures. -/
structure ChAt (W : World) (p3 p4 p5 p6 p7 p8 gs gn gm : Nat) (a : Nat → Int) (last mc : Nat) (Sz Nx : Nat → Nat) : Prop where
  c3 : W.cell? ⟨p3, 0, none⟩ = some (.slice (some ⟨gm, 0, none⟩) (last + 1) mc)
  c4 : W.cell? ⟨p4, 0, none⟩ = some (.int .i64 last)
  c5 : W.cell? ⟨p5, 0, none⟩ = some (.func (.func 119) #[] #[.pointer (some ⟨p3, 0, none⟩)])
  c6 : W.cell? ⟨p6, 0, none⟩ = some (.slice (some ⟨gs, 0, none⟩) (last + 1) (last + 1))
  c7 : W.cell? ⟨p7, 0, none⟩ = some (.slice (some ⟨gn, 0, none⟩) (last + 1) (last + 1))
  c8 : W.cell? ⟨p8, 0, none⟩ = some (.func (.func 120) #[] #[.pointer (some ⟨p4, 0, none⟩), .pointer (some ⟨p6, 0, none⟩), .pointer (some ⟨p5, 0, none⟩), .pointer (some ⟨p8, 0, none⟩), .pointer (some ⟨p7, 0, none⟩)])
  cm : ∀ i, i ≤ last → W.cell? ⟨gm, i, none⟩ = some (.int .i64 (a i))
  rs : RowIs W gs 3 (rowF (last + 1) Sz)
  rn : RowIs W gn 3 (rowF (last + 1) Nx)
  ne : gs ≠ gn
  ks : ∀ k ∈ [p3, p4, p5, p6, p7, p8, gm], k ≠ gs ∧ k ≠ gn ∧ k < W.heap.size
  av : ∀ i, i ≤ last → 0 ≤ a i ∧ a i ≤ 100000
  small : last ≤ 1000
variable {W : World} {p3 p4 p5 p6 p7 p8 gs gn gm : Nat} {a : Nat → Int} {last mc : Nat} {Sz Nx : Nat → Nat}
theorem ChAt.keep {W' : World} (h : ChAt W p3 p4 p5 p6 p7 p8 gs gn gm a last mc Sz Nx) (k : New W W') : ChAt W' p3 p4 p5 p6 p7 p8 gs gn gm a last mc Sz Nx := by
  have hk := h.ks
  simp only [List.mem_cons, List.not_mem_nil, or_false, forall_eq_or_imp, forall_eq] at hk
  obtain ⟨k3, k4, k5, k6, k7, k8, km⟩ := hk
  exact ⟨(k.cell (p := ⟨p3, 0, none⟩) k3.2.2).trans h.c3, (k.cell (p := ⟨p4, 0, none⟩) k4.2.2).trans h.c4, (k.cell (p := ⟨p5, 0, none⟩) k5.2.2).trans h.c5, (k.cell (p := ⟨p6, 0, none⟩) k6.2.2).trans h.c6, (k.cell (p := ⟨p7, 0, none⟩) k7.2.2).trans h.c7, (k.cell (p := ⟨p8, 0, none⟩) k8.2.2).trans h.c8,
    fun i hi => (k.cell (p := ⟨gm, i, none⟩) km.2.2).trans (h.cm i hi), h.rs.keep k, h.rn.keep k, h.ne, fun x hx => ⟨(h.ks x hx).1, (h.ks x hx).2.1, Nat.lt_of_lt_of_le (h.ks x hx).2.2 k.size⟩, h.av, h.small⟩
theorem cell_other (W : World) {g k i j : Nat} {u : Value} (h : k ≠ g) : (W.setCell ⟨g, i, none⟩ u).cell? ⟨k, j, none⟩ = W.cell? ⟨k, j, none⟩ :=
  World.cell?_of_block (by simp [World.setCell, Array.getElem?_modify, Ne.symm h])
theorem ChAt.putS (h : ChAt W p3 p4 p5 p6 p7 p8 gs gn gm a last mc Sz Nx) (i v : Nat) : ChAt (W.setCell ⟨gs, i, none⟩ (intV v)) p3 p4 p5 p6 p7 p8 gs gn gm a last mc (updF Sz i v) Nx := by
  have hk := h.ks
  simp only [List.mem_cons, List.not_mem_nil, or_false, forall_eq_or_imp, forall_eq] at hk
  obtain ⟨k3, k4, k5, k6, k7, k8, km⟩ := hk
  exact ⟨(cell_other W k3.1).trans h.c3, (cell_other W k4.1).trans h.c4, (cell_other W k5.1).trans h.c5, (cell_other W k6.1).trans h.c6, (cell_other W k7.1).trans h.c7, (cell_other W k8.1).trans h.c8,
    fun j hj => (cell_other W km.1).trans (h.cm j hj), by rw [← rowF_set]; exact h.rs.put i (intV v), h.rn.other h.ne i _, h.ne, fun x hx => ⟨(h.ks x hx).1, (h.ks x hx).2.1, by simpa [World.setCell] using (h.ks x hx).2.2⟩, h.av, h.small⟩
theorem ChAt.putN (h : ChAt W p3 p4 p5 p6 p7 p8 gs gn gm a last mc Sz Nx) (i v : Nat) : ChAt (W.setCell ⟨gn, i, none⟩ (intV v)) p3 p4 p5 p6 p7 p8 gs gn gm a last mc Sz (updF Nx i v) := by
  have hk := h.ks
  simp only [List.mem_cons, List.not_mem_nil, or_false, forall_eq_or_imp, forall_eq] at hk
  obtain ⟨k3, k4, k5, k6, k7, k8, km⟩ := hk
  exact ⟨(cell_other W k3.2.1).trans h.c3, (cell_other W k4.2.1).trans h.c4, (cell_other W k5.2.1).trans h.c5, (cell_other W k6.2.1).trans h.c6, (cell_other W k7.2.1).trans h.c7, (cell_other W k8.2.1).trans h.c8,
    fun j hj => (cell_other W km.2.1).trans (h.cm j hj), h.rs.other (Ne.symm h.ne) i _, by rw [← rowF_set]; exact h.rn.put i (intV v), h.ne, fun x hx => ⟨(h.ks x hx).1, (h.ks x hx).2.1, by simpa [World.setCell] using (h.ks x hx).2.2⟩, h.av, h.small⟩
/-- Nothing has turned but two blocks. -/
structure Upd2 (g h : Nat) (a w : World) : Prop where
  os : w.os = a.os
  tape : w.tape = a.tape
  output : w.output = a.output
  size : a.heap.size ≤ w.heap.size
  block : ∀ i, i < a.heap.size → i ≠ g → i ≠ h → w.heap[i]? = a.heap[i]?
theorem Upd2.of {g h : Nat} {a w : World} (k : New a w) : Upd2 g h a w := ⟨k.out.os, k.out.tape, k.out.output, k.size, fun i hi _ _ => k.out.block i hi⟩
theorem Upd2.refl (g h : Nat) (w : World) : Upd2 g h w w := Upd2.of (New.refl w)
theorem Upd2.trans {g h : Nat} {a b c : World} (x : Upd2 g h a b) (k : Upd2 g h b c) : Upd2 g h a c :=
  ⟨k.os.trans x.os, k.tape.trans x.tape, k.output.trans x.output, Nat.le_trans x.size k.size, fun i hi hn hm => (k.block i (Nat.lt_of_lt_of_le hi x.size) hn hm).trans (x.block i hi hn hm)⟩
theorem Upd2.call {g h : Nat} {a b c : World} (x : Upd2 g h a b) (k : New b c) : Upd2 g h a c := x.trans (Upd2.of k)
theorem Upd2.set1 {g h : Nat} {a w : World} (x : Upd2 g h a w) (i : Nat) (v : Value) : Upd2 g h a (w.setCell ⟨g, i, none⟩ v) :=
  ⟨x.os, x.tape, x.output, by simpa [World.setCell] using x.size, fun k hk hn hm => by
    rw [← x.block k hk hn hm]
    simp [World.setCell, Array.getElem?_modify, Ne.symm hn]⟩
theorem Upd2.set2 {g h : Nat} {a w : World} (x : Upd2 g h a w) (i : Nat) (v : Value) : Upd2 g h a (w.setCell ⟨h, i, none⟩ v) :=
  ⟨x.os, x.tape, x.output, by simpa [World.setCell] using x.size, fun k hk hn hm => by
    rw [← x.block k hk hn hm]
    simp [World.setCell, Array.getElem?_modify, Ne.symm hm]⟩
theorem Upd2.new {g h : Nat} {w0 a w : World} (k : New w0 a) (hg : w0.heap.size ≤ g) (hh : w0.heap.size ≤ h) (x : Upd2 g h a w) : New w0 w :=
  ⟨x.os.trans k.out.os, x.tape.trans k.out.tape, x.output.trans k.out.output, Nat.le_trans k.size x.size, fun i hi => (x.block i (Nat.lt_of_lt_of_le hi k.size) (by omega) (by omega)).trans (k.out.block i hi)⟩
set_option maxHeartbeats 1000000 in
/-- Whether both numbers can stay. -/
theorem cp_stay (h : ChAt W p3 p4 p5 p6 p7 p8 gs gn gm a last mc Sz Nx) (i k : Nat) (hi : i ≤ last) (hk : k ≤ last) :
    Calls Tryz.prog 119 #[.int .i64 i, .int .i64 k, .pointer (some ⟨p3, 0, none⟩)] W fun e w' => e = .returned (.bool (okS a i k)) ∧ ∃ n, w' = W.drewN n := by
  have c3 := h.c3
  have m1 := h.cm i hi
  have m2 := h.cm k hk
  have v1 := h.av i hi
  have v2 := h.av k hk
  have sm := h.small
  unfold okS
  generalize a i = x at *
  generalize a k = y at *
  clear h
  have i1 : (i : Int) < ((last + 1 : Nat) : Int) := by omega
  have i2 : (k : Int) < ((last + 1 : Nat) : Int) := by omega
  have i3 : IntKind.i64.wrap (y - x) = y - x := IntWalk.i64_in _ (by omega)
  have i4 : IntKind.i64.wrap ((k : Int) - (i : Int)) = (k : Int) - (i : Int) := IntWalk.i64_in _ (by omega)
  go_enter Tryz.func119, Tryz.ntmps119
  go_wp2_with fail
  go_quiet (fail)
  go_wp2_with fail
  go_ret
  exact ⟨rfl, _, rfl⟩
/-- What the memory holds from a place on. -/
def MemOK (a : Nat → Int) (last : Nat) (Sz Nx : Nat → Nat) (i : Nat) : Prop := ∀ j, i ≤ j → j ≤ last → Sz j = 0 ∨ (Sz j = (szL a last j).1 ∧ Nx j = (szL a last j).2 ∧ ((szL a last j).2 = last ∨ Sz (szL a last j).2 ≠ 0))
/-- What size has done to the memory. -/
structure SzPost (a : Nat → Int) (last i : Nat) (Sz Nx Sz' Nx' : Nat → Nat) : Prop where
  mem : MemOK a last Sz' Nx' i
  size : Sz' i = (szL a last i).1
  same : ∀ j, (j < i ∨ Sz j ≠ 0) → Sz' j = Sz j ∧ Nx' j = Nx j
/-- Between two candidates. -/
structure SzInv (a : Nat → Int) (last i : Nat) (Sz Nx : Nat → Nat) (k : Nat) (Sz' Nx' : Nat → Nat) : Prop where
  mem : MemOK a last Sz' Nx' (i + 1)
  best : Sz' i = (bGo a last (fun k => (szL a last k).1) i (k - (i + 1))).1
  next : Sz' i ≠ 0 → Nx' i = (bGo a last (fun k => (szL a last k).1) i (k - (i + 1))).2 ∧ (Nx' i = last ∨ Sz' (Nx' i) ≠ 0)
  same : ∀ j, (j < i ∨ Sz j ≠ 0) → Sz' j = Sz j ∧ Nx' j = Nx j
theorem SzInv.start {i : Nat} (h : MemOK a last Sz Nx i) (h0 : Sz i = 0) : SzInv a last i Sz Nx (i + 1) Sz Nx :=
  ⟨fun j hj hl => h j (by omega) hl, by rw [Nat.sub_self, bGo, h0], fun hn => absurd h0 hn, fun _ _ => ⟨rfl, rfl⟩⟩
theorem bGo_at {i k : Nat} (hk : i < k) : bGo a last (fun k => (szL a last k).1) i (k + 1 - (i + 1)) = bStep a last (fun k => (szL a last k).1) i (bGo a last (fun k => (szL a last k).1) i (k - (i + 1))) k := by
  rw [show k + 1 - (i + 1) = (k - (i + 1)) + 1 by omega, bGo, show i + 1 + (k - (i + 1)) = k by omega]
theorem SzInv.skip {i k : Nat} {Sz' Nx' : Nat → Nat} (h : SzInv a last i Sz Nx k Sz' Nx') (hk : i < k) (ho : (okS a i k && okS a k last) = false) : SzInv a last i Sz Nx (k + 1) Sz' Nx' := by
  have e : bGo a last (fun k => (szL a last k).1) i (k + 1 - (i + 1)) = bGo a last (fun k => (szL a last k).1) i (k - (i + 1)) := by
    rw [bGo_at hk, bStep, if_neg (by rw [ho]; simp)]
  exact ⟨h.mem, by rw [e]; exact h.best, by rw [e]; exact h.next, h.same⟩
/-- Behind the call for a candidate. -/
theorem SzInv.called {i k : Nat} {Sz' Nx' Sz2 Nx2 : Nat → Nat} (h : SzInv a last i Sz Nx k Sz' Nx') (hk : i < k) (p : SzPost a last k Sz' Nx' Sz2 Nx2) : SzInv a last i Sz Nx k Sz2 Nx2 := by
  have hi := p.same i (.inl hk)
  have hpos : ∀ x, Sz' x ≠ 0 → Sz2 x ≠ 0 := fun x hx => by rw [(p.same x (.inr hx)).1]; exact hx
  refine ⟨fun j hj hl => ?_, by rw [hi.1]; exact h.best, fun hn => ?_, fun j hj => ?_⟩
  · rcases Nat.lt_or_ge j k with hlt | hge
    · rw [(p.same j (.inl hlt)).1, (p.same j (.inl hlt)).2]
      rcases h.mem j hj hl with h1 | ⟨h1, h2, h3⟩
      · exact .inl h1
      · exact .inr ⟨h1, h2, h3.imp id (hpos _)⟩
    · exact p.mem j hge hl
  · rw [hi.1] at hn
    obtain ⟨h1, h2⟩ := h.next hn
    rw [hi.2]
    exact ⟨h1, h2.imp id (hpos _)⟩
  · obtain ⟨h1, h2⟩ := h.same j hj
    have h3 : j < k ∨ Sz' j ≠ 0 := by
      rcases hj with hj | hj
      · left; omega
      · right; rw [h1]; exact hj
    obtain ⟨h4, h5⟩ := p.same j h3
    exact ⟨h4.trans h1, h5.trans h2⟩
theorem SzInv.less {i k : Nat} {Sz' Nx' : Nat → Nat} (h : SzInv a last i Sz Nx k Sz' Nx') (hk : i < k) (hn : ¬ Sz' i < (szL a last k).1 + 1) : SzInv a last i Sz Nx (k + 1) Sz' Nx' := by
  have e : bGo a last (fun k => (szL a last k).1) i (k + 1 - (i + 1)) = bGo a last (fun k => (szL a last k).1) i (k - (i + 1)) := by
    rw [bGo_at hk, bStep]
    split
    · rw [if_neg (by rw [← h.best]; exact hn)]
    · rfl
  exact ⟨h.mem, by rw [e]; exact h.best, by rw [e]; exact h.next, h.same⟩
theorem SzInv.more {i k : Nat} {Sz' Nx' : Nat → Nat} (h : SzInv a last i Sz Nx k Sz' Nx') (hk : i < k) (ho : (okS a i k && okS a k last) = true) (hn : Sz' i < (szL a last k).1 + 1) (h0 : Sz i = 0) (hr : k = last ∨ Sz' k ≠ 0) :
    SzInv a last i Sz Nx (k + 1) (updF Sz' i ((szL a last k).1 + 1)) (updF Nx' i k) := by
  have e : bGo a last (fun k => (szL a last k).1) i (k + 1 - (i + 1)) = ((szL a last k).1 + 1, k) := by
    rw [bGo_at hk, bStep, if_pos ho, if_pos (by rw [← h.best]; exact hn)]
  have hpos : ∀ x, Sz' x ≠ 0 → updF Sz' i ((szL a last k).1 + 1) x ≠ 0 := fun x hx => by
    unfold updF
    split
    · omega
    · exact hx
  refine ⟨fun j hj hl => ?_, by rw [e, updF_same], fun _ => ?_, fun j hj => ?_⟩
  · rw [updF_other _ _ (show j ≠ i by omega), updF_other _ _ (show j ≠ i by omega)]
    rcases h.mem j hj hl with h1 | ⟨h1, h2, h3⟩
    · exact .inl h1
    · exact .inr ⟨h1, h2, h3.imp id (hpos _)⟩
  · rw [e, updF_same]
    exact ⟨rfl, hr.imp id (hpos _)⟩
  · have hji : j ≠ i := by
      rcases hj with hj | hj
      · omega
      · intro e; rw [e] at hj; exact hj h0
    rw [updF_other _ _ hji, updF_other _ _ hji]
    exact h.same j hj
theorem SzInv.done {i : Nat} {Sz' Nx' : Nat → Nat} (h : SzInv a last i Sz Nx (last + 1) Sz' Nx') (hi : i < last) : SzPost a last i Sz Nx Sz' Nx' := by
  have e : bGo a last (fun k => (szL a last k).1) i (last + 1 - (i + 1)) = szL a last i := by rw [show last + 1 - (i + 1) = last - i by omega, ← szL_eq]
  have hb := h.best
  have hx := h.next
  rw [e] at hb hx
  refine ⟨fun j hj hl => ?_, hb, h.same⟩
  by_cases hji : j = i
  · subst hji
    by_cases h0 : Sz' j = 0
    · exact .inl h0
    · obtain ⟨h1, h2⟩ := hx h0
      exact .inr ⟨hb, h1, by rw [← h1]; exact h2⟩
  · exact h.mem j (by omega) hl
theorem szL_le {a : Nat → Int} {last : Nat} : ∀ (d i : Nat), last - i ≤ d → (szL a last i).1 ≤ last - i
  | d, i, hd => by
    have h := bGo_spec (a := a) (last := last) (i := i) (sz := fun k => (szL a last k).1) (j := last - i)
    rw [← szL_eq] at h
    rcases h with ⟨h1, _⟩ | ⟨h1, h2, h3, h4, _, _⟩
    · rw [h1]; exact Nat.zero_le _
    · match d, hd with
      | 0, hd => omega
      | d + 1, hd =>
        have := szL_le (a := a) (last := last) d (szL a last i).2 (by omega)
        omega
theorem SzPost.hit {i : Nat} (h : i = last ∨ Sz i ≠ 0) (hi : i ≤ last) (hM : MemOK a last Sz Nx i) : SzPost a last i Sz Nx Sz Nx := by
  refine ⟨hM, ?_, fun _ _ => ⟨rfl, rfl⟩⟩
  rcases hM i (Nat.le_refl _) hi with h1 | ⟨h1, _⟩
  · rcases h with rfl | h
    · rw [h1, szL_last]
    · exact absurd h1 h
  · exact h1
set_option maxHeartbeats 1000000 in
theorem cp_size_hit {i : Nat} (h : i = last ∨ Sz i ≠ 0) (hi : i ≤ last) (hM : MemOK a last Sz Nx i) (hC : ChAt W p3 p4 p5 p6 p7 p8 gs gn gm a last mc Sz Nx) :
    Calls Tryz.prog 120 #[.int .i64 i, .pointer (some ⟨p4, 0, none⟩), .pointer (some ⟨p6, 0, none⟩), .pointer (some ⟨p5, 0, none⟩), .pointer (some ⟨p8, 0, none⟩), .pointer (some ⟨p7, 0, none⟩)] W fun e w' =>
      e = .returned (.int .i64 (szL a last i).1) ∧ ∃ Sz' Nx', ChAt w' p3 p4 p5 p6 p7 p8 gs gn gm a last mc Sz' Nx' ∧ SzPost a last i Sz Nx Sz' Nx' ∧ Upd2 gs gn W w' := by
  have hp := SzPost.hit h hi hM
  have HP := Lib.hid hp
  have HCC := Lib.hid hC
  have c4 := hC.c4
  have c6 := hC.c6
  have r := hC.rs.cell (rowF_at Sz (show i < last + 1 by omega))
  have hs : (szL a last i).1 = Sz i := hp.size.symm
  rw [hs]
  unfold intV at r
  clear hp hC hM
  have i1 : (i : Int) < ((last + 1 : Nat) : Int) := by omega
  have sm := HCC.out.small
  by_cases hl : i = last
  · have e1 : ((i : Int) == (last : Int)) = true := by simp [hl]
    have e2 : (i : Int) = (last : Int) := by omega
    clear h hs
    subst hl
    generalize Sz i = z at *
    go_enter Tryz.func120, Tryz.ntmps120
    go_wp2_with fail
    go_ret
    exact ⟨rfl, _, _, HCC.out, HP.out, Upd2.refl _ _ _⟩
  · have e1 : ¬ ((i : Int) = (last : Int)) := by omega
    have e2 : (0 : Int) < (Sz i : Int) := by
      rcases h with h | h
      · exact absurd h hl
      · omega
    clear h hs hl
    generalize Sz i = z at *
    go_enter Tryz.func120, Tryz.ntmps120
    go_wp2_with fail
    go_ret
    exact ⟨rfl, _, _, HCC.out, HP.out, Upd2.refl _ _ _⟩
set_option maxRecDepth 100000 in
set_option maxHeartbeats 4000000 in
theorem cp_size {p3 p4 p5 p6 p7 p8 gs gn gm : Nat} {a : Nat → Int} {last mc : Nat} : ∀ (d i : Nat), last - i ≤ d → i ≤ last → okS a i last = true → ∀ (w : World) (Sz Nx : Nat → Nat), ChAt w p3 p4 p5 p6 p7 p8 gs gn gm a last mc Sz Nx → MemOK a last Sz Nx i →
    Calls Tryz.prog 120 #[.int .i64 i, .pointer (some ⟨p4, 0, none⟩), .pointer (some ⟨p6, 0, none⟩), .pointer (some ⟨p5, 0, none⟩), .pointer (some ⟨p8, 0, none⟩), .pointer (some ⟨p7, 0, none⟩)] w fun e w' =>
      e = .returned (.int .i64 (szL a last i).1) ∧ ∃ Sz' Nx', ChAt w' p3 p4 p5 p6 p7 p8 gs gn gm a last mc Sz' Nx' ∧ SzPost a last i Sz Nx Sz' Nx' ∧ Upd2 gs gn w w' := by
  intro d
  induction d with
  | zero =>
    intro i hd hi ho w Sz Nx hC hM
    exact cp_size_hit (.inl (by omega)) hi hM hC
  | succ d ih =>
    intro i hd hi ho w Sz Nx hC hM
    by_cases hh : i = last ∨ Sz i ≠ 0
    · exact cp_size_hit hh hi hM hC
    obtain ⟨hil, hs0⟩ : i < last ∧ Sz i = 0 := by
      refine ⟨?_, ?_⟩
      · rcases Nat.lt_or_ge i last with h | h
        · exact h
        · exact absurd (.inl (by omega)) hh
      · rcases Nat.eq_zero_or_pos (Sz i) with h | h
        · exact h
        · exact absurd (.inr (by omega)) hh
    clear hh
    have HCC := Lib.hid hC
    have HI := Lib.hid (SzInv.start hM hs0)
    have c4 := hC.c4
    have c6 := hC.c6
    have r := hC.rs.cell (rowF_at Sz (show i < last + 1 by omega))
    unfold intV at r
    rw [hs0] at r
    have HS0 := Lib.hid hs0
    have sm := hC.small
    have HIH := Lib.hid ih
    have HO := Lib.hid ho
    clear hC hM hs0 ih ho
    have i1 : (i : Int) < ((last + 1 : Nat) : Int) := by omega
    have e1 : ¬ ((i : Int) = (last : Int)) := by omega
    go_enter Tryz.func120, Tryz.ntmps120
    go_wp2_with fail
    have e0 : ((i : Int) == (last : Int)) = false := by rw [beq_eq_false_iff_ne]; exact e1
    simp only [e0]
    clear c4 c6 r e1 e0
    go_loopg [8] (last + 1) (fun gk s8 wr => ∃ (k : Nat) (Sz2 Nx2 : Nat → Nat), s8 = .int .i64 k ∧ i < k ∧ k ≤ last + 1 ∧ last + 1 - k ≤ gk ∧ ChAt wr p3 p4 p5 p6 p7 p8 gs gn gm a last mc Sz2 Nx2 ∧ SzInv a last i Sz Nx k Sz2 Nx2 ∧ Upd2 gs gn w wr)
    case atStart => exact ⟨i + 1, Sz, Nx, rfl, by omega, by omega, by omega, HCC.out, HI.out, Upd2.refl _ _ _⟩
    case round =>
      obtain ⟨k, Sz2, Nx2, rfl, hik, hk1, hgk, hC2, hI2, hU2⟩ := hrel
      have HC2 := Lib.hid hC2
      have HI2 := Lib.hid hI2
      have HU2 := Lib.hid hU2
      have c4 := hC2.c4
      clear hC2 hI2 hU2
      by_cases hkl : k ≤ last
      · have c5 := HC2.out.c5
        have HS1 := Lib.hid (cp_stay HC2.out i k hi hkl)
        by_cases hb1 : okS a i k = true
        · rw [hb1] at HS1
          have HS2 : Hid (∀ n, Calls Tryz.prog 119 #[.int .i64 k, .int .i64 last, .pointer (some ⟨p3, 0, none⟩)] (wr.drewN n) fun e w' => e = .returned (.bool (okS a k last)) ∧ ∃ m, w' = (wr.drewN n).drewN m) :=
            Lib.hid (fun n => cp_stay (HC2.out.keep ((New.refl wr).drewN n)) k last hkl (Nat.le_refl _))
          by_cases hb2 : okS a k last = true
          · rw [hb2] at HS2
            have HHC : Hid (∀ n, Calls Tryz.prog 120 #[.int .i64 k, .pointer (some ⟨p4, 0, none⟩), .pointer (some ⟨p6, 0, none⟩), .pointer (some ⟨p5, 0, none⟩), .pointer (some ⟨p8, 0, none⟩), .pointer (some ⟨p7, 0, none⟩)] (wr.drewN n) fun e w' =>
                e = .returned (.int .i64 (szL a last k).1) ∧ ∃ Sz' Nx', ChAt w' p3 p4 p5 p6 p7 p8 gs gn gm a last mc Sz' Nx' ∧ SzPost a last k Sz2 Nx2 Sz' Nx' ∧ Upd2 gs gn (wr.drewN n) w') :=
              Lib.hid (fun n => HIH.out k (by omega) hkl hb2 (wr.drewN n) Sz2 Nx2 (HC2.out.keep ((New.refl wr).drewN n)) (fun j hj hl => HI2.out.mem j (by omega) hl))
            have c8 := HC2.out.c8
            have hsl := szL_le (a := a) (last := last) _ k (Nat.le_refl _)
            have HKR : Hid (k = last ∨ (szL a last k).1 ≠ 0) := Lib.hid (by
              rcases Nat.lt_or_ge k last with h | h
              · right
                have := (nx_at h hb2).size
                omega
              · left; omega)
            have HOO := Lib.hid (And.intro hb1 hb2)
            clear hb1 hb2
            generalize hz : (szL a last k).1 = z at *
            have HZ := Lib.hid hz
            clear hz
            go_wp2_with fail
            refine HS1.out.mono ?_
            rintro e w' ⟨rfl, nq, rfl⟩
            go_wp2_with fail
            refine (HS2.out _).mono ?_
            rintro e w' ⟨rfl, nq2, rfl⟩
            go_wp2_with fail
            refine (HHC.out _).mono ?_
            rintro e W2 ⟨rfl, Sz3, Nx3, hC3, hP3, hU3⟩
            have HC3 := Lib.hid hC3
            have HI3 := Lib.hid (HI2.out.called hik hP3)
            have HU3 := Lib.hid ((HU2.out.call ((New.refl wr).drewN _)).trans hU3)
            have HK3 : Hid (k = last ∨ Sz3 k ≠ 0) := Lib.hid (HKR.out.imp id (fun h => by rw [hP3.size, HZ.out]; exact h))
            have d6 := hC3.c6
            have d7 := hC3.c7
            have r3 := hC3.rs.cell (rowF_at Sz3 (show i < last + 1 by omega))
            unfold intV at r3
            clear hC3 hP3 hU3 c4 c5 c8
            have i2 : IntKind.i64.wrap ((z : Int) + 1) = (z : Int) + 1 := IntWalk.i64_in _ (by omega)
            by_cases hlt : Sz3 i < z + 1
            · have hlI : (Sz3 i : Int) < (z : Int) + 1 := by omega
              have f1 := HC3.out.rs.free i
              have f2 := HC3.out.rn.free i
              have s3 := HC3.out.rn.cell (rowF_at Nx3 (show i < last + 1 by omega))
              have HMO : Hid (SzInv a last i Sz Nx (k + 1) (updF Sz3 i (z + 1)) (updF Nx3 i k)) := Lib.hid (by
                have := HI3.out.more hik (by rw [HOO.out.1, HOO.out.2]; rfl) (by rw [HZ.out]; exact hlt) HS0.out HK3.out
                rw [HZ.out] at this
                exact this)
              unfold intV at s3
              clear hlt
              generalize Sz3 i = y at *
              generalize Nx3 i = y2 at *
              have HKS := Lib.hid HC3.out.ks
              have hne := HC3.out.ne
              have hne2 : gn ≠ gs := Ne.symm hne
              have q6 := (HKS.out p6 (by simp)).2.1
              have q7 := (HKS.out p7 (by simp)).1
              have t1 := fun u => (cell_other W2 (i := i) (j := 0) (u := u) q7).trans d7
              have t2 := fun u => (cell_other W2 (i := i) (j := 0) (u := u) q6).trans d6
              have t3 := fun u => (cell_other W2 (g := gs) (k := gn) (i := i) (j := i) (u := u) hne2).trans s3
              have t4 := fun u => (cell_other W2 (g := gn) (k := gs) (i := i) (j := i) (u := u) hne).trans r3
              have t5 := fun u => (HC3.out.rn.other (k := gs) hne i u).free i
              have t6 := fun u => (HC3.out.rs.other (k := gn) hne2 i u).free i
              go_wp2_with fail
              go_region
              go_wp2_with fail
              go_roundg (gk - 1)
              case measure => omega
              case rel =>
                have hp := (HC3.out.putS i (z + 1)).putN i k
                have hu := (HU3.out.set1 i (intV (z + 1))).set2 i (intV k)
                unfold intV at hp hu
                have e1 : ((z + 1 : Nat) : Int) = (z : Int) + 1 := by omega
                rw [e1] at hp hu
                exact ⟨k + 1, _, _, (by show Value.int .i64 ((k : Int) + 1) = Value.int .i64 ((k + 1 : Nat) : Int); congr 1), by omega, by omega, by omega, hp.keep (New.refl _).drew, HMO.out, hu.call (New.refl _).drew⟩
            · have hlI : ¬ ((Sz3 i : Int) < (z : Int) + 1) := by omega
              have HLS := Lib.hid (HI3.out.less hik (by rw [HZ.out]; exact hlt))
              clear hlt
              generalize Sz3 i = y at *
              go_wp2_with fail
              go_roundg (gk - 1)
              case measure => omega
              case rel => exact ⟨k + 1, Sz3, Nx3, (by show Value.int .i64 ((k : Int) + 1) = Value.int .i64 ((k + 1 : Nat) : Int); congr 1), by omega, by omega, by omega, HC3.out, HLS.out, HU3.out⟩
          · have hb2' : okS a k last = false := by simpa using hb2
            rw [hb2'] at HS2
            have HSK := Lib.hid (HI2.out.skip hik (by rw [hb2', Bool.and_false]))
            clear hb1 hb2 hb2'
            go_wp2_with fail
            refine HS1.out.mono ?_
            rintro e w' ⟨rfl, nq, rfl⟩
            go_wp2_with fail
            refine (HS2.out _).mono ?_
            rintro e w' ⟨rfl, nq2, rfl⟩
            go_wp2_with fail
            go_roundg (gk - 1)
            case measure => omega
            case rel => exact ⟨k + 1, Sz2, Nx2, (by show Value.int .i64 ((k : Int) + 1) = Value.int .i64 ((k + 1 : Nat) : Int); congr 1), by omega, by omega, by omega, HC2.out.keep ((New.refl wr).drewN _), HSK.out, HU2.out.call ((New.refl wr).drewN _)⟩
        · have hb1' : okS a i k = false := by simpa using hb1
          rw [hb1'] at HS1
          have HSK := Lib.hid (HI2.out.skip hik (by rw [hb1', Bool.false_and]))
          clear hb1 hb1'
          go_wp2_with fail
          refine HS1.out.mono ?_
          rintro e w' ⟨rfl, nq, rfl⟩
          go_wp2_with fail
          go_roundg (gk - 1)
          case measure => omega
          case rel => exact ⟨k + 1, Sz2, Nx2, (by show Value.int .i64 ((k : Int) + 1) = Value.int .i64 ((k + 1 : Nat) : Int); congr 1), by omega, by omega, by omega, HC2.out.keep ((New.refl wr).drewN _), HSK.out, HU2.out.call ((New.refl wr).drewN _)⟩
      · obtain rfl : k = last + 1 := by omega
        have HPP := Lib.hid (HI2.out.done hil)
        have hsz := HPP.out.size
        have d6 := HC2.out.c6
        have r3 := HC2.out.rs.cell (rowF_at Sz2 (show i < last + 1 by omega))
        unfold intV at r3
        rw [hsz] at r3
        clear hsz
        go_wp2_with fail
        go_ret
        exact ⟨rfl, _, _, HC2.out, HPP.out, HU2.out⟩
end Go.Proofs.YthodoabppkeidaaGreatDoor
