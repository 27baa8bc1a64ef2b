/-
  Waves in memory; lowers and lower of the program. Condition: the wave lies in memory, its edges in older memory.
  leaveByLoop of the program, where the edges by which the sums came have no loop: it does nothing. Condition: the wave lies in memory.
  slices.Backward over the edges of a wave, ranged over by a loop that writes into the wave's two rows alone. Condition: the edges lie in older memory.
  A function that ranges over a function again and again leaves with one mark for each time: what is left to show. And a range over a function with two loop variables. No condition.
  The rounds of relax, at a net that closes: what stands at their heads. Condition: the wave lies in memory.
-/
import Derived.Test.YtodmbcoobjcooaaDoorCkNets
import Derived.Test.YtodmbcoobjcooaaDoorCkGraph
import Derived.StillTailTactics
import Derived.Deep.LoopGhost
import Derived.Sort.LoopGhostIn
namespace Go.Proofs.YtodmbcoobjcooaaDoor
open Go Go.RowKit Go.Shelf
/-- A row of numbers that is told by a function. -/
def fnRow (n : Nat) (f : Nat → Int) : List Value := (List.range n).map fun i => .int .i64 (f i)
theorem fnRow_len (n : Nat) (f : Nat → Int) : (fnRow n f).length = n := by simp [fnRow]
theorem fnRow_get {n : Nat} {f : Nat → Int} {i : Nat} (h : i < n) : (fnRow n f)[i]? = some (.int .i64 (f i)) := by
  rw [fnRow, List.getElem?_map, List.getElem?_range h]; rfl
theorem fnRow_set {n : Nat} {f : Nat → Int} {i : Nat} (h : i < n) (x : Int) : (fnRow n f).set i (.int .i64 x) = fnRow n (upd f i x) := by
  apply List.ext_getElem?
  intro j
  rw [List.getElem?_set, fnRow_len]
  by_cases hj : j < n
  · rw [fnRow_get hj, fnRow_get hj]
    by_cases hij : i = j
    · subst hij; simp [upd_same, h]
    · rw [if_neg hij, upd_other _ _ (Ne.symm hij)]
  · have h1 : (fnRow n f)[j]? = none := List.getElem?_eq_none (by rw [fnRow_len]; omega)
    have h2 : (fnRow n (upd f i x))[j]? = none := List.getElem?_eq_none (by rw [fnRow_len]; omega)
    rw [h1, h2]
    by_cases hij : i = j
    · omega
    · rw [if_neg hij]
/-- What a step leaves that writes into two blocks alone. -/
def KeepBut (p q : Nat) (W W' : World) : Prop := Below 0 W W' ∧ ∀ k, k < W.heap.size → k ≠ p → k ≠ q → W'.heap[k]? = W.heap[k]?
theorem KeepBut.refl (p q : Nat) (W : World) : KeepBut p q W W := ⟨Below.refl _ _, fun _ _ _ _ => rfl⟩
theorem KeepBut.of_new {p q : Nat} {W W' : World} (h : New W W') : KeepBut p q W W' := ⟨Below.mono h (Nat.zero_le _), fun k hk _ _ => h.out.block k hk⟩
theorem KeepBut.trans {p q : Nat} {A B C : World} (h : KeepBut p q A B) (k : KeepBut p q B C) : KeepBut p q A C :=
  ⟨h.1.trans k.1, fun i hi hp hq => (k.2 i (Nat.lt_of_lt_of_le hi h.1.size) hp hq).trans (h.2 i hi hp hq)⟩
theorem KeepBut.set {p q r : Nat} {A B : World} (h : KeepBut p q A B) (hr : r = p ∨ r = q) (i : Nat) (v : Value) : KeepBut p q A (B.setCell ⟨r, i, none⟩ v) :=
  h.trans ⟨(Below.refl _ _).setCell (Nat.zero_le _) _, fun k _ hp hq => Below.heap_setCell B ⟨r, i, none⟩ v k (fun e => by have e : k = r := e; rcases hr with hr | hr <;> omega)⟩
theorem KeepBut.size {p q : Nat} {A B : World} (h : KeepBut p q A B) : A.heap.size ≤ B.heap.size := h.1.size
theorem KeepBut.row {p q g : Nat} {A B : World} (h : KeepBut p q A B) {e : TypeId} {cs : List Value} (hr : RowIs A g e cs) (hp : g ≠ p) (hq : g ≠ q) : RowIs B g e cs := (h.2 g hr.lt hp hq).trans hr
theorem KeepBut.new {p q : Nat} {w A B : World} (h : KeepBut p q A B) (k : New w A) (hp : w.heap.size ≤ p) (hq : w.heap.size ≤ q) : New w B :=
  Below.trans k ⟨h.1.os, h.1.tape, h.1.output, by have := h.1.size; have := New.size k; omega, fun i hi => h.2 i (by have := New.size k; omega) (by omega) (by omega)⟩
/-- A wave in memory: its block, the rows of its sums and of the edges by which they came. -/
structure WavA (w0 W : World) (g sb bb n : Nat) (EA : Option Addr) (ec : Nat) (E : List Eg) (d b : Nat → Int) : Prop where
  new : New w0 W
  egs : EgsA w0 EA E
  hg : w0.heap.size ≤ g
  hs : w0.heap.size ≤ sb
  hb : w0.heap.size ≤ bb
  gs : g ≠ sb
  gb : g ≠ bb
  ne : sb ≠ bb
  row : RowIs W g 151 [.slice EA E.length ec, .slice (some ⟨sb, 0, none⟩) n n, .slice (some ⟨bb, 0, none⟩) n n]
  sums : RowIs W sb 3 (fnRow n d)
  bys : RowIs W bb 3 (fnRow n b)
theorem WavA.keep {w0 W W' : World} {g sb bb n : Nat} {EA : Option Addr} {ec : Nat} {E : List Eg} {d b : Nat → Int} (h : WavA w0 W g sb bb n EA ec E d b) (k : New W W') : WavA w0 W' g sb bb n EA ec E d b :=
  ⟨h.new.trans k, h.egs, h.hg, h.hs, h.hb, h.gs, h.gb, h.ne, h.row.keep k, h.sums.keep k, h.bys.keep k⟩
theorem WavA.setS {w0 W : World} {g sb bb n : Nat} {EA : Option Addr} {ec : Nat} {E : List Eg} {d b : Nat → Int} (h : WavA w0 W g sb bb n EA ec E d b) {i : Nat} (hi : i < n) (x : Int) : WavA w0 (W.setCell ⟨sb, i, none⟩ (.int .i64 x)) g sb bb n EA ec E (upd d i x) b :=
  ⟨h.new.setCell h.hs _, h.egs, h.hg, h.hs, h.hb, h.gs, h.gb, h.ne, h.row.other (Ne.symm h.gs) _ _, by have := h.sums.put i (.int .i64 x); rwa [fnRow_set hi] at this, h.bys.other h.ne _ _⟩
theorem WavA.setB {w0 W : World} {g sb bb n : Nat} {EA : Option Addr} {ec : Nat} {E : List Eg} {d b : Nat → Int} (h : WavA w0 W g sb bb n EA ec E d b) {i : Nat} (hi : i < n) (x : Int) : WavA w0 (W.setCell ⟨bb, i, none⟩ (.int .i64 x)) g sb bb n EA ec E d (upd b i x) :=
  ⟨h.new.setCell h.hb _, h.egs, h.hg, h.hs, h.hb, h.gs, h.gb, h.ne, h.row.other (Ne.symm h.gb) _ _, h.sums.other (Ne.symm h.ne) _ _, by have := h.bys.put i (.int .i64 x); rwa [fnRow_set hi] at this⟩
theorem WavA.edge {w0 W : World} {g sb bb n : Nat} {EA : Option Addr} {ec : Nat} {E : List Eg} {d b : Nat → Int} (h : WavA w0 W g sb bb n EA ec E d b) {i : Nat} (hi : i < E.length) :
    ∃ eb eo, EA = some ⟨eb, eo, none⟩ ∧ EgC w0 eb (eo + i * 3) (E[i]?.getD default) := by
  obtain ⟨eb, eo, e, _, hc⟩ := h.egs.2 (by omega)
  exact ⟨eb, eo, e, hc i hi⟩
theorem WavA.len {w0 W : World} {g sb bb n : Nat} {EA : Option Addr} {ec : Nat} {E : List Eg} {d b : Nat → Int} (h : WavA w0 W g sb bb n EA ec E d b) : E.length ≤ 9223372036854775807 := h.egs.1
def eAt (E : List Eg) (i : Nat) : Eg := E[i]?.getD default
theorem eAt_get {E : List Eg} {i : Nat} (h : i < E.length) : E[i]? = some (eAt E i) := by unfold eAt; rw [List.getElem?_eq_getElem h]; rfl
/-- Whether an edge lowers a sum. -/
def lowB (E : List Eg) (d : Nat → Int) (i : Nat) : Bool := decide (d (eAt E i).1 ≠ NB) && decide (d (eAt E i).1 + (eAt E i).2.2 < d (eAt E i).2.1)
set_option maxHeartbeats 2000000 in
theorem ck_lowers {w0 W : World} {g sb bb n : Nat} {EA : Option Addr} {ec : Nat} {E : List Eg} {d b : Nat → Int} (h : WavA w0 W g sb bb n EA ec E d b) (hE : EOk E n 22001) (i : Nat) (hi : i < E.length) (hd : ∀ v, v < n → -10000000000000 ≤ d v ∧ d v ≤ NB) :
    Calls Tryd.prog 129 #[.pointer (some ⟨g, 0, none⟩), .int .i64 i] W fun e w' => e = .returned (.bool (lowB E d i)) ∧ New W w' := by
  have hm : eAt E i ∈ E := List.mem_of_getElem? (eAt_get hi)
  have hu := hE.fst _ hm
  have hv := hE.snd _ hm
  have hlo := hE.lo _ hm
  have hhi := hE.hi _ hm
  have hdu := hd _ hu
  obtain ⟨eb, eo, rfl, z0, z1, z2⟩ := h.edge hi
  have HB : Hid (lowB E d i = (decide (d (eAt E i).1 ≠ NB) && decide (d (eAt E i).1 + (eAt E i).2.2 < d (eAt E i).2.1))) := Lib.hid rfl
  have ee : E[i]?.getD default = eAt E i := rfl
  rw [ee] at z0 z1 z2
  have z3 := fnRow_get (f := d) hu
  have z4 := fnRow_get (f := d) hv
  have hl := h.len
  generalize lowB E d i = lb at *
  generalize eAt E i = e at *
  obtain ⟨u, v, c⟩ := e
  dsimp only at *
  have z3' := h.sums.cell z3
  have z4' := h.sums.cell z4
  generalize d u = du at *
  generalize d v = dv at *
  have n1 := (New.refl W).alloc (.cells #[.int .i64 u, .int .i64 v, .int .i64 c] 156)
  have R := RowIs.new W 156 [.int .i64 u, .int .i64 v, .int .i64 c]
  have g0 := h.row.cell (i := 0) rfl
  have y0 := h.new.cellOf z0
  have y1 := h.new.cellOf z1
  have y2 := h.new.cellOf z2
  have g1 := (h.row.keep n1).cell (i := 1) rfl
  have x3 := n1.cellOf z3'
  have x4 := n1.cellOf z4'
  have r0 := R.cell (i := 0) rfl
  have r1 := R.cell (i := 1) rfl
  have r2 := R.cell (i := 2) rfl
  have i1 : (i : Int) < (E.length : Int) := by omega
  have i2 : (0 : Int) ≤ (i : Int) := by omega
  have i3 : (u : Int) < (n : Int) := by omega
  have i4 : (0 : Int) ≤ (u : Int) := by omega
  have i5 : (v : Int) < (n : Int) := by omega
  have i6 : (0 : Int) ≤ (v : Int) := by omega
  have hNB : NB = 1099511627776 := rfl
  have hw : IntKind.i64.wrap (du + c) = du + c := IntWalk.i64_in _ (by omega)
  have HN := Lib.hid n1
  rw [hNB] at HB
  clear h hE hd z0 z1 z2 z3 z4 z3' z4' R n1 hNB hdu hlo hhi ee hm
  by_cases hf : du = 1099511627776
  · subst hf
    go_enter Tryd.func129, Tryd.ntmps129
    go_wp2_with fail
    go_quiet (fail)
    go_wp2_with fail
    go_ret
    exact ⟨ret_bool (by rw [HB.out]; simp), HN.out.drewN _⟩
  · have hf' : (du == 1099511627776) = false := by simpa using hf
    have hf2 : (du != 1099511627776) = true := by simpa using hf
    go_enter Tryd.func129, Tryd.ntmps129
    go_wp2_with fail
    go_quiet (fail)
    go_wp2_with fail
    go_ret
    exact ⟨ret_bool (by rw [HB.out]; simp [hf]), HN.out.drewN _⟩
set_option maxRecDepth 100000 in
set_option maxHeartbeats 2000000 in
theorem ck_lower {w0 W : World} {g sb bb n : Nat} {EA : Option Addr} {ec : Nat} {E : List Eg} {d b : Nat → Int} (h : WavA w0 W g sb bb n EA ec E d b) (hE : EOk E n 22001) (i : Nat) (hi : i < E.length) (hd : ∀ v, v < n → -10000000000000 ≤ d v ∧ d v ≤ NB) :
    Calls Tryd.prog 127 #[.pointer (some ⟨g, 0, none⟩), .int .i64 i] W fun e w' => e = .returned (.tuple #[]) ∧ KeepBut sb bb W w' ∧
      WavA w0 w' g sb bb n EA ec E (if lowB E d i = true then upd d (eAt E i).2.1 (d (eAt E i).1 + (eAt E i).2.2) else d) (if lowB E d i = true then upd b (eAt E i).2.1 i else b) := by
  have HL := Lib.hid (ck_lowers h hE i hi hd)
  cases hlb : lowB E d i with
  | false =>
    rw [hlb] at HL
    have H := Lib.hid h
    clear h
    go_enter Tryd.func127, Tryd.ntmps127
    go_wp2_with (go_at_call 129; refine HL.out.mono ?_; rintro e w1 ⟨rfl, k1⟩)
    first | go_end0 | refine bodyPost_ret (results_none rfl _ _ _) rfl ?_
    exact ⟨rfl, .of_new k1, by simpa using H.out.keep k1⟩
  | true =>
    rw [hlb] at HL
    simp only [if_true]
    have hlt : d (eAt E i).1 + (eAt E i).2.2 < d (eAt E i).2.1 := by
      unfold lowB at hlb
      simp at hlb
      exact hlb.2
    have hm : eAt E i ∈ E := List.mem_of_getElem? (eAt_get hi)
    have hu := hE.fst _ hm
    have hv := hE.snd _ hm
    have hlo := hE.lo _ hm
    have hhi := hE.hi _ hm
    have hdu := hd _ hu
    have hNB : NB = 1099511627776 := rfl
    obtain ⟨eb, eo, rfl, z0, z1, z2⟩ := h.edge hi
    have ee : E[i]?.getD default = eAt E i := rfl
    rw [ee] at z0 z1 z2
    have z3 := fnRow_get (f := d) hu
    have z4 := fnRow_get (f := d) hv
    have hl := h.len
    have H := Lib.hid h
    have HV := Lib.hid hv
    clear hE hd hlb
    generalize eAt E i = e at *
    obtain ⟨u, v, c⟩ := e
    dsimp only at *
    have hw : IntKind.i64.wrap (d u + c) = d u + c := IntWalk.i64_in _ (by omega)
    have i1 : (i : Int) < (E.length : Int) := by omega
    have i2 : (0 : Int) ≤ (i : Int) := by omega
    have i3 : (u : Int) < (n : Int) := by omega
    have i4 : (0 : Int) ≤ (u : Int) := by omega
    have i5 : (v : Int) < (n : Int) := by omega
    have i6 : (0 : Int) ≤ (v : Int) := by omega
    have HW := Lib.hid hw
    clear h hNB hdu hlo hhi ee hm hlt hw
    go_enter Tryd.func127, Tryd.ntmps127
    go_wp2_with fail
    refine HL.out.mono ?_
    rintro e w1 ⟨rfl, k1⟩
    have H1 := Lib.hid (H.out.keep k1)
    have n1 := (New.refl w1).alloc (.cells #[.int .i64 u, .int .i64 v, .int .i64 c] 156)
    have R := RowIs.new w1 156 [.int .i64 u, .int .i64 v, .int .i64 c]
    have H2 := Lib.hid (H1.out.keep n1)
    have K2 : Hid (KeepBut sb bb W _) := Lib.hid (.of_new (k1.trans n1))
    have g0 := H1.out.row.cell (i := 0) rfl
    have y0 := H1.out.new.cellOf z0
    have y1 := H1.out.new.cellOf z1
    have y2 := H1.out.new.cellOf z2
    have HR := Lib.hid R
    have HBx : Hid (w1.heap.size ≠ sb ∧ w1.heap.size ≠ bb) := Lib.hid ⟨by have := H1.out.sums.lt; omega, by have := H1.out.bys.lt; omega⟩
    clear z0 z1 z2 k1 n1 R HL
    go_wp2_with fail
    clear g0 y0 y1 y2
    generalize w1.alloc (.cells #[.int .i64 u, .int .i64 v, .int .i64 c] 156) = W2 at *
    generalize w1.heap.size = B at *
    have g1 := H2.out.row.cell (i := 1) rfl
    have r0 := HR.out.cell (i := 0) rfl
    have r1 := HR.out.cell (i := 1) rfl
    have r2 := HR.out.cell (i := 2) rfl
    have x3 := H2.out.sums.cell z3
    have hw := HW.out
    clear HW
    go_still_tail 17, (by kernel_rfl)
    change wpList _ _ _ _ _ W2.drew
    have H3 := Lib.hid (H2.out.keep ((New.refl W2).drew))
    have K3 := Lib.hid (K2.out.trans (.of_new ((New.refl W2).drew)))
    have HR3 := Lib.hid HR.out.drew
    clear g1 r0 r1 r2 x3 hw HR H2 K2
    generalize W2.drew = W3 at *
    have x4 := H3.out.sums.cell z4
    have xf := H3.out.sums.free v
    go_wp2_with fail
    clear x4 xf
    have H4 := Lib.hid (H3.out.setS HV.out (d u + c))
    have K4 := Lib.hid (K3.out.set (.inl rfl) v (.int .i64 (d u + c)))
    have HR4 := Lib.hid (HR3.out.other (Ne.symm HBx.out.1) v (.int .i64 (d u + c)))
    clear H3 K3 HR3
    generalize W3.setCell ⟨sb, v, none⟩ (.int .i64 (d u + c)) = W4 at *
    have g2 := H4.out.row.cell (i := 2) rfl
    have r1 := HR4.out.cell (i := 1) rfl
    go_still_tail 7, (by kernel_rfl)
    change wpList _ _ _ _ _ W4.drew
    have H5 := Lib.hid (H4.out.keep ((New.refl W4).drew))
    have K5 := Lib.hid (K4.out.trans (.of_new ((New.refl W4).drew)))
    clear g2 r1 H4 K4 HR4
    generalize W4.drew = W5 at *
    have x4 := H5.out.bys.cell (fnRow_get (f := b) HV.out)
    have xf := H5.out.bys.free v
    go_wp2_with fail
    clear x4 xf
    first | go_end0 | refine bodyPost_ret (results_none rfl _ _ _) rfl ?_
    exact ⟨rfl, K5.out.set (.inr rfl) v _, H5.out.setB HV.out _⟩
end Go.Proofs.YtodmbcoobjcooaaDoor

namespace Go.Proofs.YtodmbcoobjcooaaDoor
open Go Go.RowKit Go.Shelf
/-- Each place has an edge by which it came, or none. -/
def ByOk (E : List Eg) (n : Nat) (b : Nat → Int) : Prop := ∀ v, v < n → b v = -1 ∨ ∃ i : Nat, b v = i ∧ i < E.length ∧ (eAt E i).2.1 = v
theorem WI.byOk {E : List Eg} {n src : Nat} {d b : Nat → Int} (h : WI E n src d b) : ByOk E n b := fun v hv => by
  by_cases hb : b v = -1
  · exact .inl hb
  · obtain ⟨i, e, h1, h2, h3, _⟩ := h.edge v hv hb
    have hi := (List.getElem?_eq_some_iff.1 h2).1
    refine .inr ⟨i, h1, hi, ?_⟩
    rw [eAt_get hi] at h2
    rw [Option.some.inj h2]
    exact h3
set_option maxRecDepth 100000 in
set_option maxHeartbeats 4000000 in
theorem ck_leave {w0 W : World} {g sb bb n : Nat} {EA : Option Addr} {ec : Nat} {E : List Eg} {d b : Nat → Int} (h : WavA w0 W g sb bb n EA ec E d b) (hE : EOk E n 22001) (hb : ByOk E n b) (hn : n ≤ 30000) (hno : ∀ l v, l ≠ [] → Lead E v l v → ByL E b l → False) :
    Calls Tryd.prog 130 #[.pointer (some ⟨g, 0, none⟩)] W fun e w' => e = .returned (.tuple #[]) ∧ New W w' := by
  have H := Lib.hid h
  have HB := Lib.hid hb
  have HNO := Lib.hid hno
  have HEE := Lib.hid hE
  have g1 := h.row.cell (i := 1) rfl
  have hmk : ∀ w : World, (Instr.makeSlice 26 (.int .i64 n) (.int .i64 n)).run Tryd.prog w = .ok (.slice (some ⟨w.heap.size, 0, none⟩) n n) (w.alloc (.cells (Array.replicate n (.int .i64 0)) 3)) := fun w => make_row (bytes := 8) Tryd.underlying26 (by kernel_rfl) rfl (by decide) n (by omega) w
  have n1 := (New.refl W).alloc (.cells (Array.replicate n (.int .i64 0)) 3)
  have R := RowIs.zeros W 3 n (.int .i64 0)
  have eR : List.replicate n (Value.int .i64 0) = fnRow n (fun _ => 0) := by
    apply List.ext_getElem?
    intro j
    by_cases hj : j < n
    · rw [fnRow_get hj, List.getElem?_replicate]; simp [hj]
    · rw [List.getElem?_eq_none (by simp; omega), List.getElem?_eq_none (by rw [fnRow_len]; omega)]
  rw [eR] at R
  have H1 := Lib.hid (h.keep n1)
  have HN1 := Lib.hid n1
  have HR1 := Lib.hid R
  have g1' := H1.out.row.cell (i := 1) rfl
  clear h hb hno hE n1 R eR
  go_enter Tryd.func130, Tryd.ntmps130
  go_wp2_with fail
  clear g1 g1' hmk
  generalize hwk : W.heap.size = wk at *
  have HWK : Hid (wk ≠ g ∧ wk ≠ sb ∧ wk ≠ bb) := Lib.hid ⟨by have := H.out.row.lt; omega, by have := H.out.sums.lt; omega, by have := H.out.bys.lt; omega⟩
  generalize W.alloc (.cells (Array.replicate n (.int .i64 0)) 3) = W1 at *
  go_loopw [16] (fun i wr => ∃ (s : Nat) (m : Nat → Int), s ≤ n ∧ i = .int .i64 s ∧ (∀ v, v < n → 0 ≤ m v ∧ m v ≤ s) ∧ RowIs wr wk 3 (fnRow n m) ∧ WavA w0 wr g sb bb n EA ec E d b ∧ New W wr) (fun i _ => n - (intOf i).toNat)
  case atStart => exact ⟨0, fun _ => 0, Nat.zero_le _, rfl, fun _ _ => by simp, HR1.out, H1.out, HN1.out⟩
  case round =>
    obtain ⟨s, m, hs, rfl, hm, hr, hw, hnw⟩ := hrel
    obtain ⟨Wo, hWo⟩ : ∃ x, x = wr := ⟨wr, rfl⟩
    subst hWo
    by_cases hlt : s < n
    · have HM := Lib.hid hm
      have HR := Lib.hid hr
      have HW := Lib.hid hw
      have HNW := Lib.hid hnw
      have i1 : (s : Int) < (n : Int) := by omega
      clear hm hr hw hnw H1 HN1 HR1
      go_wp2_with fail
      go_loopg [4] (zerosN n m) (fun gk i wr => ∃ (x : Nat) (m' : Nat → Int), gk = zerosN n m' ∧ x < n ∧ i = .int .i64 x ∧ (∀ v, v < n → 0 ≤ m' v ∧ m' v ≤ s + 1) ∧ (∀ v, v < n → m' v = s + 1 → ∃ l, l ≠ [] ∧ Lead E x l v ∧ ByL E b l) ∧ RowIs wr wk 3 (fnRow n m') ∧ WavA w0 wr g sb bb n EA ec E d b ∧ New W wr)
      case atStart => exact ⟨s, m, rfl, hlt, rfl, fun v hv => by have := HM.out v hv; omega, fun v hv h => by have := HM.out v hv; omega, HR.out, HW.out, HNW.out⟩
      case round =>
        obtain ⟨x, m', hgk, hx, rfl, hm, hl, hr, hw, hnw⟩ := hrel
        have HM2 := Lib.hid hm
        have HL2 := Lib.hid hl
        have HR2 := Lib.hid hr
        have HW2 := Lib.hid hw
        have HN2 := Lib.hid hnw
        have HG := Lib.hid hgk
        have hmx := hm x hx
        have c1 := hr.cell (fnRow_get (f := m') hx)
        have c2 := hw.bys.cell (fnRow_get (f := b) hx)
        have g2 := hw.row.cell (i := 2) rfl
        have j1 : (x : Int) < (n : Int) := by omega
        have j2 : (0 : Int) ≤ (x : Int) := by omega
        have hbx := HB.out x hx
        clear hm hl hr hw hnw hgk
        by_cases hz : m' x = 0
        · rcases hbx with hbx | ⟨i, hbx, hi, htg⟩
          · rw [hz] at c1
            rw [hbx] at c2
            have HZ := Lib.hid hz
            have q1 : ((0 : Int) == (s : Int) + 1) = false := by simp; omega
            clear hz hbx
            go_wp2_with fail
            go_roundw
            case rel => exact ⟨s + 1, m', by omega, by go_num, fun v hv => by have := HM2.out v hv; omega, HR2.out, HW2.out, HN2.out⟩
            case measure => simp [intOf]; omega
          · rw [hz] at c1
            rw [hbx] at c2
            have hf := HEE.out.fst (eAt E i) (List.mem_of_getElem? (eAt_get hi))
            obtain ⟨eb, eo, rfl, z0, z1, z2⟩ := HW2.out.edge hi
            have ee : E[i]?.getD default = eAt E i := rfl
            rw [ee] at z0
            have hel := HW2.out.len
            have j3 : (i : Int) < (E.length : Int) := by omega
            have j4 : (0 : Int) ≤ (i : Int) := by omega
            have HZ := Lib.hid hz
            have HBX := Lib.hid hbx
            have HTG := Lib.hid htg
            have HEG : Hid (E[i]? = some (eAt E i)) := Lib.hid (eAt_get hi)
            have hq : ((i : Int) != -1) = true := by simp
            have hfz := HR2.out.free x
            clear hz hbx htg ee z1 z2
            generalize eAt E i = e at *
            obtain ⟨u, v, cc⟩ := e
            dsimp only at hf z0
            have z0' := HW2.out.new.cellOf z0
            clear z0
            go_wp2_with fail
            clear c1 c2 g2 hfz z0' hq
            have HR3 : Hid (RowIs (wr.setCell ⟨wk, x, none⟩ (.int .i64 ((s : Int) + 1))) wk 3 (fnRow n (upd m' x ((s : Int) + 1)))) := Lib.hid (by have h := HR2.out.put x (.int .i64 ((s : Int) + 1)); rwa [fnRow_set hx] at h)
            have HFR := Lib.hid (HW2.out.row.other HWK.out.1 x (.int .i64 ((s : Int) + 1)))
            have HW3 : Hid (WavA w0 (wr.setCell ⟨wk, x, none⟩ (.int .i64 ((s : Int) + 1))) g sb bb n (some ⟨eb, eo, none⟩) ec E d b) := Lib.hid ⟨HW2.out.new.setCell (by have := H.out.new.size; show w0.heap.size ≤ wk; omega) _, HW2.out.egs, HW2.out.hg, HW2.out.hs, HW2.out.hb, HW2.out.gs, HW2.out.gb, HW2.out.ne, HFR.out, HW2.out.sums.other HWK.out.2.1 _ _, HW2.out.bys.other HWK.out.2.2 _ _⟩
            have HN3 : Hid (New W (wr.setCell ⟨wk, x, none⟩ (.int .i64 ((s : Int) + 1)))) := Lib.hid (HN2.out.setCell (by show W.heap.size ≤ wk; omega) _)
            have HZZ := Lib.hid (zeros_upd n m' x ((s : Int) + 1) hx HZ.out (by omega))
            clear HR2 HW2 HN2 HFR
            generalize wr.setCell ⟨wk, x, none⟩ (.int .i64 ((s : Int) + 1)) = W3 at *
            have g0 := HW3.out.row.cell (i := 0) rfl
            have g2 := HW3.out.row.cell (i := 2) rfl
            have c2 := HW3.out.bys.cell (fnRow_get (f := b) hx)
            rw [HBX.out] at c2
            obtain ⟨eb2, eo2, heq, z0, -, -⟩ := HW3.out.edge hi
            have ee : E[i]?.getD default = (u, v, cc) := by rw [HEG.out]; rfl
            rw [ee] at z0
            simp only [Option.some.injEq, Addr.mk.injEq, and_true] at heq
            obtain ⟨rfl, rfl⟩ := heq
            dsimp only at z0
            have z0' := HW3.out.new.cellOf z0
            clear ee z0
            go_quiet (fail)
            rename_i nq
            have HW4 := Lib.hid (HW3.out.keep ((New.refl W3).drewN nq))
            have HR4 := Lib.hid (HR3.out.keep ((New.refl W3).drewN nq))
            have HN4 := Lib.hid (HN3.out.drewN nq)
            clear g0 g2 c2 z0'
            go_wp2_with fail
            go_roundg (zerosN n (upd m' x ((s : Int) + 1)))
            case measure => have h1 := HZZ.out; have h2 := HG.out; omega
            case rel =>
              refine ⟨u, upd m' x ((s : Int) + 1), rfl, hf, rfl, fun y hy => ?_, fun y hy hms => ?_, HR4.out, HW4.out, HN4.out⟩
              · unfold upd
                split
                · omega
                · exact HM2.out y hy
              · have hLx : Lead E u [i] x := ⟨(u, v, cc), HEG.out, rfl, HTG.out⟩
                have hBx : ByL E b [i] := fun j f hj hfj => by
                  rw [List.mem_singleton] at hj
                  subst hj
                  rw [HEG.out] at hfj
                  obtain rfl := Option.some.inj hfj
                  show b v = _
                  have h1 : v = x := HTG.out
                  rw [h1]; exact HBX.out
                by_cases hyx : y = x
                · subst hyx
                  exact ⟨[i], by simp, hLx, hBx⟩
                · rw [upd_other _ _ hyx] at hms
                  obtain ⟨l, hl1, hl2, hl3⟩ := HL2.out y hy hms
                  refine ⟨i :: l, by simp, ⟨(u, v, cc), HEG.out, rfl, ?_⟩, fun j f hj hfj => ?_⟩
                  · have h1 : v = x := HTG.out
                    rw [h1]; exact hl2
                  · rcases List.mem_cons.1 hj with rfl | hj
                    · exact hBx _ f (List.mem_singleton.2 rfl) hfj
                    · exact hl3 j f hj hfj
        · have hz' : (m' x == 0) = false := by simpa using hz
          have hne : m' x ≠ (s : Int) + 1 := fun e => by
            obtain ⟨l, hl1, hl2, hl3⟩ := HL2.out x hx e
            exact HNO.out l x hl1 hl2 hl3
          have hne' : (m' x == (s : Int) + 1) = false := by simpa using hne
          clear hz hne hbx
          go_wp2_with fail
          go_roundw
          case rel => exact ⟨s + 1, m', by omega, by go_num, fun v hv => by have := HM2.out v hv; omega, HR2.out, HW2.out, HN2.out⟩
          case measure => simp [intOf]; omega
    · obtain rfl : s = n := by omega
      go_wp2_with fail
      first | go_end0 | refine bodyPost_ret (results_none rfl _ _ _) rfl ?_
      exact ⟨rfl, hnw⟩
end Go.Proofs.YtodmbcoobjcooaaDoor

namespace Go.Proofs.YtodmbcoobjcooaaDoor
open Go Go.RowKit Go.Shelf
attribute [local go_sem] Oper.semAt_some
/-- The third consumer: it writes two blocks. -/
def SafeP (p q : Nat) (W : World) (k : Nat) : Prop := (∃ c e f, W.heap[k]? = some (.cells c e f)) ∧ k ≠ p ∧ k ≠ q
theorem sftP (p q n0 : Nat) : Sft n0 (fun W => p < W.heap.size ∧ q < W.heap.size) (SafeP p q) :=
  ⟨fun _ _ h hw => ⟨⟨Nat.lt_of_lt_of_le hw.1 h.size, Nat.lt_of_lt_of_le hw.2 h.size⟩, fun _ ⟨⟨c', e', f', hk⟩, h2⟩ => ⟨⟨c', e', f', heap_keep h hk⟩, h2⟩⟩, fun W c e hw _ => ⟨⟨c, e, (0, 0), heap_alloc_new W _⟩, by have := hw.1; omega, by have := hw.2; omega⟩, fun _ _ _ ⟨⟨_, _, _, h⟩, _⟩ => (Array.getElem?_eq_some_iff.1 h).1⟩
abbrev EvP (n0 p q : Nat) := Ev n0 (fun W => p < W.heap.size ∧ q < W.heap.size) (SafeP p q)
theorem KeepBut.ev {n0 p q : Nat} {W W' : World} (h : KeepBut p q W W') (hp : n0 ≤ p) (hq : n0 ≤ q) (hn : n0 ≤ W.heap.size) : EvP n0 p q W W' := by
  have hs := h.1.size
  refine ⟨⟨h.1.os, h.1.tape, h.1.output, by omega, fun i hi => h.2 i (by omega) (by omega) (by omega)⟩, fun hw => ⟨⟨by omega, by omega⟩, fun k hk => ?_⟩⟩
  obtain ⟨⟨c, e, f, h1⟩, h2, h3⟩ := hk
  have h4 := h.2 k (Array.getElem?_eq_some_iff.1 h1).1 h2 h3
  exact ⟨⟨⟨c, e, f, h4.trans h1⟩, h2, h3⟩, h4⟩
theorem evP_put {n0 p q B : Nat} {W : World} {l : Nat} {ob ob' : Obj} (hB : B ≤ l) (hn : n0 ≤ B) (hl : W.heap[l]? = some ob) (hc : ob.isCells = false) : EvP n0 p q W (W.putObj l ob') := by
  have hlt := (Array.getElem?_eq_some_iff.1 hl).1
  refine ⟨(Below.refl n0 W).grown (grownBy_putObj' W l ob') (by omega) (fun k e => by cases e; omega), fun hw => ⟨⟨by simp; omega, by simp; omega⟩, fun k hk => ?_⟩⟩
  obtain ⟨⟨c, e, f, h1⟩, h2⟩ := hk
  have hkl : k ≠ l := fun e => by subst e; rw [h1] at hl; cases hl; cases hc
  have h4 : (W.putObj l ob').heap[k]? = W.heap[k]? := World.putObj_heap_other hkl
  exact ⟨⟨⟨c, e, f, h4.trans h1⟩, h2⟩, h4⟩
/-- The index of an edge. -/
abbrev IxE (E : List Eg) := { i : Nat // i < E.length }
def ixV {E : List Eg} (x : IxE E) : Array Value := #[.int .i64 x.1, .agg #[.int .i64 (eAt E x.1).1, .int .i64 (eAt E x.1).2.1, .int .i64 (eAt E x.1).2.2]]
theorem ck_Backward (A : Option Addr) (m c : Nat) (n : Nat) (w : World) :
    CallsIn Fence.wide n Tryd.prog 128 #[.slice A m c] w fun e w' => e = .returned (.func (.func 131) #[] #[.pointer (some ⟨w.heap.size, 0, none⟩)]) ∧ w' = w.alloc (.cells #[.slice A m c] 149) := by
  refine callsIn_of_wp Tryd.func128 rfl trivial ?_ rfl
  simp only [Tryd.ntmps128, List.size_toArray, List.length_cons, List.length_nil, Nat.reduceAdd, Nat.reduceSub, Array.replicate_succ, Array.replicate_zero, List.push_toArray, List.append_toArray, List.nil_append, List.cons_append]
  gi_wp2
  go_ret
  exact ⟨rfl, rfl⟩
set_option maxRecDepth 100000 in
set_option maxHeartbeats 2000000 in
theorem ck_Backward1 {n0 sb bb : Nat} (E : List Eg) (EA : Option Addr) (ec l Bs : Nat) (J Jx : List (IxE E) → World → Prop)
    (hY : ∀ m pre x W, J pre W → pre.length < E.length → YieldAt Fence.wide m Tryd.prog l (ixV x) W fun e W' => (e = .returned (.bool true) ∧ J (pre ++ [x]) W' ∧ EvP n0 sb bb W W') ∨ (e = .returned (.bool false) ∧ Jx (pre ++ [x]) W'))
    (W w0 : World) (hn0 : w0.heap.size = n0) (hB : Below n0 w0 W) (hw : sb < W.heap.size ∧ bb < W.heap.size) (hE : EgsA w0 EA E) (h0 : J [] W) (hR : SRow (SafeP sb bb) W Bs 149 [.slice EA E.length ec]) (n : Nat) :
    CallsIn Fence.wide n Tryd.prog 131 #[.func (.yield l) #[] #[], .pointer (some ⟨Bs, 0, none⟩)] W fun e W' => (∃ v, e = .returned v) ∧
      ((∃ ys : List (IxE E), True ∧ J ys W') ∨ (∃ q : List (IxE E), True ∧ Jx q W')) := by
  have HY := Lib.hid hY
  have HR := Lib.hid hR
  have HE := Lib.hid hE
  have HB := Lib.hid hB
  have hl := hE.1
  have c0 := hR.cell (i := 0) rfl
  have hdd : ∀ k : Nat, (Fence.wide.depth.isSome = true → 1 ≤ k) := fun k h => by cases h
  clear hY hR hE hB
  refine callsIn_of_wp Tryd.func131 rfl trivial ?_ rfl
  simp only [Tryd.ntmps131, List.size_toArray, List.length_cons, List.length_nil, Nat.reduceAdd, Nat.reduceSub, Array.replicate_succ, Array.replicate_zero, List.push_toArray, List.append_toArray, List.nil_append, List.cons_append]
  gi_wp2
  clear c0
  gi_loopw [3] (fun i wr => ∃ (k : Nat) (pre : List (IxE E)), k ≤ E.length ∧ i = .int .i64 ((k : Int) - 1) ∧ Hid (pre.length + k = E.length) ∧ J pre wr ∧ EvP n0 sb bb W wr) (fun i _ => (intOf i + 1).toNat)
  case atStart => exact ⟨E.length, [], Nat.le_refl _, rfl, Lib.hid (by simp), h0, Ev.refl _⟩
  case round =>
    obtain ⟨k, pre, hk, rfl, HP, hj, hv⟩ := hrel
    have HV := Lib.hid hv
    have R := HR.out.keep hw hv
    have c0 := R.cell (i := 0) rfl
    clear hv R
    cases k with
    | zero =>
      gi_wp2
      first | go_end0 | refine bodyPost_ret (results_none rfl _ _ _) rfl ?_
      exact ⟨⟨_, rfl⟩, .inl ⟨pre, trivial, hj⟩⟩
    | succ j =>
      have ej : ((j + 1 : Nat) : Int) - 1 = (j : Int) := by omega
      rw [ej]
      obtain ⟨eb, eo, rfl, heb, hc⟩ := HE.out.2 (by omega)
      obtain ⟨z0, z1, z2⟩ := hc j (by omega)
      have ee : E[j]?.getD default = eAt E j := rfl
      rw [ee] at z0 z1 z2
      have HBw := Lib.hid (HB.out.trans HV.out.1)
      replace z0 := cell_below z0 HBw.out hn0
      replace z1 := cell_below z1 HBw.out hn0
      replace z2 := cell_below z2 HBw.out hn0
      have hjl : j < E.length := by omega
      have hlen : pre.length < E.length := by have := HP.out; omega
      obtain ⟨fn, tmps, assign, body, hy, hR⟩ := HY.out (n - 1) pre ⟨j, hjl⟩ _ hj hlen
      unfold ixV at hy
      dsimp only at hy
      have HHR := Lib.hid hR
      have i1 : (j : Int) < (E.length : Int) := by omega
      have i2 : (0 : Int) ≤ (j : Int) := by omega
      clear hc ee hR heb hj
      generalize eAt E j = e at *
      obtain ⟨u, v, c⟩ := e
      dsimp only at *
      gi_wp2
      try refine ⟨hdd _, ?_⟩
      refine (RoundIn.anyDepth rfl HHR.out).mono ?_
      rintro e W7 (⟨rfl, j7, v7⟩ | ⟨rfl, x7⟩)
      · have HV7 := Lib.hid (HV.out.trans v7)
        have HJ7 := Lib.hid j7
        clear c0 z0 z1 z2 hy HHR v7 j7
        gi_wp2
        go_roundw
        case rel => exact ⟨j, _, by omega, rfl, Lib.hid (by have := HP.out; simp; omega), HJ7.out, HV7.out⟩
        case measure => simp [intOf]
      · gi_wp2
        first | go_end0 | refine bodyPost_ret (results_none rfl _ _ _) rfl ?_
        exact ⟨⟨_, rfl⟩, .inr ⟨_, trivial, x7⟩⟩
theorem backward_stops {n0 sb bb : Nat} (E : List Eg) (EA : Option Addr) (ec Bs : Nat) (w w0 : World) (hn0 : w0.heap.size = n0) (hB : Below n0 w0 w) (hw : sb < w.heap.size ∧ bb < w.heap.size) (hE : EgsA w0 EA E) (hR : SRow (SafeP sb bb) w Bs 149 [.slice EA E.length ec]) (n : Nat) :
    SeqStopsK Fence.wide n Tryd.prog 131 #[.pointer (some ⟨Bs, 0, none⟩)] (fun x : IxE E => ixV x) (EvP n0 sb bb) (fun _ => True) (fun _ => True) E.length w := fun l J Jx W hW hJ _ hY h0 => by
  have hk : New w W := hW
  have hnw : n0 ≤ w.heap.size := by have := hB.size; omega
  have hv := Ev.new (sftP sb bb n0) hnw hk
  exact ck_Backward1 E EA ec l Bs J Jx (fun m pre x W1 hj hl => YieldAt.anyDepth rfl m (hY pre x W1 hj hl)) W w0 hn0 (hB.trans hv.1) (hv.2 hw).1 hE h0 (hR.keep hw hv) n
end Go.Proofs.YtodmbcoobjcooaaDoor

namespace Go.Proofs.YtodmbcoobjcooaaDoor
open Go Go.RowKit Go.Shelf
/-- The marks of the loops that a call has been through. -/
def marks (Ds : List Nat) : List Deferred := Ds.map fun D => { target := .collected D, args := #[] }
/-- Their blocks are shut, one after the other. -/
inductive Shuts : List Nat → World → World → Prop
  | nil (w : World) : Shuts [] w w
  | cons {D : Nat} {Ds : List Nat} {w w' : World} : Shuts Ds (w.putObj D (.deferred none)) w' → Shuts (D :: Ds) w w'
theorem leaves_marks {F : Fence} {n : Nat} {P : Program} {fn : Func} {tmps : Array Value} {R : Ending → World → Prop} : ∀ (Ds : List Nat) (w : World), (∀ D ∈ Ds, w.heap[D]? = some (.deferred (some []))) → Ds.Nodup →
    (∀ w', Shuts Ds w w' → LeavesIn F n P fn tmps R [] .returning w') → LeavesInM F n P fn tmps R (marks Ds) .returning w
  | [], w, _, _, h => h w (.nil w)
  | D :: Ds, w, hD, hnd, h => by
    refine ⟨by simp, .inl ⟨D, _, rfl, run_takeDeferred (hD D (List.mem_cons_self ..)), ?_⟩⟩
    refine leaves_marks Ds _ (fun D' hm => ?_) (List.nodup_cons.1 hnd).2 (fun w' hs => h w' (.cons hs))
    have hne : D' ≠ D := fun e => (List.nodup_cons.1 hnd).1 (e ▸ hm)
    exact (World.putObj_heap_other hne).trans (hD D' (List.mem_cons_of_mem _ hm))
theorem Shuts.keep {Ds : List Nat} {w w' : World} (h : Shuts Ds w w') : (∀ D ∈ Ds, w.heap[D]? = some (.deferred (some []))) → Ds.Nodup → Below 0 w w' ∧ ∀ k, k ∉ Ds → w'.heap[k]? = w.heap[k]? := by
  induction h with
  | nil w => exact fun _ _ => ⟨Below.refl _ _, fun _ _ => rfl⟩
  | @cons D Ds w w' _ ih =>
    intro hD hnd
    obtain ⟨h1, h2⟩ := ih (fun D' hm => by
      have hne : D' ≠ D := fun e => (List.nodup_cons.1 hnd).1 (e ▸ hm)
      exact (World.putObj_heap_other hne).trans (hD D' (List.mem_cons_of_mem _ hm))) (List.nodup_cons.1 hnd).2
    refine ⟨(((Below.refl 0 w).grown (grownBy_putObj' w D _) (Nat.zero_le _) (fun _ _ => Nat.zero_le _))).trans h1, fun k hk => ?_⟩
    rw [List.mem_cons, not_or] at hk
    exact (h2 k hk.2).trans (World.putObj_heap_other hk.1)
/-- The act in a round of a loop with two variables, the first of which is copied. -/
def actT (a : Act) (p1 p2 q : Nat) (v1 v2 : Value) : Act := { tmps := ((a.tmps.setIfInBounds p1 v1).setIfInBounds p2 v2).setIfInBounds q v1, defers := [] }
theorem range_two {F : Fence} {n : Nat} {P : Program} {α : Type} {g : Operand} {ps : Array Tmp} {assign body : Code} {Q : Exit → Act → World → Prop} {a : Act} {w : World} (p1 p2 q : Nat) (v1 v2 : α → Value)
    (hro : F.round = none) (h1 : 1 ≤ n) {gf : Nat} {lb : Array Value} (hg : a.eval g = .func (.func gf) #[] lb) (hFg : F.fn gf) (eg : ∀ args w, (callFunc gf args).run P w = .ok (.enter gf args) w)
    {encs : α → Array Value} {Kp : World → World → Prop} {S Sp : List α → Prop} {N : Nat} {w0 : World} (hseq : SeqStopsK F (n - 1) P gf lb encs Kp S Sp N w0)
    (hKt : ∀ {A B C : World}, Kp A B → Kp B C → Kp A C) (hKb : ∀ (W : World) (l : Nat) (o o' : Obj), w.heap.size ≤ l → W.heap[l]? = some o → o.isCells = false → o.isWalk = false → Kp W (W.putObj l o')) (hb0 : Below w0.heap.size w0 w) (hps : ∀ x, (encs x).size = ps.size)
    (I : List α → World → Prop) (Ix : Code → List α → World → Prop) (hI : OwnFrom w.heap.size I) (hIx : ∀ c, OwnFrom w.heap.size (Ix c)) (h0 : I [] w)
    (hassign : ∀ (l : Nat) (x : α) (W : World) (K : Act → World → Prop), K (actT a p1 p2 q (v1 x) (v2 x)) W → assign.wpIn (F.inRound l) (n - 1 - 1) P (Exit.then K (fun _ _ _ => False)) { tmps := (ps.zip (encs x)).foldl (fun t (p, v) => t.setIfInBounds p v) a.tmps, defers := [] } W)
    (hbody : ∀ (l : Nat) (pre : List α) (x : α) (W : World), I pre W → pre.length < N → body.wpIn (F.inRound l) (n - 1 - 1) P (ownPostG w.heap.size Kp I Ix (pre ++ [x]) W) (actT a p1 p2 q (v1 x) (v2 x)) W)
    (hdone : ∀ (D : Nat) (xs : List α) (W : World), w.heap.size ≤ D → S xs → I xs W → W.heap[D]? = some (.deferred (some [])) → Q .normal { a with defers := { target := .collected D, args := #[] } :: a.defers } W)
    (hstop : ∀ (D : Nat) (c : Code) (pre : List α) (W : World), w.heap.size ≤ D → Sp pre → Ix c pre W → W.heap[D]? = some (.deferred (some [])) → c.wpIn F n P Q { a with defers := { target := .collected D, args := #[] } :: a.defers } W) :
    (Code.rangeFunc g ps assign body).wpIn F n P Q a w :=
  wpIn_rangeFunc_ownG hro h1 hg hFg eg hseq (fun h k => hKt h k) hKb hb0 hps I Ix hI hIx h0 (fun x => actT a p1 p2 q (v1 x) (v2 x)) hassign hbody hdone hstop
theorem array41 {α : Type} {cs : Array α} (h : cs.size = 41) : ∃ c0 c1 c2 c3 c4 c5 c6 c7 c8 c9 c10 c11 c12 c13 c14 c15 c16 c17 c18 c19 c20 c21 c22 c23 c24 c25 c26 c27 c28 c29 c30 c31 c32 c33 c34 c35 c36 c37 c38 c39 c40, cs = #[c0, c1, c2, c3, c4, c5, c6, c7, c8, c9, c10, c11, c12, c13, c14, c15, c16, c17, c18, c19, c20, c21, c22, c23, c24, c25, c26, c27, c28, c29, c30, c31, c32, c33, c34, c35, c36, c37, c38, c39, c40] := by
  obtain ⟨l⟩ := cs
  simp only [List.size_toArray] at h
  rcases l with _ | ⟨c0, _ | ⟨c1, _ | ⟨c2, _ | ⟨c3, _ | ⟨c4, _ | ⟨c5, _ | ⟨c6, _ | ⟨c7, _ | ⟨c8, _ | ⟨c9, _ | ⟨c10, _ | ⟨c11, _ | ⟨c12, _ | ⟨c13, _ | ⟨c14, _ | ⟨c15, _ | ⟨c16, _ | ⟨c17, _ | ⟨c18, _ | ⟨c19, _ | ⟨c20, _ | ⟨c21, _ | ⟨c22, _ | ⟨c23, _ | ⟨c24, _ | ⟨c25, _ | ⟨c26, _ | ⟨c27, _ | ⟨c28, _ | ⟨c29, _ | ⟨c30, _ | ⟨c31, _ | ⟨c32, _ | ⟨c33, _ | ⟨c34, _ | ⟨c35, _ | ⟨c36, _ | ⟨c37, _ | ⟨c38, _ | ⟨c39, _ | ⟨c40, _ | ⟨c41, l⟩⟩⟩⟩⟩⟩⟩⟩⟩⟩⟩⟩⟩⟩⟩⟩⟩⟩⟩⟩⟩⟩⟩⟩⟩⟩⟩⟩⟩⟩⟩⟩⟩⟩⟩⟩⟩⟩⟩⟩⟩⟩ <;> simp at h
  all_goals first
    | (exact ⟨c0, c1, c2, c3, c4, c5, c6, c7, c8, c9, c10, c11, c12, c13, c14, c15, c16, c17, c18, c19, c20, c21, c22, c23, c24, c25, c26, c27, c28, c29, c30, c31, c32, c33, c34, c35, c36, c37, c38, c39, c40, rfl⟩)
    | omega
end Go.Proofs.YtodmbcoobjcooaaDoor

namespace Go.Proofs.YtodmbcoobjcooaaDoor
open Go Go.RowKit Go.Shelf
attribute [local go_sem] Oper.semAt_some
/-- One step: the sums and the edges by which they came. -/
def stD (E : List Eg) (d : Nat → Int) (i : Nat) : Nat → Int := if lowB E d i = true then upd d (eAt E i).2.1 (d (eAt E i).1 + (eAt E i).2.2) else d
def stB (E : List Eg) (d b : Nat → Int) (i : Nat) : Nat → Int := if lowB E d i = true then upd b (eAt E i).2.1 i else b
theorem WI.step {E : List Eg} {n src : Nat} {d b : Nat → Int} {M : Int} (hM : 0 ≤ M) (h : WI E n src d b) (hE : EOk E n M) (hcl : Closes E) {i : Nat} (hi : i < E.length) :
    WI E n src (stD E d i) (stB E d b i) ∧ (lowB E d i = false ∧ stD E d i = d ∨ totN n (n * M) (stD E d i) < totN n (n * M) d) := by
  unfold stD stB
  cases hl : lowB E d i with
  | false => simp only [Bool.false_eq_true, if_false]; exact ⟨h, .inl ⟨trivial, trivial⟩⟩
  | true =>
    simp only [if_true]
    unfold lowB at hl
    simp only [Bool.and_eq_true, decide_eq_true_eq] at hl
    have hw := h.lower hE (eAt_get hi) hl.1 hl.2
    have hm : eAt E i ∈ E := List.mem_of_getElem? (eAt_get hi)
    refine ⟨hw, .inr (totN_upd n _ d _ _ (hE.snd _ hm) hl.2 ?_)⟩
    have := low_all hM hw hE (hcl.noloop hw) (hE.snd _ hm)
    rwa [upd_same] at this
theorem WI.rng {E : List Eg} {n src : Nat} {d b : Nat → Int} (h : WI E n src d b) (hE : EOk E n 22001) (hcl : Closes E) (hn : n ≤ 26000) : ∀ v, v < n → -10000000000000 ≤ d v ∧ d v ≤ NB := fun v hv => by
  have := low_all (by decide) h hE (hcl.noloop h) hv
  exact ⟨by omega, h.le v hv⟩
/-- What has come of the sums since, the first k edges gone through. -/
def Thru (E : List Eg) (n k : Nat) (d0 d : Nat → Int) : Prop := totN n (n * 22001) d < totN n (n * 22001) d0 ∨ (d = d0 ∧ ∀ j, j < k → lowB E d0 j = false)
theorem Thru.start (E : List Eg) (n : Nat) (d0 : Nat → Int) : Thru E n 0 d0 d0 := .inr ⟨rfl, fun _ h => absurd h (Nat.not_lt_zero _)⟩
theorem Thru.next {E : List Eg} {n k : Nat} {d0 d d' : Nat → Int} (h : Thru E n k d0 d) (hs : lowB E d k = false ∧ d' = d ∨ totN n (n * 22001) d' < totN n (n * 22001) d) : Thru E n (k + 1) d0 d' := by
  rcases hs with ⟨h1, rfl⟩ | h1
  · rcases h with h | ⟨rfl, h⟩
    · exact .inl h
    · refine .inr ⟨rfl, fun j hj => ?_⟩
      by_cases e : j = k
      · exact e ▸ h1
      · exact h j (by omega)
  · rcases h with h | ⟨rfl, _⟩
    · exact .inl (by omega)
    · exact .inl h1
theorem Thru.same {E : List Eg} {n k i : Nat} {d0 d d' : Nat → Int} (h : Thru E n k d0 d) (hs : lowB E d i = false ∧ d' = d ∨ totN n (n * 22001) d' < totN n (n * 22001) d) : Thru E n k d0 d' := by
  rcases hs with ⟨_, rfl⟩ | h1
  · exact h
  · rcases h with h | ⟨rfl, _⟩
    · exact .inl (by omega)
    · exact .inl h1
theorem calm_of {E : List Eg} {d : Nat → Int} (h : ∀ j, j < E.length → lowB E d j = false) : Calm E d := fun e he hd => by
  obtain ⟨j, hj, rfl⟩ := List.mem_iff_getElem.1 he
  have := h j hj
  unfold lowB at this
  have e2 : eAt E j = E[j] := by unfold eAt; rw [List.getElem?_eq_getElem hj]; rfl
  rw [e2] at this
  simp [hd] at this
  omega
/-- What stands at the head of each round of relax. -/
structure RlX (w0 W w' : World) (g sb bb n src B : Nat) (EA : Option Addr) (ec : Nat) (E : List Eg) (Ds : List Nat) (d b : Nat → Int) : Prop where
  wav : WavA w0 w' g sb bb n EA ec E d b
  wi : WI E n src d b
  keep : KeepBut sb bb W w'
  box : RowIs w' B 125 [.pointer (some ⟨g, 0, none⟩)]
  bne : B ≠ sb ∧ B ≠ bb
  ds : ∀ D ∈ Ds, w'.heap[D]? = some (.deferred (some []))
theorem RlX.cont {w0 W w1 w2 : World} {g sb bb n src B : Nat} {EA : Option Addr} {ec : Nat} {E : List Eg} {Ds : List Nat} {d b d' b' : Nat → Int} (h : RlX w0 W w1 g sb bb n src B EA ec E Ds d b) (k : KeepBut sb bb w1 w2) (hv : WavA w0 w2 g sb bb n EA ec E d' b') (hi : WI E n src d' b') : RlX w0 W w2 g sb bb n src B EA ec E Ds d' b' :=
  ⟨hv, hi, h.keep.trans k, k.row h.box h.bne.1 h.bne.2, h.bne, fun D hD => by
    have h1 := h.ds D hD
    have hs := h.wav.sums
    have hb := h.wav.bys
    unfold RowIs at hs hb
    refine (k.2 D (Array.getElem?_eq_some_iff.1 h1).1 (fun e => ?_) (fun e => ?_)).trans h1
    · rw [e, hs] at h1; cases h1
    · rw [e, hb] at h1; cases h1⟩
theorem RlX.new {w0 W w1 w2 : World} {g sb bb n src B : Nat} {EA : Option Addr} {ec : Nat} {E : List Eg} {Ds : List Nat} {d b : Nat → Int} (h : RlX w0 W w1 g sb bb n src B EA ec E Ds d b) (k : New w1 w2) : RlX w0 W w2 g sb bb n src B EA ec E Ds d b :=
  h.cont (.of_new k) (h.wav.keep k) h.wi
theorem rlX_own {β : Type} (w0 W : World) (g sb bb n src B : Nat) (EA : Option Addr) (ec : Nat) (E : List Eg) (Ds : List Nat) (w : World) (hs : W.heap.size ≤ w.heap.size) (hs0 : w0.heap.size ≤ w.heap.size) (hD : ∀ D ∈ Ds, D < w.heap.size) (d b : Nat → Int) : OwnFrom w.heap.size (fun (_ : β) w' => RlX w0 W w' g sb bb n src B EA ec E Ds d b) := fun x X Y row h hg hr => by
  have r1 := rowIs_own w.heap.size g _ _ () X Y row h.wav.row hg hr
  have r2 := rowIs_own w.heap.size sb _ _ () X Y row h.wav.sums hg hr
  have r3 := rowIs_own w.heap.size bb _ _ () X Y row h.wav.bys hg hr
  have r4 := rowIs_own w.heap.size B _ _ () X Y row h.box hg hr
  have hsz := h.keep.size
  have hnew : New w0 Y := Below.grown h.wav.new hg (by have := h.wav.new.size; omega) (fun k e => by have := (hr k e).1; omega)
  refine ⟨⟨hnew, h.wav.egs, h.wav.hg, h.wav.hs, h.wav.hb, h.wav.gs, h.wav.gb, h.wav.ne, r1, r2, r3⟩, h.wi, ⟨Below.grown h.keep.1 hg (Nat.zero_le _) (fun k e => Nat.zero_le _), fun k hk hp hq => ?_⟩, r4, h.bne, fun D hm => ?_⟩
  · exact (hg.block k (by omega) (fun e => by have := (hr k e.symm).1; omega)).trans (h.keep.2 k hk hp hq)
  · have h1 := h.ds D hm
    exact (hg.block D (Array.getElem?_eq_some_iff.1 h1).1 (fun e => by have := (hr D e.symm).1; have := hD D hm; omega)).trans h1
theorem KeepBut.keeps {p q B : Nat} {W W' : World} (h : KeepBut p q W W') {e1 e2 : TypeId} {c1 c2 : List Value} (hp : RowIs W p e1 c1) (hq : RowIs W q e2 c2) : KeepsFrom B W W' :=
  ⟨h.1.size, fun k o _ hk ho => by
    refine (h.2 k (Array.getElem?_eq_some_iff.1 hk).1 (fun e => ?_) (fun e => ?_)).trans hk
    · unfold RowIs at hp; rw [e, hp] at hk; cases hk; cases ho
    · unfold RowIs at hq; rw [e, hq] at hk; cases hk; cases ho⟩
theorem RlX.ck_lower {w0 W w1 : World} {g sb bb n src B : Nat} {EA : Option Addr} {ec : Nat} {E : List Eg} {Ds : List Nat} {d b : Nat → Int} (h : RlX w0 W w1 g sb bb n src B EA ec E Ds d b) (hE : EOk E n 22001) (hcl : Closes E) (hn : n ≤ 26000) (i : Nat) (hi : i < E.length) :
    Calls Tryd.prog 127 #[.pointer (some ⟨g, 0, none⟩), .int .i64 i] w1 fun e w' => e = .returned (.tuple #[]) ∧ KeepBut sb bb w1 w' ∧ RlX w0 W w' g sb bb n src B EA ec E Ds (stD E d i) (stB E d b i) := by
  refine (Go.Proofs.YtodmbcoobjcooaaDoor.ck_lower h.wav hE i hi (h.wi.rng hE hcl hn)).mono ?_
  rintro e w' ⟨he, hk, hv⟩
  exact ⟨he, hk, h.cont hk hv (h.wi.step (by decide) hE hcl hi).1⟩
theorem RlX.shut {w0 W w1 w2 : World} {g sb bb n src B : Nat} {EA : Option Addr} {ec : Nat} {E : List Eg} {Ds : List Nat} {d b : Nat → Int} (h : RlX w0 W w1 g sb bb n src B EA ec E Ds d b) (hnd : Ds.Nodup) (h0 : w0.heap.size ≤ W.heap.size) (hD : ∀ D ∈ Ds, W.heap.size ≤ D) (hs : Shuts Ds w1 w2) : WavA w0 w2 g sb bb n EA ec E d b ∧ KeepBut sb bb W w2 := by
  obtain ⟨k1, k2⟩ := hs.keep h.ds hnd
  have row : ∀ (p : Nat) (e : TypeId) (cs : List Value), RowIs w1 p e cs → RowIs w2 p e cs := fun p e cs hr => by
    unfold RowIs at hr
    refine (k2 p (fun hm => ?_)).trans hr
    have := h.ds p hm
    rw [hr] at this
    cases this
  have hw := h.wav.new.size
  have hk := h.keep.size
  have hsz := k1.size
  have hnew : New w0 w2 := Below.trans h.wav.new ⟨k1.os, k1.tape, k1.output, by omega, fun i hi => k2 i (fun hm => by have := hD i hm; omega)⟩
  refine ⟨⟨hnew, h.wav.egs, h.wav.hg, h.wav.hs, h.wav.hb, h.wav.gs, h.wav.gb, h.wav.ne, row _ _ _ h.wav.row, row _ _ _ h.wav.sums, row _ _ _ h.wav.bys⟩, h.keep.1.trans k1, fun k hk hp hq => ?_⟩
  exact (k2 k (fun hm => by have := hD k hm; omega)).trans (h.keep.2 k hk hp hq)
end Go.Proofs.YtodmbcoobjcooaaDoor
