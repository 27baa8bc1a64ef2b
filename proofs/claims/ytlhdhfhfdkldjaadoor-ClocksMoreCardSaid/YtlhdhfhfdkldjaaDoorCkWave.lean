/-
  Waves in memory; lowers and lower of the program. Condition: the wave lies in memory, its edges in older memory.
-/
import Derived.Test.YtlhdhfhfdkldjaaDoorCkNet
import Derived.Test.YtlhdhfhfdkldjaaDoorCkGraph
import Derived.StillTailTactics
namespace Go.Proofs.YtlhdhfhfdkldjaaDoor
open Go Go.RowKit Go.Shelf
/-- A row of numbers that is told by a function. -/
def fnRow (n : Nat) (f : Nat → Int) : List Value := (List.range n).map fun i => .int .i64 (f i)
theorem fnRow_len (n : Nat) (f : Nat → Int) : (fnRow n f).length = n := by simp [fnRow]
theorem fnRow_get {n : Nat} {f : Nat → Int} {i : Nat} (h : i < n) : (fnRow n f)[i]? = some (.int .i64 (f i)) := by
  rw [fnRow, List.getElem?_map, List.getElem?_range h]; rfl
theorem fnRow_set {n : Nat} {f : Nat → Int} {i : Nat} (h : i < n) (x : Int) : (fnRow n f).set i (.int .i64 x) = fnRow n (upd f i x) := by
  apply List.ext_getElem?
  intro j
  rw [List.getElem?_set, fnRow_len]
  by_cases hj : j < n
  · rw [fnRow_get hj, fnRow_get hj]
    by_cases hij : i = j
    · subst hij; simp [upd_same, h]
    · rw [if_neg hij, upd_other _ _ (Ne.symm hij)]
  · have h1 : (fnRow n f)[j]? = none := List.getElem?_eq_none (by rw [fnRow_len]; omega)
    have h2 : (fnRow n (upd f i x))[j]? = none := List.getElem?_eq_none (by rw [fnRow_len]; omega)
    rw [h1, h2]
    by_cases hij : i = j
    · omega
    · rw [if_neg hij]
/-- What a step leaves that writes into two blocks alone. -/
def KeepBut (p q : Nat) (W W' : World) : Prop := Below 0 W W' ∧ ∀ k, k < W.heap.size → k ≠ p → k ≠ q → W'.heap[k]? = W.heap[k]?
theorem KeepBut.refl (p q : Nat) (W : World) : KeepBut p q W W := ⟨Below.refl _ _, fun _ _ _ _ => rfl⟩
theorem KeepBut.of_new {p q : Nat} {W W' : World} (h : New W W') : KeepBut p q W W' := ⟨Below.mono h (Nat.zero_le _), fun k hk _ _ => h.out.block k hk⟩
theorem KeepBut.trans {p q : Nat} {A B C : World} (h : KeepBut p q A B) (k : KeepBut p q B C) : KeepBut p q A C :=
  ⟨h.1.trans k.1, fun i hi hp hq => (k.2 i (Nat.lt_of_lt_of_le hi h.1.size) hp hq).trans (h.2 i hi hp hq)⟩
theorem KeepBut.set {p q r : Nat} {A B : World} (h : KeepBut p q A B) (hr : r = p ∨ r = q) (i : Nat) (v : Value) : KeepBut p q A (B.setCell ⟨r, i, none⟩ v) :=
  h.trans ⟨(Below.refl _ _).setCell (Nat.zero_le _) _, fun k _ hp hq => Below.heap_setCell B ⟨r, i, none⟩ v k (fun e => by have e : k = r := e; rcases hr with hr | hr <;> omega)⟩
theorem KeepBut.size {p q : Nat} {A B : World} (h : KeepBut p q A B) : A.heap.size ≤ B.heap.size := h.1.size
theorem KeepBut.row {p q g : Nat} {A B : World} (h : KeepBut p q A B) {e : TypeId} {cs : List Value} (hr : RowIs A g e cs) (hp : g ≠ p) (hq : g ≠ q) : RowIs B g e cs := (h.2 g hr.lt hp hq).trans hr
theorem KeepBut.new {p q : Nat} {w A B : World} (h : KeepBut p q A B) (k : New w A) (hp : w.heap.size ≤ p) (hq : w.heap.size ≤ q) : New w B :=
  Below.trans k ⟨h.1.os, h.1.tape, h.1.output, by have := h.1.size; have := New.size k; omega, fun i hi => h.2 i (by have := New.size k; omega) (by omega) (by omega)⟩
/-- A wave in memory: its block, the rows of its sums and of the edges by which they came. -/
structure WavA (w0 W : World) (g sb bb n : Nat) (EA : Option Addr) (ec : Nat) (E : List Eg) (d b : Nat → Int) : Prop where
  new : New w0 W
  egs : EgsA w0 EA E
  hg : w0.heap.size ≤ g
  hs : w0.heap.size ≤ sb
  hb : w0.heap.size ≤ bb
  gs : g ≠ sb
  gb : g ≠ bb
  ne : sb ≠ bb
  row : RowIs W g 151 [.slice EA E.length ec, .slice (some ⟨sb, 0, none⟩) n n, .slice (some ⟨bb, 0, none⟩) n n]
  sums : RowIs W sb 3 (fnRow n d)
  bys : RowIs W bb 3 (fnRow n b)
theorem WavA.keep {w0 W W' : World} {g sb bb n : Nat} {EA : Option Addr} {ec : Nat} {E : List Eg} {d b : Nat → Int} (h : WavA w0 W g sb bb n EA ec E d b) (k : New W W') : WavA w0 W' g sb bb n EA ec E d b :=
  ⟨h.new.trans k, h.egs, h.hg, h.hs, h.hb, h.gs, h.gb, h.ne, h.row.keep k, h.sums.keep k, h.bys.keep k⟩
theorem WavA.setS {w0 W : World} {g sb bb n : Nat} {EA : Option Addr} {ec : Nat} {E : List Eg} {d b : Nat → Int} (h : WavA w0 W g sb bb n EA ec E d b) {i : Nat} (hi : i < n) (x : Int) : WavA w0 (W.setCell ⟨sb, i, none⟩ (.int .i64 x)) g sb bb n EA ec E (upd d i x) b :=
  ⟨h.new.setCell h.hs _, h.egs, h.hg, h.hs, h.hb, h.gs, h.gb, h.ne, h.row.other (Ne.symm h.gs) _ _, by have := h.sums.put i (.int .i64 x); rwa [fnRow_set hi] at this, h.bys.other h.ne _ _⟩
theorem WavA.setB {w0 W : World} {g sb bb n : Nat} {EA : Option Addr} {ec : Nat} {E : List Eg} {d b : Nat → Int} (h : WavA w0 W g sb bb n EA ec E d b) {i : Nat} (hi : i < n) (x : Int) : WavA w0 (W.setCell ⟨bb, i, none⟩ (.int .i64 x)) g sb bb n EA ec E d (upd b i x) :=
  ⟨h.new.setCell h.hb _, h.egs, h.hg, h.hs, h.hb, h.gs, h.gb, h.ne, h.row.other (Ne.symm h.gb) _ _, h.sums.other (Ne.symm h.ne) _ _, by have := h.bys.put i (.int .i64 x); rwa [fnRow_set hi] at this⟩
theorem WavA.edge {w0 W : World} {g sb bb n : Nat} {EA : Option Addr} {ec : Nat} {E : List Eg} {d b : Nat → Int} (h : WavA w0 W g sb bb n EA ec E d b) {i : Nat} (hi : i < E.length) :
    ∃ eb eo, EA = some ⟨eb, eo, none⟩ ∧ EgC w0 eb (eo + i * 3) (E[i]?.getD default) := by
  obtain ⟨eb, eo, e, _, hc⟩ := h.egs.2 (by omega)
  exact ⟨eb, eo, e, hc i hi⟩
theorem WavA.len {w0 W : World} {g sb bb n : Nat} {EA : Option Addr} {ec : Nat} {E : List Eg} {d b : Nat → Int} (h : WavA w0 W g sb bb n EA ec E d b) : E.length ≤ 9223372036854775807 := h.egs.1
def eAt (E : List Eg) (i : Nat) : Eg := E[i]?.getD default
theorem eAt_get {E : List Eg} {i : Nat} (h : i < E.length) : E[i]? = some (eAt E i) := by unfold eAt; rw [List.getElem?_eq_getElem h]; rfl
/-- Whether an edge lowers a sum. -/
def lowB (E : List Eg) (d : Nat → Int) (i : Nat) : Bool := decide (d (eAt E i).1 ≠ NB) && decide (d (eAt E i).1 + (eAt E i).2.2 < d (eAt E i).2.1)
set_option maxHeartbeats 2000000 in
theorem ck_lowers {w0 W : World} {g sb bb n : Nat} {EA : Option Addr} {ec : Nat} {E : List Eg} {d b : Nat → Int} (h : WavA w0 W g sb bb n EA ec E d b) (hE : EOk E n 22001) (i : Nat) (hi : i < E.length) (hd : ∀ v, v < n → -10000000000000 ≤ d v ∧ d v ≤ NB) :
    Calls Tryd.prog 129 #[.pointer (some ⟨g, 0, none⟩), .int .i64 i] W fun e w' => e = .returned (.bool (lowB E d i)) ∧ New W w' := by
  have hm : eAt E i ∈ E := List.mem_of_getElem? (eAt_get hi)
  have hu := hE.fst _ hm
  have hv := hE.snd _ hm
  have hlo := hE.lo _ hm
  have hhi := hE.hi _ hm
  have hdu := hd _ hu
  obtain ⟨eb, eo, rfl, z0, z1, z2⟩ := h.edge hi
  have HB : Hid (lowB E d i = (decide (d (eAt E i).1 ≠ NB) && decide (d (eAt E i).1 + (eAt E i).2.2 < d (eAt E i).2.1))) := Lib.hid rfl
  have ee : E[i]?.getD default = eAt E i := rfl
  rw [ee] at z0 z1 z2
  have z3 := fnRow_get (f := d) hu
  have z4 := fnRow_get (f := d) hv
  have hl := h.len
  generalize lowB E d i = lb at *
  generalize eAt E i = e at *
  obtain ⟨u, v, c⟩ := e
  dsimp only at *
  have z3' := h.sums.cell z3
  have z4' := h.sums.cell z4
  generalize d u = du at *
  generalize d v = dv at *
  have n1 := (New.refl W).alloc (.cells #[.int .i64 u, .int .i64 v, .int .i64 c] 156)
  have R := RowIs.new W 156 [.int .i64 u, .int .i64 v, .int .i64 c]
  have g0 := h.row.cell (i := 0) rfl
  have y0 := h.new.cellOf z0
  have y1 := h.new.cellOf z1
  have y2 := h.new.cellOf z2
  have g1 := (h.row.keep n1).cell (i := 1) rfl
  have x3 := n1.cellOf z3'
  have x4 := n1.cellOf z4'
  have r0 := R.cell (i := 0) rfl
  have r1 := R.cell (i := 1) rfl
  have r2 := R.cell (i := 2) rfl
  have i1 : (i : Int) < (E.length : Int) := by omega
  have i2 : (0 : Int) ≤ (i : Int) := by omega
  have i3 : (u : Int) < (n : Int) := by omega
  have i4 : (0 : Int) ≤ (u : Int) := by omega
  have i5 : (v : Int) < (n : Int) := by omega
  have i6 : (0 : Int) ≤ (v : Int) := by omega
  have hNB : NB = 1099511627776 := rfl
  have hw : IntKind.i64.wrap (du + c) = du + c := IntWalk.i64_in _ (by omega)
  have HN := Lib.hid n1
  rw [hNB] at HB
  clear h hE hd z0 z1 z2 z3 z4 z3' z4' R n1 hNB hdu hlo hhi ee hm
  by_cases hf : du = 1099511627776
  · subst hf
    go_enter Tryd.func129, Tryd.ntmps129
    go_wp2_with fail
    go_quiet (fail)
    go_wp2_with fail
    go_ret
    exact ⟨ret_bool (by rw [HB.out]; simp), HN.out.drewN _⟩
  · have hf' : (du == 1099511627776) = false := by simpa using hf
    have hf2 : (du != 1099511627776) = true := by simpa using hf
    go_enter Tryd.func129, Tryd.ntmps129
    go_wp2_with fail
    go_quiet (fail)
    go_wp2_with fail
    go_ret
    exact ⟨ret_bool (by rw [HB.out]; simp [hf]), HN.out.drewN _⟩
set_option maxRecDepth 100000 in
set_option maxHeartbeats 2000000 in
theorem ck_lower {w0 W : World} {g sb bb n : Nat} {EA : Option Addr} {ec : Nat} {E : List Eg} {d b : Nat → Int} (h : WavA w0 W g sb bb n EA ec E d b) (hE : EOk E n 22001) (i : Nat) (hi : i < E.length) (hd : ∀ v, v < n → -10000000000000 ≤ d v ∧ d v ≤ NB) :
    Calls Tryd.prog 127 #[.pointer (some ⟨g, 0, none⟩), .int .i64 i] W fun e w' => e = .returned (.tuple #[]) ∧ KeepBut sb bb W w' ∧
      WavA w0 w' g sb bb n EA ec E (if lowB E d i = true then upd d (eAt E i).2.1 (d (eAt E i).1 + (eAt E i).2.2) else d) (if lowB E d i = true then upd b (eAt E i).2.1 i else b) := by
  have HL := Lib.hid (ck_lowers h hE i hi hd)
  cases hlb : lowB E d i with
  | false =>
    rw [hlb] at HL
    have H := Lib.hid h
    clear h
    go_enter Tryd.func127, Tryd.ntmps127
    go_wp2_with (go_at_call 129; refine HL.out.mono ?_; rintro e w1 ⟨rfl, k1⟩)
    first | go_end0 | refine bodyPost_ret (results_none rfl _ _ _) rfl ?_
    exact ⟨rfl, .of_new k1, by simpa using H.out.keep k1⟩
  | true =>
    rw [hlb] at HL
    simp only [if_true]
    have hlt : d (eAt E i).1 + (eAt E i).2.2 < d (eAt E i).2.1 := by
      unfold lowB at hlb
      simp at hlb
      exact hlb.2
    have hm : eAt E i ∈ E := List.mem_of_getElem? (eAt_get hi)
    have hu := hE.fst _ hm
    have hv := hE.snd _ hm
    have hlo := hE.lo _ hm
    have hhi := hE.hi _ hm
    have hdu := hd _ hu
    have hNB : NB = 1099511627776 := rfl
    obtain ⟨eb, eo, rfl, z0, z1, z2⟩ := h.edge hi
    have ee : E[i]?.getD default = eAt E i := rfl
    rw [ee] at z0 z1 z2
    have z3 := fnRow_get (f := d) hu
    have z4 := fnRow_get (f := d) hv
    have hl := h.len
    have H := Lib.hid h
    have HV := Lib.hid hv
    clear hE hd hlb
    generalize eAt E i = e at *
    obtain ⟨u, v, c⟩ := e
    dsimp only at *
    have hw : IntKind.i64.wrap (d u + c) = d u + c := IntWalk.i64_in _ (by omega)
    have i1 : (i : Int) < (E.length : Int) := by omega
    have i2 : (0 : Int) ≤ (i : Int) := by omega
    have i3 : (u : Int) < (n : Int) := by omega
    have i4 : (0 : Int) ≤ (u : Int) := by omega
    have i5 : (v : Int) < (n : Int) := by omega
    have i6 : (0 : Int) ≤ (v : Int) := by omega
    have HW := Lib.hid hw
    clear h hNB hdu hlo hhi ee hm hlt hw
    go_enter Tryd.func127, Tryd.ntmps127
    go_wp2_with fail
    refine HL.out.mono ?_
    rintro e w1 ⟨rfl, k1⟩
    have H1 := Lib.hid (H.out.keep k1)
    have n1 := (New.refl w1).alloc (.cells #[.int .i64 u, .int .i64 v, .int .i64 c] 156)
    have R := RowIs.new w1 156 [.int .i64 u, .int .i64 v, .int .i64 c]
    have H2 := Lib.hid (H1.out.keep n1)
    have K2 : Hid (KeepBut sb bb W _) := Lib.hid (.of_new (k1.trans n1))
    have g0 := H1.out.row.cell (i := 0) rfl
    have y0 := H1.out.new.cellOf z0
    have y1 := H1.out.new.cellOf z1
    have y2 := H1.out.new.cellOf z2
    have HR := Lib.hid R
    have HBx : Hid (w1.heap.size ≠ sb ∧ w1.heap.size ≠ bb) := Lib.hid ⟨by have := H1.out.sums.lt; omega, by have := H1.out.bys.lt; omega⟩
    clear z0 z1 z2 k1 n1 R HL
    go_wp2_with fail
    clear g0 y0 y1 y2
    generalize w1.alloc (.cells #[.int .i64 u, .int .i64 v, .int .i64 c] 156) = W2 at *
    generalize w1.heap.size = B at *
    have g1 := H2.out.row.cell (i := 1) rfl
    have r0 := HR.out.cell (i := 0) rfl
    have r1 := HR.out.cell (i := 1) rfl
    have r2 := HR.out.cell (i := 2) rfl
    have x3 := H2.out.sums.cell z3
    have hw := HW.out
    clear HW
    go_still_tail 17, (by kernel_rfl)
    change wpList _ _ _ _ _ W2.drew
    have H3 := Lib.hid (H2.out.keep ((New.refl W2).drew))
    have K3 := Lib.hid (K2.out.trans (.of_new ((New.refl W2).drew)))
    have HR3 := Lib.hid HR.out.drew
    clear g1 r0 r1 r2 x3 hw HR H2 K2
    generalize W2.drew = W3 at *
    have x4 := H3.out.sums.cell z4
    have xf := H3.out.sums.free v
    go_wp2_with fail
    clear x4 xf
    have H4 := Lib.hid (H3.out.setS HV.out (d u + c))
    have K4 := Lib.hid (K3.out.set (.inl rfl) v (.int .i64 (d u + c)))
    have HR4 := Lib.hid (HR3.out.other (Ne.symm HBx.out.1) v (.int .i64 (d u + c)))
    clear H3 K3 HR3
    generalize W3.setCell ⟨sb, v, none⟩ (.int .i64 (d u + c)) = W4 at *
    have g2 := H4.out.row.cell (i := 2) rfl
    have r1 := HR4.out.cell (i := 1) rfl
    go_still_tail 7, (by kernel_rfl)
    change wpList _ _ _ _ _ W4.drew
    have H5 := Lib.hid (H4.out.keep ((New.refl W4).drew))
    have K5 := Lib.hid (K4.out.trans (.of_new ((New.refl W4).drew)))
    clear g2 r1 H4 K4 HR4
    generalize W4.drew = W5 at *
    have x4 := H5.out.bys.cell (fnRow_get (f := b) HV.out)
    have xf := H5.out.bys.free v
    go_wp2_with fail
    clear x4 xf
    first | go_end0 | refine bodyPost_ret (results_none rfl _ _ _) rfl ?_
    exact ⟨rfl, K5.out.set (.inr rfl) v _, H5.out.setB HV.out _⟩
end Go.Proofs.YtlhdhfhfdkldjaaDoor
