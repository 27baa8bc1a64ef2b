/-
  slices.Backward over the edges of a wave, ranged over by a loop that writes into the wave's two rows alone. Condition: the edges lie in older memory.
-/
import Derived.Test.YtlhdhfhfdkldjaaDoorCkLeave
import Derived.Test.YtlhdhfhfdkldjaaDoorCkRange
namespace Go.Proofs.YtlhdhfhfdkldjaaDoor
open Go Go.RowKit Go.Shelf
attribute [local go_sem] Oper.semAt_some
/-- The third consumer: it writes two blocks. -/
def SafeP (p q : Nat) (W : World) (k : Nat) : Prop := (∃ c e f, W.heap[k]? = some (.cells c e f)) ∧ k ≠ p ∧ k ≠ q
theorem sftP (p q n0 : Nat) : Sft n0 (fun W => p < W.heap.size ∧ q < W.heap.size) (SafeP p q) :=
  ⟨fun _ _ h hw => ⟨⟨Nat.lt_of_lt_of_le hw.1 h.size, Nat.lt_of_lt_of_le hw.2 h.size⟩, fun _ ⟨⟨c', e', f', hk⟩, h2⟩ => ⟨⟨c', e', f', heap_keep h hk⟩, h2⟩⟩, fun W c e hw _ => ⟨⟨c, e, (0, 0), heap_alloc_new W _⟩, by have := hw.1; omega, by have := hw.2; omega⟩, fun _ _ _ ⟨⟨_, _, _, h⟩, _⟩ => (Array.getElem?_eq_some_iff.1 h).1⟩
abbrev EvP (n0 p q : Nat) := Ev n0 (fun W => p < W.heap.size ∧ q < W.heap.size) (SafeP p q)
theorem KeepBut.ev {n0 p q : Nat} {W W' : World} (h : KeepBut p q W W') (hp : n0 ≤ p) (hq : n0 ≤ q) (hn : n0 ≤ W.heap.size) : EvP n0 p q W W' := by
  have hs := h.1.size
  refine ⟨⟨h.1.os, h.1.tape, h.1.output, by omega, fun i hi => h.2 i (by omega) (by omega) (by omega)⟩, fun hw => ⟨⟨by omega, by omega⟩, fun k hk => ?_⟩⟩
  obtain ⟨⟨c, e, f, h1⟩, h2, h3⟩ := hk
  have h4 := h.2 k (Array.getElem?_eq_some_iff.1 h1).1 h2 h3
  exact ⟨⟨⟨c, e, f, h4.trans h1⟩, h2, h3⟩, h4⟩
theorem evP_put {n0 p q B : Nat} {W : World} {l : Nat} {ob ob' : Obj} (hB : B ≤ l) (hn : n0 ≤ B) (hl : W.heap[l]? = some ob) (hc : ob.isCells = false) : EvP n0 p q W (W.putObj l ob') := by
  have hlt := (Array.getElem?_eq_some_iff.1 hl).1
  refine ⟨(Below.refl n0 W).grown (grownBy_putObj' W l ob') (by omega) (fun k e => by cases e; omega), fun hw => ⟨⟨by simp; omega, by simp; omega⟩, fun k hk => ?_⟩⟩
  obtain ⟨⟨c, e, f, h1⟩, h2⟩ := hk
  have hkl : k ≠ l := fun e => by subst e; rw [h1] at hl; cases hl; cases hc
  have h4 : (W.putObj l ob').heap[k]? = W.heap[k]? := World.putObj_heap_other hkl
  exact ⟨⟨⟨c, e, f, h4.trans h1⟩, h2⟩, h4⟩
/-- The index of an edge. -/
abbrev IxE (E : List Eg) := { i : Nat // i < E.length }
def ixV {E : List Eg} (x : IxE E) : Array Value := #[.int .i64 x.1, .agg #[.int .i64 (eAt E x.1).1, .int .i64 (eAt E x.1).2.1, .int .i64 (eAt E x.1).2.2]]
theorem ck_Backward (A : Option Addr) (m c : Nat) (n : Nat) (w : World) :
    CallsIn Fence.wide n Tryd.prog 128 #[.slice A m c] w fun e w' => e = .returned (.func (.func 131) #[] #[.pointer (some ⟨w.heap.size, 0, none⟩)]) ∧ w' = w.alloc (.cells #[.slice A m c] 149) := by
  refine callsIn_of_wp Tryd.func128 rfl trivial ?_ rfl
  simp only [Tryd.ntmps128, List.size_toArray, List.length_cons, List.length_nil, Nat.reduceAdd, Nat.reduceSub, Array.replicate_succ, Array.replicate_zero, List.push_toArray, List.append_toArray, List.nil_append, List.cons_append]
  gi_wp2
  go_ret
  exact ⟨rfl, rfl⟩
set_option maxRecDepth 100000 in
set_option maxHeartbeats 2000000 in
theorem ck_Backward1 {n0 sb bb : Nat} (E : List Eg) (EA : Option Addr) (ec l Bs : Nat) (J Jx : List (IxE E) → World → Prop)
    (hY : ∀ m pre x W, J pre W → pre.length < E.length → YieldAt Fence.wide m Tryd.prog l (ixV x) W fun e W' => (e = .returned (.bool true) ∧ J (pre ++ [x]) W' ∧ EvP n0 sb bb W W') ∨ (e = .returned (.bool false) ∧ Jx (pre ++ [x]) W'))
    (W w0 : World) (hn0 : w0.heap.size = n0) (hB : Below n0 w0 W) (hw : sb < W.heap.size ∧ bb < W.heap.size) (hE : EgsA w0 EA E) (h0 : J [] W) (hR : SRow (SafeP sb bb) W Bs 149 [.slice EA E.length ec]) (n : Nat) :
    CallsIn Fence.wide n Tryd.prog 131 #[.func (.yield l) #[] #[], .pointer (some ⟨Bs, 0, none⟩)] W fun e W' => (∃ v, e = .returned v) ∧
      ((∃ ys : List (IxE E), True ∧ J ys W') ∨ (∃ q : List (IxE E), True ∧ Jx q W')) := by
  have HY := Lib.hid hY
  have HR := Lib.hid hR
  have HE := Lib.hid hE
  have HB := Lib.hid hB
  have hl := hE.1
  have c0 := hR.cell (i := 0) rfl
  have hdd : ∀ k : Nat, (Fence.wide.depth.isSome = true → 1 ≤ k) := fun k h => by cases h
  clear hY hR hE hB
  refine callsIn_of_wp Tryd.func131 rfl trivial ?_ rfl
  simp only [Tryd.ntmps131, List.size_toArray, List.length_cons, List.length_nil, Nat.reduceAdd, Nat.reduceSub, Array.replicate_succ, Array.replicate_zero, List.push_toArray, List.append_toArray, List.nil_append, List.cons_append]
  gi_wp2
  clear c0
  gi_loopw [3] (fun i wr => ∃ (k : Nat) (pre : List (IxE E)), k ≤ E.length ∧ i = .int .i64 ((k : Int) - 1) ∧ Hid (pre.length + k = E.length) ∧ J pre wr ∧ EvP n0 sb bb W wr) (fun i _ => (intOf i + 1).toNat)
  case atStart => exact ⟨E.length, [], Nat.le_refl _, rfl, Lib.hid (by simp), h0, Ev.refl _⟩
  case round =>
    obtain ⟨k, pre, hk, rfl, HP, hj, hv⟩ := hrel
    have HV := Lib.hid hv
    have R := HR.out.keep hw hv
    have c0 := R.cell (i := 0) rfl
    clear hv R
    cases k with
    | zero =>
      gi_wp2
      first | go_end0 | refine bodyPost_ret (results_none rfl _ _ _) rfl ?_
      exact ⟨⟨_, rfl⟩, .inl ⟨pre, trivial, hj⟩⟩
    | succ j =>
      have ej : ((j + 1 : Nat) : Int) - 1 = (j : Int) := by omega
      rw [ej]
      obtain ⟨eb, eo, rfl, heb, hc⟩ := HE.out.2 (by omega)
      obtain ⟨z0, z1, z2⟩ := hc j (by omega)
      have ee : E[j]?.getD default = eAt E j := rfl
      rw [ee] at z0 z1 z2
      have HBw := Lib.hid (HB.out.trans HV.out.1)
      replace z0 := cell_below z0 HBw.out hn0
      replace z1 := cell_below z1 HBw.out hn0
      replace z2 := cell_below z2 HBw.out hn0
      have hjl : j < E.length := by omega
      have hlen : pre.length < E.length := by have := HP.out; omega
      obtain ⟨fn, tmps, assign, body, hy, hR⟩ := HY.out (n - 1) pre ⟨j, hjl⟩ _ hj hlen
      unfold ixV at hy
      dsimp only at hy
      have HHR := Lib.hid hR
      have i1 : (j : Int) < (E.length : Int) := by omega
      have i2 : (0 : Int) ≤ (j : Int) := by omega
      clear hc ee hR heb hj
      generalize eAt E j = e at *
      obtain ⟨u, v, c⟩ := e
      dsimp only at *
      gi_wp2
      try refine ⟨hdd _, ?_⟩
      refine (RoundIn.anyDepth rfl HHR.out).mono ?_
      rintro e W7 (⟨rfl, j7, v7⟩ | ⟨rfl, x7⟩)
      · have HV7 := Lib.hid (HV.out.trans v7)
        have HJ7 := Lib.hid j7
        clear c0 z0 z1 z2 hy HHR v7 j7
        gi_wp2
        go_roundw
        case rel => exact ⟨j, _, by omega, rfl, Lib.hid (by have := HP.out; simp; omega), HJ7.out, HV7.out⟩
        case measure => simp [intOf]
      · gi_wp2
        first | go_end0 | refine bodyPost_ret (results_none rfl _ _ _) rfl ?_
        exact ⟨⟨_, rfl⟩, .inr ⟨_, trivial, x7⟩⟩
theorem backward_stops {n0 sb bb : Nat} (E : List Eg) (EA : Option Addr) (ec Bs : Nat) (w w0 : World) (hn0 : w0.heap.size = n0) (hB : Below n0 w0 w) (hw : sb < w.heap.size ∧ bb < w.heap.size) (hE : EgsA w0 EA E) (hR : SRow (SafeP sb bb) w Bs 149 [.slice EA E.length ec]) (n : Nat) :
    SeqStopsK Fence.wide n Tryd.prog 131 #[.pointer (some ⟨Bs, 0, none⟩)] (fun x : IxE E => ixV x) (EvP n0 sb bb) (fun _ => True) (fun _ => True) E.length w := fun l J Jx W hW hJ _ hY h0 => by
  have hk : New w W := hW
  have hnw : n0 ≤ w.heap.size := by have := hB.size; omega
  have hv := Ev.new (sftP sb bb n0) hnw hk
  exact ck_Backward1 E EA ec l Bs J Jx (fun m pre x W1 hj hl => YieldAt.anyDepth rfl m (hY pre x W1 hj hl)) W w0 hn0 (hB.trans hv.1) (hv.2 hw).1 hE h0 (hR.keep hw hv) n
end Go.Proofs.YtlhdhfhfdkldjaaDoor
