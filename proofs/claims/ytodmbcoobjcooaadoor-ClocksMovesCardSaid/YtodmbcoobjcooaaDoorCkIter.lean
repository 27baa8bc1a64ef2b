/-
  What an iterator and the loop that ranges over it keep of one another's memory: 'Ev'. No condition.
  step of the program: the bounds between a line and the next one, handed to a loop's body. Condition: the track lies in memory and is valid.
  What is true of valid tracks and systems: bounds of their numbers, and of the edges of their nets. No program, no condition.
  slips, steps, ties of the program: their bounds, handed to a loop's body. Condition: the system lies in memory and is valid.
  steps, ties of the program, and the iterator 'bounds': their bounds, handed to a loop's body. Condition: the system lies in memory and is valid.
  ties of the program, and the iterator 'bounds': all bounds of a system, in order, handed to a loop's body. Condition: the system lies in memory and is valid.
-/
import Derived.Test.YtodmbcoobjcooaaDoorCkFirst
import Derived.RangeFuncNested
import Derived.RangeFuncBox
import Derived.RangeFuncBound
import Derived.RangeFuncCalls
import Derived.RangeFuncLeaves
import Derived.RangeFuncWrites
import Derived.Shelf.Abstract
import Derived.Shelf.RegionOpen
import Derived.OwnWalkIn
import Derived.TacticsInMore
import Derived.LoopNIn
import Derived.LoopIn
namespace Go.Proofs.YtodmbcoobjcooaaDoor
open Go Go.RowKit Go.Shelf
/-- From one world to a later one: what lay below n0 lies, and each block that was safe is so still, and is as it was. -/
def Ev (n0 : Nat) (wf : World → Prop) (Safe : World → Nat → Prop) (W W' : World) : Prop :=
  Below n0 W W' ∧ (wf W → wf W' ∧ ∀ k, Safe W k → Safe W' k ∧ W'.heap[k]? = W.heap[k]?)
/-- What calls that only make new blocks leave safe. -/
structure Sft (n0 : Nat) (wf : World → Prop) (Safe : World → Nat → Prop) : Prop where
  new : ∀ W W', New W W' → wf W → wf W' ∧ ∀ k, Safe W k → Safe W' k
  own : ∀ W c e, wf W → n0 ≤ W.heap.size → Safe (W.alloc (.cells c e)) W.heap.size
  lt : ∀ W k, wf W → Safe W k → k < W.heap.size
variable {n0 : Nat} {wf : World → Prop} {Safe : World → Nat → Prop}
theorem Ev.refl (W : World) : Ev n0 wf Safe W W := ⟨Below.refl _ _, fun h => ⟨h, fun _ hk => ⟨hk, rfl⟩⟩⟩
theorem Ev.trans {A B C : World} (h : Ev n0 wf Safe A B) (k : Ev n0 wf Safe B C) : Ev n0 wf Safe A C :=
  ⟨h.1.trans k.1, fun hw => by
    obtain ⟨h1, h2⟩ := h.2 hw
    obtain ⟨k1, k2⟩ := k.2 h1
    exact ⟨k1, fun j hj => ⟨(k2 j (h2 j hj).1).1, (k2 j (h2 j hj).1).2.trans (h2 j hj).2⟩⟩⟩
theorem Ev.new (hS : Sft n0 wf Safe) {W W' : World} (hn : n0 ≤ W.heap.size) (h : New W W') : Ev n0 wf Safe W W' :=
  ⟨h.mono hn, fun hw => ⟨(hS.new W W' h hw).1, fun k hk => ⟨(hS.new W W' h hw).2 k hk, h.out.block k (hS.lt W k hw hk)⟩⟩⟩
theorem Ev.size {W W' : World} (h : Ev n0 wf Safe W W') : W.heap.size ≤ W'.heap.size := h.1.size
/-- A block of one's own, safe, with its cells. -/
def SRow (Safe : World → Nat → Prop) (w : World) (g : Nat) (e : TypeId) (cs : List Value) : Prop := Safe w g ∧ RowIs w g e cs
theorem SRow.new (hS : Sft n0 wf Safe) (w : World) (hw : wf w) (hn : n0 ≤ w.heap.size) (e : TypeId) (cs : List Value) : SRow Safe (w.alloc (.cells cs.toArray e)) w.heap.size e cs := ⟨hS.own w _ e hw hn, RowIs.new w e cs⟩
theorem SRow.keep {w w' : World} {g : Nat} {e : TypeId} {cs : List Value} (h : SRow Safe w g e cs) (hw : wf w) (k : Ev n0 wf Safe w w') : SRow Safe w' g e cs :=
  ⟨((k.2 hw).2 g h.1).1, ((k.2 hw).2 g h.1).2.trans h.2⟩
theorem SRow.cell {w : World} {g : Nat} {e : TypeId} {cs : List Value} (h : SRow Safe w g e cs) {i : Nat} {v : Value} (hv : cs[i]? = some v) : w.cell? ⟨g, i, none⟩ = some v := h.2.cell hv
/-- The first consumer: it writes no cells. -/
def wfC (_ : World) : Prop := True
def SafeC (W : World) (k : Nat) : Prop := ∃ c e f, W.heap[k]? = some (.cells c e f)
theorem sftC (n0 : Nat) : Sft n0 wfC SafeC :=
  ⟨fun _ _ h _ => ⟨trivial, fun _ ⟨c', e', f', hk⟩ => ⟨c', e', f', heap_keep h hk⟩⟩, fun W c e _ _ => ⟨c, e, (0, 0), heap_alloc_new W _⟩, fun _ _ _ ⟨_, _, _, h⟩ => (Array.getElem?_eq_some_iff.1 h).1⟩
/-- The second one: it writes one block, and the slice of which a cell of it tells. -/
def wfS (p o : Nat) (W : World) : Prop := p < W.heap.size ∧ ∀ v k, W.cell? ⟨p, o, none⟩ = some v → v.ownBlock = some k → k < W.heap.size
def SafeS (p o : Nat) (W : World) (k : Nat) : Prop := (∃ c e f, W.heap[k]? = some (.cells c e f)) ∧ k ≠ p ∧ ∀ v, W.cell? ⟨p, o, none⟩ = some v → v.ownBlock ≠ some k
theorem cellS_new {W W' : World} {p o : Nat} (h : p < W.heap.size) (k : New W W') : W'.cell? ⟨p, o, none⟩ = W.cell? ⟨p, o, none⟩ := k.cell (p := ⟨p, o, none⟩) h
theorem sftS (p o : Nat) (n0 : Nat) : Sft n0 (wfS p o) (SafeS p o) :=
  ⟨fun W W' k hw => ⟨⟨Nat.lt_of_lt_of_le hw.1 k.size, fun v q hc hv => by rw [cellS_new hw.1 k] at hc; exact Nat.lt_of_lt_of_le (hw.2 v q hc hv) k.size⟩,
      fun q hq => ⟨by obtain ⟨c', e', f', h⟩ := hq.1; exact ⟨c', e', f', heap_keep k h⟩, hq.2.1, fun v hc => by rw [cellS_new hw.1 k] at hc; exact hq.2.2 v hc⟩⟩,
   fun W c e hw _ => ⟨⟨c, e, (0, 0), heap_alloc_new W _⟩, by have := hw.1; omega, fun v hc hv => by rw [cellS_new hw.1 ((New.refl W).alloc _)] at hc; have := hw.2 v _ hc hv; omega⟩,
   fun _ _ _ ⟨⟨_, _, _, h⟩, _⟩ => (Array.getElem?_eq_some_iff.1 h).1⟩
theorem room_of_none {F : Fence} (hd : F.depth = none) (k : Nat) : F.room k := fun d h => by rw [hd] at h; cases h
theorem RoundIn.anyDepth {F : Fence} (hd : F.depth = none) {m m' : Nat} {P : Program} {l : Nat} {f : FuncId} {tmps : Array Value} {assign body : Code} {w : World} {R : Ending → World → Prop}
    (h : RoundIn F m P l f tmps assign body w R) : RoundIn F m' P l f tmps assign body w R := ⟨h.1, fun c cs _ => h.2 c cs (room_of_none hd _)⟩
theorem YieldAt.anyDepth {F : Fence} (hd : F.depth = none) {m : Nat} (m' : Nat) {P : Program} {l : Nat} {args : Array Value} {W : World} {R : Ending → World → Prop} (h : YieldAt F m P l args W R) : YieldAt F m' P l args W R := by
  obtain ⟨fn, tmps, assign, body, hy, hR⟩ := h
  exact ⟨fn, tmps, assign, body, hy, RoundIn.anyDepth hd hR⟩
/-- A bound, as a value. -/
def bdV (b : Bd) : Value := .agg #[.int .i64 b.frm.log, .int .i64 b.frm.line, .int .i64 b.to.log, .int .i64 b.to.line, .int .i64 b.most, .int .i64 b.kind, .int .i64 b.id]
/-- A bound of a system. -/
abbrev BdOf (s : Sy) := { b : Bd // b ∈ bnds s }
/-- What the caller's round does. -/
def RoundsB (n0 : Nat) (wf : World → Prop) (Safe : World → Nat → Prop) (s : Sy) (l : Nat) (J Jx : List (BdOf s) → World → Prop) : Prop :=
  ∀ m pre x W, J pre W → pre.length < (bnds s).length → YieldAt Fence.wide m Tryd.prog l #[bdV x.1] W fun e W' =>
      (e = .returned (.bool true) ∧ J (pre ++ [x]) W' ∧ Ev n0 wf Safe W W') ∨ (e = .returned (.bool false) ∧ Jx (pre ++ [x]) W')
/-- The loop's word abides new blocks and draws. -/
def AbB {s : Sy} (J : List (BdOf s) → World → Prop) : Prop := ∀ pre W W', J pre W → New W W' → J pre W'
-- where the bounds stand in their list
theorem mem_fm {α : Type} {f : Nat → List α} {n k : Nat} {x : α} (hk : k < n) (hx : x ∈ f k) : x ∈ (List.range n).flatMap f := List.mem_flatMap.2 ⟨k, List.mem_range.2 hk, hx⟩
theorem mem_slip {s : Sy} {i j : Nat} (hi : i < s.tracks.length) (hj : j < (tkAt s i).times.length) {b : Bd} (hb : b = upB i (tkAt s i) j ∨ b = downB i (tkAt s i) j) : b ∈ bnds s := by
  have h1 : b ∈ slipsL s s.tracks.length := mem_fm hi (mem_fm hj (by rcases hb with rfl | rfl <;> simp))
  unfold bnds
  simp [h1]
theorem mem_step {s : Sy} {i j : Nat} (hi : i < s.tracks.length) (hj : j < (tkAt s i).times.length - 1) {b : Bd} (hb : b ∈ stepL i (tkAt s i) j) : b ∈ bnds s := by
  have h1 : b ∈ stepsL s s.tracks.length := mem_fm hi (mem_fm hj hb)
  unfold bnds
  simp [h1]
theorem mem_tie {s : Sy} {i : Nat} (hi : i < s.ties.length) {b : Bd} (hb : b = thereB s i ∨ b = backB s i) : b ∈ bnds s := by
  have h1 : b ∈ tiesL s s.ties.length := mem_fm hi (by rcases hb with rfl | rfl <;> simp)
  unfold bnds
  simp [h1]
theorem fm_len_le {α : Type} (f : Nat → List α) {k n : Nat} (h : k ≤ n) : ((List.range k).flatMap f).length ≤ ((List.range n).flatMap f).length := by
  induction h with
  | refl => exact Nat.le_refl _
  | step _ ih => rw [fm_snoc, List.length_append]; omega
end Go.Proofs.YtodmbcoobjcooaaDoor

namespace Go.Proofs.YtodmbcoobjcooaaDoor
open Go Go.RowKit Go.Shelf
attribute [local go_sem] Oper.semAt_some
variable {n0 : Nat} {wf : World → Prop} {Safe : World → Nat → Prop}
/-- What a helper of the iterator leaves: all of its bounds have come, or the loop has been left. -/
def HelpPost (n0 : Nat) (wf : World → Prop) (Safe : World → Nat → Prop) (s : Sy) (J Jx : List (BdOf s) → World → Prop) (pre : List (BdOf s)) (l : List Bd) (W : World) (e : Ending) (W' : World) : Prop :=
  (e = .returned (.bool true) ∧ ∃ q : List (BdOf s), q.map (·.1) = l ∧ J (pre ++ q) W' ∧ Ev n0 wf Safe W W') ∨ (e = .returned (.bool false) ∧ ∃ q, Jx q W')
theorem BdOf.one {s : Sy} {b : Bd} (h : b ∈ bnds s) : ([⟨b, h⟩] : List (BdOf s)).map (·.1) = [b] := rfl
set_option maxRecDepth 100000 in
set_option maxHeartbeats 2000000 in
theorem ck_step (hS : Sft n0 wf Safe) (s : Sy) (l i j : Nat) (J Jx : List (BdOf s) → World → Prop) (hY : RoundsB n0 wf Safe s l J Jx) (hJ : AbB J) (JA TA : Option Addr) (jc tc : Nat) (hi : i < s.tracks.length) (hj : j + 1 < (tkAt s i).times.length) (pre : List (BdOf s)) (W w0 : World)
    (hn0 : w0.heap.size = n0) (hB : Below n0 w0 W) (hw : wf W) (hm : TkM w0 JA TA (tkAt s i)) (h0 : J pre W) (hlen : pre.length + (stepL i (tkAt s i) j).length ≤ (bnds s).length) (n : Nat)
    (ha : 0 ≤ tmAt (tkAt s i) j) (hb : tmAt (tkAt s i) j ≤ tmAt (tkAt s i) (j + 1)) (hc : tmAt (tkAt s i) (j + 1) ≤ 20000) (hd : 0 ≤ (tkAt s i).drift) (hd2 : (tkAt s i).drift ≤ 100) (hj2 : j ≤ 1000000) :
    CallsIn Fence.wide n Tryd.prog 126 #[.agg #[.int .i64 (tkAt s i).slip, .int .i64 (tkAt s i).drift, .slice JA (tkAt s i).jumps.length jc, .slice TA (tkAt s i).times.length tc], .agg #[.int .i64 i, .int .i64 j], .func (.yield l) #[] #[]] W
      (HelpPost n0 wf Safe s J Jx pre (stepL i (tkAt s i) j) W) := by
  have HO : orderB i j ∈ bnds s := mem_step (s := s) (i := i) (j := j) hi (by omega) (by unfold stepL; simp)
  have HU : segN (tkAt s i).jumps (tmAt (tkAt s i) j) = segN (tkAt s i).jumps (tmAt (tkAt s i) (j + 1)) → driftUp i (tkAt s i) j ∈ bnds s ∧ driftDown i (tkAt s i) j ∈ bnds s := fun h =>
    ⟨mem_step (s := s) (i := i) (j := j) hi (by omega) (by unfold stepL; rw [if_pos h]; simp), mem_step (s := s) (i := i) (j := j) hi (by omega) (by unfold stepL; rw [if_pos h]; simp)⟩
  have HL : Hid (stepL i (tkAt s i) j = orderB i j :: if segN (tkAt s i).jumps (tmAt (tkAt s i) j) = segN (tkAt s i).jumps (tmAt (tkAt s i) (j + 1)) then [driftUp i (tkAt s i) j, driftDown i (tkAt s i) j] else []) := Lib.hid rfl
  have HDU : Hid (driftUp i (tkAt s i) j = ⟨⟨i, j⟩, ⟨i, (j : Int) + 1⟩, (tmAt (tkAt s i) (j + 1) - tmAt (tkAt s i) j) + (1 + ((tkAt s i).drift * (tmAt (tkAt s i) (j + 1) - tmAt (tkAt s i) j) + 999) / 1000), 3, j⟩) := Lib.hid rfl
  have HDD : Hid (driftDown i (tkAt s i) j = ⟨⟨i, (j : Int) + 1⟩, ⟨i, j⟩, (1 + ((tkAt s i).drift * (tmAt (tkAt s i) (j + 1) - tmAt (tkAt s i) j) + 999) / 1000) - (tmAt (tkAt s i) (j + 1) - tmAt (tkAt s i) j), 3, j⟩) := Lib.hid rfl
  generalize stepL i (tkAt s i) j = LL at *
  generalize driftUp i (tkAt s i) j = bu at *
  generalize driftDown i (tkAt s i) j = bd at *
  have hTA : IntsA w0 TA (tkAt s i).times := hm.2
  have hJA : IntsA w0 JA (tkAt s i).jumps := hm.1
  obtain ⟨tb, toff, rfl, htb, htc⟩ := hTA.2 (by omega)
  have e0 := htc j (by omega)
  have e1 := htc (j + 1) (by omega)
  have g0 : (tkAt s i).times[j]?.getD 0 = tmAt (tkAt s i) j := rfl
  have g1 : (tkAt s i).times[j + 1]?.getD 0 = tmAt (tkAt s i) (j + 1) := rfl
  rw [g0] at e0
  rw [g1] at e1
  have HY := Lib.hid hY
  have HJ := Lib.hid hJ
  have HB := Lib.hid hB
  have HU2 := Lib.hid HU
  have HJA := Lib.hid hJA
  clear hTA hJA hm htc g0 g1 hY hJ hB HU
  generalize tmAt (tkAt s i) j = t0 at *
  generalize tmAt (tkAt s i) (j + 1) = t1 at *
  generalize (tkAt s i).slip = sl at *
  generalize (tkAt s i).drift = f at *
  have HSG : Hid (∀ W', Below n0 w0 W' → ∀ m, Calls Tryd.prog 66 #[.agg #[.int .i64 sl, .int .i64 f, .slice JA (tkAt s i).jumps.length jc], .int .i64 m] W' fun e w' => e = .returned (.int .i64 (segN (tkAt s i).jumps m)) ∧ New W' w') := Lib.hid (fun W' hb m => by
    refine ck_segment sl f m JA jc (tkAt s i).jumps W' ?_
    refine ⟨HJA.out.1, fun h0 => ?_⟩
    obtain ⟨b, off, e, hb', hc⟩ := HJA.out.2 h0
    exact ⟨b, off, e, Nat.lt_of_lt_of_le hb' (by have := hb.size; omega), fun q hq => (hb.cell (p := ⟨b, off + q, none⟩) (by show b < _; omega)).trans (hc q hq)⟩)
  have hjl : j + 1 < (tkAt s i).times.length := hj
  generalize (tkAt s i).jumps.length = jn at *
  generalize segN (tkAt s i).jumps = sg at *
  generalize (tkAt s i).times.length = tn at *
  clear HJA
  have hnW : n0 ≤ W.heap.size := by have := HB.out.size; omega
  have k1 : New W (((W.alloc (.cells #[.int .i64 sl, .int .i64 f, .slice JA jn jc, .slice (some ⟨tb, toff, none⟩) tn tc] 30)).alloc (.cells #[.int .i64 i, .int .i64 j] 53)).alloc (.cells #[.int .i64 i, .int .i64 ((j : Int) + 1)] 53)) := (((New.refl W).alloc _).alloc _).alloc _
  have R0 := SRow.new hS W hw hnW 30 [.int .i64 sl, .int .i64 f, .slice JA jn jc, .slice (some ⟨tb, toff, none⟩) tn tc]
  have w1 := (hS.new _ _ ((New.refl W).alloc (.cells #[.int .i64 sl, .int .i64 f, .slice JA jn jc, .slice (some ⟨tb, toff, none⟩) tn tc] 30)) hw).1
  have R1 := SRow.new hS _ w1 (by simp; omega) 53 [.int .i64 i, .int .i64 j]
  have w2 := (hS.new _ _ ((New.refl _).alloc (.cells #[.int .i64 i, .int .i64 j] 53)) w1).1
  have R2 := SRow.new hS _ w2 (by simp; omega) 53 [.int .i64 i, .int .i64 ((j : Int) + 1)]
  have w3 := (hS.new _ _ ((New.refl _).alloc (.cells #[.int .i64 i, .int .i64 ((j : Int) + 1)] 53)) w2).1
  have R1' := R1.keep w2 (Ev.new hS (by simp; omega) ((New.refl _).alloc (.cells #[.int .i64 i, .int .i64 ((j : Int) + 1)] 53)))
  have R0' := R0.keep w1 (Ev.new hS (by simp; omega) (((New.refl _).alloc (.cells #[.int .i64 i, .int .i64 j] 53)).alloc (.cells #[.int .i64 i, .int .i64 ((j : Int) + 1)] 53)))
  simp only [World.size_alloc] at R1' R2
  have E1 := Lib.hid (Ev.new (wf := wf) hS hnW k1)
  have j1 := HJ.out _ _ _ h0 k1
  clear R0 R1 w1 w2
  have hlen0 : pre.length < (bnds s).length := by rw [HL.out] at hlen; simp at hlen; omega
  obtain ⟨fn, tmps, assign, body, hy, hR⟩ := HY.out (n - 1) pre ⟨_, HO⟩ _ j1 hlen0
  simp only [bdV, orderB] at hy
  have c0 := R0'.cell (i := 0) rfl
  have c1 := R0'.cell (i := 1) rfl
  have c2 := R0'.cell (i := 2) rfl
  have c3 := R0'.cell (i := 3) rfl
  have d0 := R1'.cell (i := 0) rfl
  have d1 := R1'.cell (i := 1) rfl
  have f0 := R2.cell (i := 0) rfl
  have f1 := R2.cell (i := 1) rfl
  have HR0 := Lib.hid R0'
  have HR1 := Lib.hid R1'
  have HR2 := Lib.hid R2
  have HHR := Lib.hid hR
  clear R0' R1' R2 hR
  refine callsIn_of_wp Tryd.func126 rfl trivial ?_ rfl
  simp only [Tryd.ntmps126, List.size_toArray, List.length_cons, List.length_nil, Nat.reduceAdd, Nat.reduceSub, Array.replicate_succ, Array.replicate_zero, List.push_toArray, List.append_toArray, List.nil_append, List.cons_append]
  have hdd : ∀ k : Nat, (Fence.wide.depth.isSome = true → 1 ≤ k) := fun k h => by cases h
  gi_wp2
  try refine ⟨hdd _, ?_⟩
  refine (RoundIn.anyDepth rfl HHR.out).mono ?_
  rintro e W4 (⟨rfl, j4, v4⟩ | ⟨rfl, x4⟩)
  rotate_left
  · gi_wp2
    go_ret
    exact .inr ⟨rfl, _, x4⟩
  have H4 := Lib.hid j4
  have w4 := (v4.2 w3).1
  have Q0 := Lib.hid (HR0.out.keep w3 v4)
  have Q1 := Lib.hid (HR1.out.keep w3 v4)
  have Q2 := Lib.hid (HR2.out.keep w3 v4)
  have E4 := Lib.hid (E1.out.trans v4)
  have B4 := Lib.hid (HB.out.trans E4.out.1)
  clear c0 c1 c2 c3 d0 d1 f0 f1 hy HHR HR0 HR1 HR2 j1 j4 v4 w3 E1
  have c0 := Q0.out.cell (i := 0) rfl
  have c1 := Q0.out.cell (i := 1) rfl
  have c2 := Q0.out.cell (i := 2) rfl
  have c3 := Q0.out.cell (i := 3) rfl
  have d1 := Q1.out.cell (i := 1) rfl
  have f1 := Q2.out.cell (i := 1) rfl
  have p0 := (B4.out.cell (p := ⟨tb, toff + j, none⟩) (by show tb < _; omega)).trans e0
  have p1 := (B4.out.cell (p := ⟨tb, toff + (j + 1), none⟩) (by show tb < _; omega)).trans e1
  have q1 : (j : Int) < (tn : Int) := by omega
  have q2 : (0 : Int) ≤ (j : Int) := by omega
  have q3 : (j : Int) + 1 < (tn : Int) := by omega
  have q4 : (0 : Int) ≤ (j : Int) + 1 := by omega
  have q5 : ((j : Int) + 1).toNat = j + 1 := by omega
  gi_wp2
  refine wpIn_wide.2 ?_
  go_quiet (fail)
  rename_i nq
  have hX : New W4 (W4.drewN nq) := (New.refl W4).drewN nq
  have j5 := HJ.out _ _ _ H4.out hX
  have v5 := Ev.new (wf := wf) hS (by have := B4.out.size; omega) hX
  have w5 := (v5.2 w4).1
  have E5 := Lib.hid (E4.out.trans v5)
  have B5 := Lib.hid (HB.out.trans E5.out.1)
  replace Q0 := Lib.hid (Q0.out.keep w4 v5)
  replace Q1 := Lib.hid (Q1.out.keep w4 v5)
  replace Q2 := Lib.hid (Q2.out.keep w4 v5)
  replace H4 := Lib.hid j5
  clear c0 c1 c2 c3 d1 f1 p0 p1 hX j5 v5 w4 E4 B4 q1 q2 q3 q4 q5
  generalize W4.drewN nq = X at *
  have c0 := Q0.out.cell (i := 0) rfl
  have c1 := Q0.out.cell (i := 1) rfl
  have c2 := Q0.out.cell (i := 2) rfl
  have HK : Hid (∀ w', New X w' → New X w' ∧ w'.cell? ⟨W.heap.size, 0, none⟩ = some (.int .i64 sl) ∧ w'.cell? ⟨W.heap.size, 1, none⟩ = some (.int .i64 f) ∧ w'.cell? ⟨W.heap.size, 2, none⟩ = some (.slice JA jn jc)) :=
    Lib.hid (fun w' h => ⟨h, (Q0.out.2.keep h).cell rfl, (Q0.out.2.keep h).cell rfl, (Q0.out.2.keep h).cell rfl⟩)
  have HSG2 : Hid (∀ w' m, New X w' → Calls Tryd.prog 66 #[.agg #[.int .i64 sl, .int .i64 f, .slice JA jn jc], .int .i64 m] w' fun e w'' => e = .returned (.int .i64 (sg m)) ∧ New w' w'') :=
    Lib.hid (fun w' m h => HSG.out w' (B5.out.trans (Below.mono h (by have := B5.out.size; omega))) m)
  gi_wp2
  refine wpIn_wide.2 ?_
  go_region_held3 (fun w' => New X w' ∧ w'.cell? ⟨W.heap.size, 0, none⟩ = some (.int .i64 sl) ∧ w'.cell? ⟨W.heap.size, 1, none⟩ = some (.int .i64 f) ∧ w'.cell? ⟨W.heap.size, 2, none⟩ = some (.slice JA jn jc))
    (first | exact HK.out _ (New.refl _).drew | exact HK.out _ (New.trans (by first | assumption | exact (by assumption : New _ _ ∧ _).1) (by assumption)))
    ((go_at_call 66; refine (HSG2.out _ _ (by first | assumption | exact (New.refl _).drew | exact (by assumption : New _ _ ∧ _).1)).mono ?_; rintro e w' ⟨rfl, hb⟩))
  have hn6 : New X w' := (by assumption : New X w' ∧ _).1
  have v6 := Ev.new (wf := wf) hS (by have := B5.out.size; omega) hn6
  have j6 := HJ.out _ _ _ H4.out hn6
  have w6 := (v6.2 w5).1
  have E6 := Lib.hid (E5.out.trans v6)
  replace Q0 := Lib.hid (Q0.out.keep w5 v6)
  replace Q1 := Lib.hid (Q1.out.keep w5 v6)
  replace Q2 := Lib.hid (Q2.out.keep w5 v6)
  clear c0 c1 c2 HK HSG2 hn6 v6 w5 B5 E5 H4
  by_cases hs : sg t0 = sg t1
  · rw [if_pos hs] at HL
    obtain ⟨HU3, HD3⟩ := HU2.out hs
    obtain ⟨x1, hx1⟩ : ∃ x : BdOf s, x = ⟨_, HO⟩ := ⟨_, rfl⟩
    rw [← hx1] at j6
    have hlen1 : (pre ++ [x1]).length < (bnds s).length ∧ (pre ++ [x1] ++ [(⟨_, HU3⟩ : BdOf s)]).length < (bnds s).length := by
      rw [HL.out] at hlen
      simp at hlen ⊢
      omega
    have hs' : ((sg t0 : Int) != (sg t1 : Int)) = false := by simp [hs]
    have hp0 : 0 ≤ f * (t1 - t0) := Int.mul_nonneg hd (by omega)
    have hp1 : f * (t1 - t0) ≤ 2000000 := by
      have h1 : f * (t1 - t0) ≤ 100 * 20000 := Int.mul_le_mul hd2 (by omega) (by omega) (by omega)
      omega
    obtain ⟨fn, tmps, assign, body, hy, hR⟩ := HY.out (n - 1) _ ⟨_, HU3⟩ _ j6 hlen1.1
    simp only [bdV, HDU.out] at hy
    have c0 := Q0.out.cell (i := 1) rfl
    have d0 := Q1.out.cell (i := 0) rfl
    have d1 := Q1.out.cell (i := 1) rfl
    have f0 := Q2.out.cell (i := 0) rfl
    have f1 := Q2.out.cell (i := 1) rfl
    have HHR := Lib.hid hR
    have HS := Lib.hid hs
    clear hR hs j6 HSG
    gi_wp2
    try refine ⟨hdd _, ?_⟩
    refine (RoundIn.anyDepth rfl HHR.out).mono ?_
    rintro e W7 (⟨rfl, j7, v7⟩ | ⟨rfl, x7⟩)
    rotate_left
    · gi_wp2
      refine ⟨fun _ h => (by cases h), ?_⟩
      gi_wp2
      go_ret
      exact .inr ⟨rfl, _, x7⟩
    have w7 := (v7.2 w6).1
    have E7 := Lib.hid (E6.out.trans v7)
    replace Q1 := Lib.hid (Q1.out.keep w6 v7)
    replace Q2 := Lib.hid (Q2.out.keep w6 v7)
    clear c0 d0 d1 f0 f1 hy HHR w6 E6 v7
    obtain ⟨fn, tmps, assign, body, hy, hR⟩ := HY.out (n - 1) _ ⟨_, HD3⟩ _ j7 hlen1.2
    simp only [bdV, HDD.out] at hy
    have d0 := Q1.out.cell (i := 0) rfl
    have d1 := Q1.out.cell (i := 1) rfl
    have f0 := Q2.out.cell (i := 0) rfl
    have f1 := Q2.out.cell (i := 1) rfl
    have HHR := Lib.hid hR
    clear hR j7
    gi_wp2
    try refine ⟨hdd _, ?_⟩
    refine (RoundIn.anyDepth rfl HHR.out).mono ?_
    rintro e W8 (⟨rfl, j8, v8⟩ | ⟨rfl, x8⟩)
    rotate_left
    · gi_wp2
      go_ret
      exact .inr ⟨rfl, _, x8⟩
    have E8 := Lib.hid (E7.out.trans v8)
    clear d0 d1 f0 f1 hy HHR v8
    gi_wp2
    go_ret
    exact .inl ⟨rfl, [x1, ⟨_, HU3⟩, ⟨_, HD3⟩], by rw [HL.out, hx1]; rfl, by simpa [List.append_assoc] using j8, E8.out⟩
  · rw [if_neg hs] at HL
    have hs' : ((sg t0 : Int) != (sg t1 : Int)) = true := by simp; omega
    gi_wp2
    go_ret
    exact .inl ⟨rfl, [⟨_, HO⟩], by rw [HL.out]; rfl, j6, E6.out⟩
end Go.Proofs.YtodmbcoobjcooaaDoor

namespace Go.Proofs.YtodmbcoobjcooaaDoor
theorem timesB_all : ∀ (l : List Int) (p : Int), timesB p l = true → ∀ j, j < l.length → p ≤ l[j]?.getD 0 ∧ l[j]?.getD 0 ≤ 20000 ∧ (j + 1 < l.length → l[j]?.getD 0 ≤ l[j + 1]?.getD 0)
  | [], _, _, j, hj => by simp at hj
  | x :: l, p, h, j, hj => by
    rw [timesB, Bool.and_eq_true] at h
    have h1 := wiB_iff.1 h.1
    cases j with
    | zero =>
      refine ⟨by simpa using h1.1, by simpa using h1.2, fun h2 => ?_⟩
      have := timesB_all l x h.2 0 (by simpa using h2)
      simpa using this.1
    | succ j =>
      have := timesB_all l x h.2 j (by simpa using hj)
      simp only [List.getElem?_cons_succ, List.length_cons]
      exact ⟨by omega, this.2.1, fun h2 => this.2.2 (by omega)⟩
theorem trackB_facts {t : Tk} (h : trackB t = true) : (∀ j, j < t.times.length → 0 ≤ tmAt t j ∧ tmAt t j ≤ 20000 ∧ (j + 1 < t.times.length → tmAt t j ≤ tmAt t (j + 1))) ∧ 0 ≤ t.slip ∧ t.slip ≤ 1440 ∧ 0 ≤ t.drift ∧ t.drift ≤ 100 ∧ t.times.length ≤ 400 ∧ t.jumps.length ≤ 16 := by
  unfold trackB clockB at h
  simp only [Bool.and_eq_true, decide_eq_true_eq] at h
  obtain ⟨h1, ⟨h2, h3, h4, h5⟩, h6⟩ := h
  have a := wiB_iff.1 h3
  have b := wiB_iff.1 h4
  exact ⟨fun j hj => timesB_all _ 0 h1 j hj, a.1, a.2, b.1, b.2, h6, h5⟩
/-- A valid system. -/
def Ok (s : Sy) : Prop := checkE s = 0
theorem Ok.track {s : Sy} (h : Ok s) {i : Nat} (hi : i < s.tracks.length) : trackB (tkAt s i) = true := by
  have := (checkE_ok h).2.2.1
  unfold tkAt
  rw [List.getElem?_eq_getElem hi]
  exact this _ (List.getElem_mem hi)
theorem Ok.tie {s : Sy} (h : Ok s) {i : Nat} (hi : i < s.ties.length) : lineB s (tiAt s i).a = true ∧ lineB s (tiAt s i).b = true ∧ (tiAt s i).a.log ≠ (tiAt s i).b.log := by
  have h1 := (checkE_ok h).2.2.2.1
  unfold tiesE at h1
  have e : tiAt s i = s.ties[i] := by unfold tiAt; rw [List.getElem?_eq_getElem hi]; rfl
  by_cases h2 : s.ties.any (tieNone s) = true
  · rw [if_pos h2] at h1; cases h1
  rw [if_neg h2] at h1
  by_cases h3 : s.ties.any tieArg = true
  · rw [if_pos h3] at h1; cases h1
  rw [Bool.not_eq_true, List.any_eq_false] at h2 h3
  have a := h2 _ (List.getElem_mem hi)
  have b := h3 _ (List.getElem_mem hi)
  rw [← e] at a b
  unfold tieNone at a
  unfold tieArg at b
  simp at a b
  exact ⟨a.1, a.2, b⟩
/-- A ref of a bound: the beginning, or a line. -/
def RefOk (s : Sy) (r : Rf) : Prop := r = beg ∨ lineB s r = true
theorem bnds_mem {s : Sy} {b : Bd} (h : b ∈ bnds s) :
    (∃ i j, i < s.tracks.length ∧ j < (tkAt s i).times.length ∧ (b = upB i (tkAt s i) j ∨ b = downB i (tkAt s i) j)) ∨
    (∃ i j, i < s.tracks.length ∧ j + 1 < (tkAt s i).times.length ∧ (b = orderB i j ∨ b = driftUp i (tkAt s i) j ∨ b = driftDown i (tkAt s i) j)) ∨
    (∃ i, i < s.ties.length ∧ (b = thereB s i ∨ b = backB s i)) := by
  unfold bnds at h
  rcases List.mem_append.1 h with h | h
  · rcases List.mem_append.1 h with h | h
    · obtain ⟨i, hi, h⟩ := List.mem_flatMap.1 h
      obtain ⟨j, hj, h⟩ := List.mem_flatMap.1 h
      exact .inl ⟨i, j, List.mem_range.1 hi, List.mem_range.1 hj, by simpa using h⟩
    · obtain ⟨i, hi, h⟩ := List.mem_flatMap.1 h
      obtain ⟨j, hj, h⟩ := List.mem_flatMap.1 h
      refine .inr (.inl ⟨i, j, List.mem_range.1 hi, by have := List.mem_range.1 hj; omega, ?_⟩)
      unfold stepL at h
      rcases List.mem_cons.1 h with h | h
      · exact .inl h
      · split at h
        · right; simpa using h
        · cases h
  · obtain ⟨i, hi, h⟩ := List.mem_flatMap.1 h
    exact .inr (.inr ⟨i, List.mem_range.1 hi, by simpa using h⟩)
theorem line_succ {s : Sy} {i j : Nat} (hi : i < s.tracks.length) (hj : j + 1 < (tkAt s i).times.length) : lineB s ⟨i, (j : Int) + 1⟩ = true := by
  have := line_mk hi hj
  rwa [show ((j + 1 : Nat) : Int) = (j : Int) + 1 by omega] at this
theorem drift_bd {t : Tk} (h : trackB t = true) {j : Nat} (hj : j + 1 < t.times.length) : 0 ≤ shown t j ∧ shown t j ≤ 20000 ∧ 1 ≤ wrong t j ∧ wrong t j ≤ 2001 := by
  obtain ⟨h1, _, _, h4, h5, _⟩ := trackB_facts h
  have a := h1 j (by omega)
  have b := h1 (j + 1) hj
  have c := a.2.2 hj
  have d : 0 ≤ shown t j ∧ shown t j ≤ 20000 := by unfold shown; omega
  have e : 0 ≤ t.drift * shown t j := Int.mul_nonneg h4 d.1
  have f : t.drift * shown t j ≤ 100 * 20000 := Int.mul_le_mul h5 d.2 d.1 (by omega)
  refine ⟨d.1, d.2, ?_, ?_⟩ <;> unfold wrong <;> omega
/-- The refs of a bound are the beginning or lines, different ones; and what it says is no great number. -/
theorem bnds_ok {s : Sy} (hs : Ok s) {b : Bd} (h : b ∈ bnds s) : RefOk s b.frm ∧ RefOk s b.to ∧ b.frm ≠ b.to ∧ -22001 ≤ b.most ∧ b.most ≤ 22001 := by
  rcases bnds_mem h with ⟨i, j, hi, hj, rfl | rfl⟩ | ⟨i, j, hi, hj, rfl | rfl | rfl⟩ | ⟨i, hi, rfl | rfl⟩
  · obtain ⟨h1, h2, h3, _⟩ := trackB_facts (hs.track hi)
    have := h1 j hj
    refine ⟨.inl rfl, .inr (line_mk hi hj), fun e => ?_, ?_, ?_⟩
    · have := congrArg Rf.log e; simp [upB, beg] at this
    · show -22001 ≤ tmAt _ j + Tk.slip _; omega
    · show tmAt _ j + Tk.slip _ ≤ 22001; omega
  · obtain ⟨h1, h2, h3, _⟩ := trackB_facts (hs.track hi)
    have := h1 j hj
    refine ⟨.inr (line_mk hi hj), .inl rfl, fun e => ?_, ?_, ?_⟩
    · have := congrArg Rf.log e; simp [downB, beg] at this
    · show -22001 ≤ Tk.slip _ - tmAt _ j; omega
    · show Tk.slip _ - tmAt _ j ≤ 22001; omega
  · refine ⟨.inr (line_succ hi hj), .inr (line_mk hi (by omega)), fun e => ?_, by simp [orderB], by simp [orderB]⟩
    have := congrArg Rf.line e; simp [orderB] at this; omega
  · have := drift_bd (hs.track hi) hj
    refine ⟨.inr (line_mk hi (by omega)), .inr (line_succ hi hj), fun e => ?_, ?_, ?_⟩
    · have := congrArg Rf.line e; simp [driftUp] at this; omega
    · show -22001 ≤ shown _ j + wrong _ j; omega
    · show shown _ j + wrong _ j ≤ 22001; omega
  · have := drift_bd (hs.track hi) hj
    refine ⟨.inr (line_succ hi hj), .inr (line_mk hi (by omega)), fun e => ?_, ?_, ?_⟩
    · have := congrArg Rf.line e; simp [driftDown] at this; omega
    · show -22001 ≤ wrong _ j - shown _ j; omega
    · show wrong _ j - shown _ j ≤ 22001; omega
  · have h1 := hs.tie hi
    have h2 := checkE_ok hs
    exact ⟨.inr h1.1, .inr h1.2.1, fun e => h1.2.2 (congrArg Rf.log e), by show -22001 ≤ s.window; omega, by show s.window ≤ 22001; omega⟩
  · have h1 := hs.tie hi
    have h2 := checkE_ok hs
    exact ⟨.inr h1.2.1, .inr h1.1, fun e => h1.2.2 (congrArg Rf.log e).symm, by show -22001 ≤ s.window; omega, by show s.window ≤ 22001; omega⟩
theorem fstP_le {s : Sy} (hs : Ok s) : ∀ k, k ≤ s.tracks.length → fstP s k ≤ 1 + k * 400
  | 0, _ => by rw [fstP_zero]; omega
  | k + 1, h => by
    have h1 := fstP_le hs k (by omega)
    have h2 := (trackB_facts (hs.track (i := k) (by omega))).2.2.2.2.2.1
    rw [fstP_succ]
    omega
theorem nPl_le {s : Sy} (hs : Ok s) : nPl s ≤ 25601 := by
  have h1 := fstP_le hs _ (Nat.le_refl _)
  have h2 := (checkE_ok hs).1
  unfold nPl
  omega
theorem nPl_pos (s : Sy) : 1 ≤ nPl s := by unfold nPl fstP; omega
theorem plc_lt {s : Sy} {r : Rf} (h : RefOk s r) : plc s r < nPl s := by
  rcases h with rfl | h
  · rw [plc_beg]; exact nPl_pos s
  · exact (plc_line h).2.1
theorem plc_eq {s : Sy} {r q : Rf} (h : RefOk s r) (k : RefOk s q) (e : plc s r = plc s q) : r = q := by
  rcases h with rfl | h <;> rcases k with rfl | k
  · rfl
  · have := plc_line k; rw [plc_beg] at e; omega
  · have := plc_line h; rw [plc_beg] at e; omega
  · exact plc_inj h k e
theorem egs_ok {s : Sy} (hs : Ok s) : EOk (egs s) (nPl s) 22001 := by
  have key : ∀ e, e ∈ egs s → ∃ b, b ∈ bnds s ∧ e = egOf s b := fun e he => by
    obtain ⟨b, hb, rfl⟩ := List.mem_map.1 he
    exact ⟨b, hb, rfl⟩
  refine ⟨fun e he => ?_, fun e he => ?_, fun e he => ?_, fun e he => ?_, fun e he => ?_⟩ <;> obtain ⟨b, hb, rfl⟩ := key e he <;> obtain ⟨h1, h2, h3, h4, h5⟩ := bnds_ok hs hb
  · exact plc_lt h1
  · exact plc_lt h2
  · exact fun e => h3 (plc_eq h1 h2 e)
  · exact h4
  · exact h5
theorem nPl_NB {s : Sy} (hs : Ok s) : (nPl s : Int) * 22001 + 22001 < NB := by
  have := nPl_le hs
  have h1 : ((nPl s : Nat) : Int) ≤ 25601 := by omega
  unfold NB
  omega
theorem fm_len_bd {α : Type} (f : Nat → List α) (M : Nat) : ∀ k, (∀ i, i < k → (f i).length ≤ M) → ((List.range k).flatMap f).length ≤ k * M
  | 0, _ => by simp
  | k + 1, h => by
    have h1 := fm_len_bd f M k (fun i hi => h i (by omega))
    have h2 := h k (by omega)
    rw [fm_snoc, List.length_append, Nat.add_mul, Nat.one_mul]
    omega
theorem bnds_len {s : Sy} (hs : Ok s) : (bnds s).length ≤ 200000 := by
  have h0 := checkE_ok hs
  have ht : ∀ i, i < s.tracks.length → (tkAt s i).times.length ≤ 400 := fun i hi => (trackB_facts (hs.track hi)).2.2.2.2.2.1
  have h1 : (slipsL s s.tracks.length).length ≤ s.tracks.length * 800 := fm_len_bd _ 800 _ (fun i hi => by
    have := fm_len_bd (fun j => [upB i (tkAt s i) j, downB i (tkAt s i) j]) 2 (tkAt s i).times.length (fun j _ => by simp)
    have h3 := ht i hi
    show (slipsT _ _ _).length ≤ 800
    unfold slipsT
    omega)
  have h2 : (stepsL s s.tracks.length).length ≤ s.tracks.length * 1200 := fm_len_bd _ 1200 _ (fun i hi => by
    have := fm_len_bd (stepL i (tkAt s i)) 3 ((tkAt s i).times.length - 1) (fun j _ => by unfold stepL; split <;> simp)
    have h3 := ht i hi
    show (stepsT _ _ _).length ≤ 1200
    unfold stepsT
    omega)
  have h3 : (tiesL s s.ties.length).length ≤ s.ties.length * 2 := fm_len_bd _ 2 _ (fun i _ => by simp)
  have h4 : (bnds s).length = (slipsL s s.tracks.length).length + (stepsL s s.tracks.length).length + (tiesL s s.ties.length).length := by unfold bnds; simp; omega
  omega
end Go.Proofs.YtodmbcoobjcooaaDoor

namespace Go.Proofs.YtodmbcoobjcooaaDoor
open Go Go.RowKit Go.Shelf
attribute [local go_sem] Oper.semAt_some
variable {n0 : Nat} {wf : World → Prop} {Safe : World → Nat → Prop}
/-- The ref of the beginning in memory. -/
def BegA (w : World) : Prop := w.cell? ⟨0, 0, none⟩ = some (.int .i64 (-1)) ∧ w.cell? ⟨0, 1, none⟩ = some (.int .i64 0)
theorem BegA.below {w w' : World} (h : BegA w) (k : Below n0 w w') (hn : w.heap.size = n0) : BegA w' := by
  have l := lt_of_cell h.1
  exact ⟨(k.cell (p := ⟨_, 0, none⟩) (by show 0 < _; omega)).trans h.1, (k.cell (p := ⟨_, 1, none⟩) (by show 0 < _; omega)).trans h.2⟩
theorem IntsA.below {w w' : World} {A : Option Addr} {l : List Int} (h : IntsA w A l) (k : Below n0 w w') (hn : w.heap.size = n0) : IntsA w' A l := by subst hn; exact h.keep k
theorem TksA.below {w w' : World} {A : Option Addr} {l : List Tk} (h : TksA w A l) (k : Below n0 w w') (hn : w.heap.size = n0) : TksA w' A l := by subst hn; exact h.keep k
theorem TisA.below {w w' : World} {A : Option Addr} {l : List Ti} (h : TisA w A l) (k : Below n0 w w') (hn : w.heap.size = n0) : TisA w' A l := by subst hn; exact h.keep k
theorem cell_below {w w' : World} {b i : Nat} {v : Value} (h : w.cell? ⟨b, i, none⟩ = some v) (k : Below n0 w w') (hn : w.heap.size = n0) : w'.cell? ⟨b, i, none⟩ = some v := by subst hn; exact New.cellOf k h
theorem upB_def (i j : Nat) (t : Tk) : upB i t j = ⟨⟨-1, 0⟩, ⟨i, j⟩, tmAt t j + t.slip, 1, j⟩ := rfl
theorem downB_def (i j : Nat) (t : Tk) : downB i t j = ⟨⟨i, j⟩, ⟨-1, 0⟩, t.slip - tmAt t j, 1, j⟩ := rfl
set_option maxRecDepth 100000 in
set_option maxHeartbeats 4000000 in
theorem ck_slips (hS : Sft n0 wf Safe) (s : Sy) (hs : Ok s) (l : Nat) (J Jx : List (BdOf s) → World → Prop) (hY : RoundsB n0 wf Safe s l J Jx) (hJ : AbB J) (A D : Option Addr) (c m d : Nat) (win : Int) (pre : List (BdOf s)) (W w0 : World)
    (hn0 : w0.heap.size = n0) (hB : Below n0 w0 W) (hw : wf W) (hA : TksA w0 A s.tracks) (hbeg : BegA w0) (h0 : J pre W) (hlen : pre.length + (slipsL s s.tracks.length).length ≤ (bnds s).length) (n : Nat) :
    CallsIn Fence.wide n Tryd.prog 114 #[.agg #[.slice A s.tracks.length c, .slice D m d, .int .i64 win], .func (.yield l) #[] #[]] W
      (HelpPost n0 wf Safe s J Jx pre (slipsL s s.tracks.length) W) := by
  have HY := Lib.hid hY
  have HJ := Lib.hid hJ
  have HB := Lib.hid hB
  have HA := Lib.hid hA
  have hm := hA.1
  have h64 := (checkE_ok hs).1
  have hnW : n0 ≤ W.heap.size := by have := hB.size; omega
  have HBG := Lib.hid hbeg
  have HL := Lib.hid hlen
  have k1 := (New.refl W).alloc (.cells #[.slice A s.tracks.length c, .slice D m d, .int .i64 win] 25)
  have R0 := SRow.new hS W hw hnW 25 [.slice A s.tracks.length c, .slice D m d, .int .i64 win]
  have E1 := Lib.hid (Ev.new (wf := wf) hS hnW k1)
  have j1 := HJ.out _ _ _ h0 k1
  have w1 := (E1.out.2 hw).1
  have HR0 := Lib.hid R0
  have c0 := R0.cell (i := 0) rfl
  have hdd : ∀ k : Nat, (Fence.wide.depth.isSome = true → 1 ≤ k) := fun k h => by cases h
  clear hY hJ hB hA hbeg hlen h0 hw R0
  refine callsIn_of_wp Tryd.func114 rfl trivial ?_ rfl
  simp only [Tryd.ntmps114, List.size_toArray, List.length_cons, List.length_nil, Nat.reduceAdd, Nat.reduceSub, Array.replicate_succ, Array.replicate_zero, List.push_toArray, List.append_toArray, List.nil_append, List.cons_append]
  gi_wp2
  clear c0 k1
  generalize hW0 : W.alloc (.cells #[.slice A s.tracks.length c, .slice D m d, .int .i64 win] 25) = W1 at *
  have HN1 : Hid (n0 ≤ W1.heap.size) := Lib.hid (Nat.le_trans hnW E1.out.size)
  clear hW0
  gi_loopw [15] (fun i wr => ∃ (k : Nat) (q : List (BdOf s)), k ≤ s.tracks.length ∧ i = .int .i64 k ∧ Hid (q.map (·.1) = slipsL s k) ∧ J (pre ++ q) wr ∧ Ev n0 wf Safe W1 wr) (fun i _ => s.tracks.length - (intOf i).toNat)
  case atStart => exact ⟨0, [], Nat.zero_le _, rfl, Lib.hid rfl, by simpa using j1, Ev.refl _⟩
  case round =>
    obtain ⟨k, q, hk, rfl, HQ, hj, hv⟩ := hrel
    obtain ⟨Wo, hWo⟩ : ∃ x, x = wr := ⟨wr, rfl⟩
    subst hWo
    have HJ2 := Lib.hid hj
    have HV := Lib.hid hv
    clear hj hv
    by_cases hlt : k < s.tracks.length
    · have HBw := Lib.hid (HB.out.trans (E1.out.trans HV.out).1)
      obtain ⟨b, off, rfl, -, hc⟩ := HA.out.2 (by omega)
      obtain ⟨JA, jc, TA, tc, z0, z1, z2, z3, hj, ht⟩ := hc k hlt
      replace z0 := cell_below z0 HBw.out hn0
      replace z1 := cell_below z1 HBw.out hn0
      replace z2 := cell_below z2 HBw.out hn0
      replace z3 := cell_below z3 HBw.out hn0
      have hf := trackB_facts (hs.track hlt)
      have HF := Lib.hid hf.1
      have s1 := hf.2.1
      have s2 := hf.2.2.1
      have s3 := hf.2.2.2.2.2.1
      have HM : Hid (∀ j b, j < (tkAt s k).times.length → b = upB k (tkAt s k) j ∨ b = downB k (tkAt s k) j → b ∈ bnds s) := Lib.hid (fun j b hj hb => mem_slip hlt hj hb)
      have HQS := Lib.hid (slipsL_succ s k)
      have HLE : Hid ((slipsL s (k + 1)).length ≤ (slipsL s s.tracks.length).length) := Lib.hid (fm_len_le _ (by omega))
      have HTL : Hid (∀ j, j ≤ (tkAt s k).times.length → (slipsT k (tkAt s k) j).length ≤ (slipsT k (tkAt s k) (tkAt s k).times.length).length) := Lib.hid (fun j hj => fm_len_le _ hj)
      have et : s.tracks[k]?.getD default = tkAt s k := rfl
      rw [et] at z0 z1 z2 z3 ht
      have HT := Lib.hid ht
      clear hc hj ht hf et
      generalize tkAt s k = t at *
      have w2 := (HV.out.2 w1).1
      have HN2 : Hid (n0 ≤ Wo.heap.size) := Lib.hid (Nat.le_trans HN1.out HV.out.size)
      have k2 := (New.refl Wo).alloc (.cells #[.int .i64 t.slip, .int .i64 t.drift, .slice JA t.jumps.length jc, .slice TA t.times.length tc] 30)
      have R2 := SRow.new hS Wo w2 HN2.out 30 [.int .i64 t.slip, .int .i64 t.drift, .slice JA t.jumps.length jc, .slice TA t.times.length tc]
      have E2 := Lib.hid (Ev.new (wf := wf) hS HN2.out k2)
      have j2 := HJ.out _ _ _ HJ2.out k2
      have w3 := (E2.out.2 w2).1
      have HR2 := Lib.hid R2
      have c3 := R2.cell (i := 3) rfl
      clear R2
      gi_wp2
      clear c3 z0 z1 z2 z3 k2
      generalize hW2 : Wo.alloc (.cells #[.int .i64 t.slip, .int .i64 t.drift, .slice JA t.jumps.length jc, .slice TA t.times.length tc] 30) = W2 at *
      have HN3 : Hid (n0 ≤ W2.heap.size) := Lib.hid (Nat.le_trans HN2.out E2.out.size)
      clear hW2
      gi_loopw [23] (fun i wr => ∃ (j : Nat) (q2 : List (BdOf s)), j ≤ t.times.length ∧ i = .int .i64 j ∧ Hid (q2.map (·.1) = slipsL s k ++ slipsT k t j) ∧ J (pre ++ q2) wr ∧ Ev n0 wf Safe W2 wr) (fun i _ => t.times.length - (intOf i).toNat)
      case atStart => exact ⟨0, q, Nat.zero_le _, rfl, Lib.hid (by rw [HQ.out]; simp [slipsT]), j2, Ev.refl _⟩
      case round =>
        obtain ⟨j, q2, hj, rfl, HQ2, hj2, hv2⟩ := hrel
        have HJ3 := Lib.hid hj2
        have HV2 := Lib.hid hv2
        clear hj2 hv2 j2
        by_cases hlt2 : j < t.times.length
        · have HB3 := Lib.hid (HB.out.trans (E1.out.trans (HV.out.trans (E2.out.trans HV2.out))).1)
          obtain ⟨tb, toff, rfl, -, htc⟩ := (HT.out).2 (by omega)
          have e0 := htc j hlt2
          have g0 : t.times[j]?.getD 0 = tmAt t j := rfl
          rw [g0] at e0
          replace e0 := cell_below e0 HB3.out hn0
          have HMM := HM.out j
          have hb := HF.out j hlt2
          have HMU := Lib.hid (HMM (upB k t j) hlt2 (.inl rfl))
          have HMD := Lib.hid (HMM (downB k t j) hlt2 (.inr rfl))
          have HXU : Hid (upB k t j = ⟨⟨-1, 0⟩, ⟨k, j⟩, tmAt t j + t.slip, 1, j⟩) := Lib.hid rfl
          have HXD : Hid (downB k t j = ⟨⟨k, j⟩, ⟨-1, 0⟩, t.slip - tmAt t j, 1, j⟩) := Lib.hid rfl
          have HQ4 := Lib.hid (slipsT_succ k t j)
          have HLL : Hid (pre.length + q2.length + 2 ≤ (bnds s).length) := Lib.hid (by
            have a1 := congrArg List.length HQ2.out
            have a2 := congrArg List.length HQ4.out
            have a3 := HTL.out (j + 1) (by omega)
            have a4 := congrArg List.length HQS.out
            have a5 := HLE.out
            have a6 := HL.out
            simp only [List.length_map, List.length_append, List.length_cons, List.length_nil] at a1 a2 a4
            omega)
          generalize upB k t j = bu at *
          generalize downB k t j = bdn at *
          generalize tmAt t j = tm at *
          clear htc g0 HMM
          obtain ⟨tsl, tdr, tjs, tts⟩ := t
          dsimp only at s1 s2 s3 HXU HXD HR2 hlt2
          have w5 := (HV2.out.2 w3).1
          have HN5 : Hid (n0 ≤ wr.heap.size) := Lib.hid (Nat.le_trans HN3.out HV2.out.size)
          have R2 := HR2.out.keep w3 HV2.out
          have bg := HBG.out.below HB3.out hn0
          have HC : Hid (∀ w', New wr w' → w'.cell? ⟨0, 0, none⟩ = some (.int .i64 (-1)) ∧ w'.cell? ⟨0, 1, none⟩ = some (.int .i64 0) ∧ w'.cell? ⟨Wo.heap.size, 0, none⟩ = some (.int .i64 tsl)) := Lib.hid (fun w' h => ⟨h.cellOf bg.1, h.cellOf bg.2, (R2.2.keep h).cell rfl⟩)
          have n1 := (New.refl wr).alloc (.cells #[.int .i64 k, .int .i64 j] 53)
          have n2 := n1.alloc (.cells #[.int .i64 (-1), .int .i64 0, .int .i64 k, .int .i64 j, .int .i64 (tm + tsl), .int .i64 1, .int .i64 j] 91)
          have n3 := n2.alloc (.cells #[.int .i64 k, .int .i64 j, .int .i64 (-1), .int .i64 0, .int .i64 (tsl - tm), .int .i64 1, .int .i64 j] 91)
          have r1 := RowIs.new wr 53 [.int .i64 k, .int .i64 j]
          have r2 := RowIs.new (wr.alloc (.cells #[.int .i64 k, .int .i64 j] 53)) 91 [.int .i64 (-1), .int .i64 0, .int .i64 k, .int .i64 j, .int .i64 (tm + tsl), .int .i64 1, .int .i64 j]
          have ww1 := (hS.new _ _ n1 w5).1
          have ww2 := (hS.new _ _ n2 w5).1
          have ww3 := (hS.new _ _ n3 w5).1
          have R3 := SRow.new hS _ ww2 (by have := HN5.out; simp; omega) 91 [.int .i64 k, .int .i64 j, .int .i64 (-1), .int .i64 0, .int .i64 (tsl - tm), .int .i64 1, .int .i64 j]
          have r1a := r1.keep ((New.refl _).alloc (.cells #[.int .i64 (-1), .int .i64 0, .int .i64 k, .int .i64 j, .int .i64 (tm + tsl), .int .i64 1, .int .i64 j] 91))
          have r2a := r2.keep ((New.refl _).alloc (.cells #[.int .i64 k, .int .i64 j, .int .i64 (-1), .int .i64 0, .int .i64 (tsl - tm), .int .i64 1, .int .i64 j] 91))
          simp only [World.size_alloc] at r2a R3
          obtain ⟨x0, x1, x2⟩ := HC.out _ n1
          obtain ⟨y0, y1, y2⟩ := HC.out _ n2
          have a0 := r1.cell (i := 0) rfl
          have a1 := r1.cell (i := 1) rfl
          have b0 := r1a.cell (i := 0) rfl
          have b1 := r1a.cell (i := 1) rfl
          have u0 := r2a.cell (i := 0) rfl
          have u1 := r2a.cell (i := 1) rfl
          have u2 := r2a.cell (i := 2) rfl
          have u3 := r2a.cell (i := 3) rfl
          have u4 := r2a.cell (i := 4) rfl
          have u5 := r2a.cell (i := 5) rfl
          have u6 := r2a.cell (i := 6) rfl
          have E5 := Lib.hid (Ev.new (wf := wf) hS HN5.out n3)
          have j5 := HJ.out _ _ _ HJ3.out n3
          have hl5 : (pre ++ q2).length < (bnds s).length := by have := HLL.out; simp; omega
          obtain ⟨fn, tmps, assign, body, hy, hR⟩ := HY.out (n - 1) _ ⟨_, HMU.out⟩ _ j5 hl5
          simp only [bdV, HXU.out] at hy
          have HHR := Lib.hid hR
          have HR3 := Lib.hid R3
          clear hR R3 n1 n2 n3 r1 r2 r1a r2a ww1 ww2 bg R2 j5 hl5
          gi_wp2
          try refine ⟨hdd _, ?_⟩
          refine (RoundIn.anyDepth rfl HHR.out).mono ?_
          rintro e W7 (⟨rfl, j7, v7⟩ | ⟨rfl, x7⟩)
          rotate_left
          · gi_wp2
            refine ⟨fun _ h => (by cases h), ?_⟩
            gi_wp2
            go_ret
            exact .inr ⟨rfl, _, x7⟩
          have R4 := HR3.out.keep ww3 v7
          have w7 := (v7.2 ww3).1
          have E7 := Lib.hid (E5.out.trans v7)
          clear x0 x1 x2 y0 y1 y2 a0 a1 b0 b1 u0 u1 u2 u3 u4 u5 u6 hy HHR HR3 ww3 v7 E5
          have u0 := R4.cell (i := 0) rfl
          have u1 := R4.cell (i := 1) rfl
          have u2 := R4.cell (i := 2) rfl
          have u3 := R4.cell (i := 3) rfl
          have u4 := R4.cell (i := 4) rfl
          have u5 := R4.cell (i := 5) rfl
          have u6 := R4.cell (i := 6) rfl
          have hl7 : (pre ++ q2 ++ [(⟨_, HMU.out⟩ : BdOf s)]).length < (bnds s).length := by have := HLL.out; simp; omega
          obtain ⟨fn, tmps, assign, body, hy, hR⟩ := HY.out (n - 1) _ ⟨_, HMD.out⟩ _ j7 hl7
          simp only [bdV, HXD.out] at hy
          have HHR := Lib.hid hR
          clear hR R4 hl7 j7
          gi_wp2
          try refine ⟨hdd _, ?_⟩
          refine (RoundIn.anyDepth rfl HHR.out).mono ?_
          rintro e W8 (⟨rfl, j8, v8⟩ | ⟨rfl, x8⟩)
          rotate_left
          · gi_wp2
            go_ret
            exact .inr ⟨rfl, _, x8⟩
          have E8 := Lib.hid (HV2.out.trans (E7.out.trans v8))
          have HJ8 := Lib.hid j8
          clear u0 u1 u2 u3 u4 u5 u6 hy HHR v8 j8
          gi_wp2
          go_roundw
          case rel => exact ⟨j + 1, q2 ++ [⟨_, HMU.out⟩] ++ [⟨_, HMD.out⟩], by omega, by go_num, Lib.hid (by rw [HQ4.out, List.map_append, List.map_append, HQ2.out]; simp), by simpa [List.append_assoc] using HJ8.out, E8.out⟩
          case measure => simp [intOf]; omega
        · obtain rfl : j = t.times.length := by omega
          have HQ3 : Hid (q2.map (·.1) = slipsL s (k + 1)) := Lib.hid (by rw [HQS.out]; exact HQ2.out)
          clear HT
          gi_wp2
          go_roundw
          case rel => exact ⟨k + 1, q2, by omega, by go_num, HQ3, HJ3.out, HV.out.trans (E2.out.trans HV2.out)⟩
          case measure => simp [intOf]; omega
    · obtain rfl : k = s.tracks.length := by omega
      clear HA
      gi_wp2
      go_ret
      exact .inl ⟨rfl, q, HQ.out, HJ2.out, E1.out.trans HV.out⟩
end Go.Proofs.YtodmbcoobjcooaaDoor

namespace Go.Proofs.YtodmbcoobjcooaaDoor
open Go Go.RowKit Go.Shelf
attribute [local go_sem] Oper.semAt_some
variable {n0 : Nat} {wf : World → Prop} {Safe : World → Nat → Prop}
set_option maxRecDepth 100000 in
set_option maxHeartbeats 4000000 in
theorem ck_steps (hS : Sft n0 wf Safe) (s : Sy) (hs : Ok s) (l : Nat) (J Jx : List (BdOf s) → World → Prop) (hY : RoundsB n0 wf Safe s l J Jx) (hJ : AbB J) (A D : Option Addr) (c m d : Nat) (win : Int) (pre : List (BdOf s)) (W w0 : World)
    (hn0 : w0.heap.size = n0) (hB : Below n0 w0 W) (hw : wf W) (hA : TksA w0 A s.tracks) (h0 : J pre W) (hlen : pre.length + (stepsL s s.tracks.length).length ≤ (bnds s).length) (n : Nat) :
    CallsIn Fence.wide n Tryd.prog 115 #[.agg #[.slice A s.tracks.length c, .slice D m d, .int .i64 win], .func (.yield l) #[] #[]] W
      (HelpPost n0 wf Safe s J Jx pre (stepsL s s.tracks.length) W) := by
  have HST : Hid (∀ (k j : Nat) JA TA jc tc pre' W', k < s.tracks.length → j + 1 < (tkAt s k).times.length → Below n0 w0 W' → wf W' → TkM w0 JA TA (tkAt s k) → J pre' W' → pre'.length + (stepL k (tkAt s k) j).length ≤ (bnds s).length → ∀ n', CallsIn Fence.wide n' Tryd.prog 126 #[.agg #[.int .i64 (tkAt s k).slip, .int .i64 (tkAt s k).drift, .slice JA (tkAt s k).jumps.length jc, .slice TA (tkAt s k).times.length tc], .agg #[.int .i64 k, .int .i64 j], .func (.yield l) #[] #[]] W'
      (HelpPost n0 wf Safe s J Jx pre' (stepL k (tkAt s k) j) W')) := Lib.hid (fun k j JA TA jc tc pre' W' hk hj hb hw' hm h0' hl n' => by
    have hf := trackB_facts (hs.track hk)
    have h1 := hf.1 j (by omega)
    have h2 := hf.1 (j + 1) hj
    exact ck_step hS s l k j J Jx hY hJ JA TA jc tc hk hj pre' W' w0 hn0 hb hw' hm h0' hl n' h1.1 (h1.2.2 hj) h2.2.1 hf.2.2.2.1 hf.2.2.2.2.1 (by omega))
  have HJ := Lib.hid hJ
  have HB := Lib.hid hB
  have HA := Lib.hid hA
  have hm := hA.1
  have h64 := (checkE_ok hs).1
  have hnW : n0 ≤ W.heap.size := by have := hB.size; omega
  have HL := Lib.hid hlen
  have k1 := (New.refl W).alloc (.cells #[.slice A s.tracks.length c, .slice D m d, .int .i64 win] 25)
  have R0 := SRow.new hS W hw hnW 25 [.slice A s.tracks.length c, .slice D m d, .int .i64 win]
  have E1 := Lib.hid (Ev.new (wf := wf) hS hnW k1)
  have j1 := HJ.out _ _ _ h0 k1
  have w1 := (E1.out.2 hw).1
  have c0 := R0.cell (i := 0) rfl
  have hdd : ∀ k : Nat, (Fence.wide.depth.isSome = true → 1 ≤ k) := fun k h => by cases h
  clear hY hJ hB hA hlen h0 hw R0
  have hT1 : Fence.wide.fn 126 := trivial
  refine callsIn_of_wp Tryd.func115 rfl trivial ?_ rfl
  simp only [Tryd.ntmps115, List.size_toArray, List.length_cons, List.length_nil, Nat.reduceAdd, Nat.reduceSub, Array.replicate_succ, Array.replicate_zero, List.push_toArray, List.append_toArray, List.nil_append, List.cons_append]
  gi_wp2_with fail
  clear c0 k1
  generalize hW0 : W.alloc (.cells #[.slice A s.tracks.length c, .slice D m d, .int .i64 win] 25) = W1 at *
  have HN1 : Hid (n0 ≤ W1.heap.size) := Lib.hid (Nat.le_trans hnW E1.out.size)
  clear hW0
  gi_loopw [11] (fun i wr => ∃ (k : Nat) (q : List (BdOf s)), k ≤ s.tracks.length ∧ i = .int .i64 k ∧ Hid (q.map (·.1) = stepsL s k) ∧ J (pre ++ q) wr ∧ Ev n0 wf Safe W1 wr) (fun i _ => s.tracks.length - (intOf i).toNat)
  case atStart => exact ⟨0, [], Nat.zero_le _, rfl, Lib.hid rfl, by simpa using j1, Ev.refl _⟩
  case round =>
    obtain ⟨k, q, hk, rfl, HQ, hj, hv⟩ := hrel
    obtain ⟨Wo, hWo⟩ : ∃ x, x = wr := ⟨wr, rfl⟩
    subst hWo
    have HJ2 := Lib.hid hj
    have HV := Lib.hid hv
    clear hj hv
    by_cases hlt : k < s.tracks.length
    · have HBw := Lib.hid (HB.out.trans (E1.out.trans HV.out).1)
      obtain ⟨b, off, rfl, -, hc⟩ := HA.out.2 (by omega)
      obtain ⟨JA, jc, TA, tc, z0, z1, z2, z3, hj, ht⟩ := hc k hlt
      replace z0 := cell_below z0 HBw.out hn0
      replace z1 := cell_below z1 HBw.out hn0
      replace z2 := cell_below z2 HBw.out hn0
      replace z3 := cell_below z3 HBw.out hn0
      have s3 := (trackB_facts (hs.track hlt)).2.2.2.2.2.1
      have HQS := Lib.hid (stepsL_succ s k)
      have HLE : Hid ((stepsL s (k + 1)).length ≤ (stepsL s s.tracks.length).length) := Lib.hid (fm_len_le _ (by omega))
      have HTL : Hid (∀ j, j ≤ (tkAt s k).times.length - 1 → (stepsT k (tkAt s k) j).length ≤ (stepsT k (tkAt s k) ((tkAt s k).times.length - 1)).length) := Lib.hid (fun j hj => fm_len_le _ hj)
      have HST2 := Lib.hid (HST.out k)
      have et : s.tracks[k]?.getD default = tkAt s k := rfl
      rw [et] at z0 z1 z2 z3 ht hj
      have HT : Hid (TkM w0 JA TA (tkAt s k)) := Lib.hid ⟨hj, ht⟩
      clear hc hj ht et
      generalize tkAt s k = t at *
      have w2 := (HV.out.2 w1).1
      have HN2 : Hid (n0 ≤ Wo.heap.size) := Lib.hid (Nat.le_trans HN1.out HV.out.size)
      have k2 := (New.refl Wo).alloc (.cells #[.int .i64 t.slip, .int .i64 t.drift, .slice JA t.jumps.length jc, .slice TA t.times.length tc] 30)
      have R2 := SRow.new hS Wo w2 HN2.out 30 [.int .i64 t.slip, .int .i64 t.drift, .slice JA t.jumps.length jc, .slice TA t.times.length tc]
      have E2 := Lib.hid (Ev.new (wf := wf) hS HN2.out k2)
      have j2 := HJ.out _ _ _ HJ2.out k2
      have w3 := (E2.out.2 w2).1
      have HR2 := Lib.hid R2
      have c3 := R2.cell (i := 3) rfl
      clear R2
      gi_wp2_with fail
      clear c3 z0 z1 z2 z3 k2
      generalize hW2 : Wo.alloc (.cells #[.int .i64 t.slip, .int .i64 t.drift, .slice JA t.jumps.length jc, .slice TA t.times.length tc] 30) = W2 at *
      have HN3 : Hid (n0 ≤ W2.heap.size) := Lib.hid (Nat.le_trans HN2.out E2.out.size)
      clear hW2
      gi_loopw [20] (fun i wr => ∃ (j : Nat) (q2 : List (BdOf s)), j ≤ t.times.length - 1 ∧ i = .int .i64 j ∧ Hid (q2.map (·.1) = stepsL s k ++ stepsT k t j) ∧ J (pre ++ q2) wr ∧ Ev n0 wf Safe W2 wr) (fun i _ => t.times.length - (intOf i).toNat)
      case atStart => exact ⟨0, q, Nat.zero_le _, rfl, Lib.hid (by rw [HQ.out]; simp [stepsT]), j2, Ev.refl _⟩
      case round =>
        obtain ⟨j, q2, hj, rfl, HQ2, hj2, hv2⟩ := hrel
        have HJ3 := Lib.hid hj2
        have HV2 := Lib.hid hv2
        clear hj2 hv2 j2
        by_cases hlt2 : j < t.times.length - 1
        · have hlt3 : j + 1 < t.times.length := by omega
          have hlt4 : (j : Int) < (t.times.length : Int) - 1 := by omega
          have HB3 := Lib.hid (HB.out.trans (E1.out.trans (HV.out.trans (E2.out.trans HV2.out))).1)
          have HQ4 := Lib.hid (stepsT_succ k t j)
          have HLL : Hid ((pre ++ q2).length + (stepL k t j).length ≤ (bnds s).length) := Lib.hid (by
            have a1 := congrArg List.length HQ2.out
            have a2 := congrArg List.length HQ4.out
            have a3 := HTL.out (j + 1) (by omega)
            have a4 := congrArg List.length HQS.out
            have a5 := HLE.out
            have a6 := HL.out
            simp only [List.length_map, List.length_append] at a1 a2 a4 ⊢
            omega)
          have w5 := (HV2.out.2 w3).1
          have HN5 : Hid (n0 ≤ wr.heap.size) := Lib.hid (Nat.le_trans HN3.out HV2.out.size)
          have R2 := HR2.out.keep w3 HV2.out
          have c0 := R2.cell (i := 0) rfl
          have c1 := R2.cell (i := 1) rfl
          have c2 := R2.cell (i := 2) rfl
          have c3 := R2.cell (i := 3) rfl
          have HC := Lib.hid (fun n' => HST2.out j JA TA jc tc (pre ++ q2) wr hlt hlt3 HB3.out w5 HT.out HJ3.out HLL.out n')
          clear R2
          gi_wp2_with ((try refine ⟨hdd _, ?_⟩); gi_at_call 126; refine (HC.out _).mono ?_; rintro e W6 (⟨rfl, q6, hq6, j6, v6⟩ | ⟨rfl, q6, x6⟩))
          · have E8 := Lib.hid (HV2.out.trans v6)
            have HJ8 := Lib.hid j6
            have HQ6 := Lib.hid hq6
            clear v6 j6 hq6 c0 c1 c2 c3
            gi_wp2_with fail
            go_roundw
            case rel => exact ⟨j + 1, q2 ++ q6, by omega, by go_num, Lib.hid (by rw [HQ4.out, List.map_append, HQ2.out, HQ6.out]; simp), by simpa [List.append_assoc] using HJ8.out, E8.out⟩
            case measure => simp [intOf]; omega
          · gi_wp2_with fail
            go_ret
            exact .inr ⟨rfl, _, x6⟩
        · obtain rfl : j = t.times.length - 1 := by omega
          have HQ3 : Hid (q2.map (·.1) = stepsL s (k + 1)) := Lib.hid (by rw [HQS.out]; exact HQ2.out)
          have hge : ¬ (((t.times.length - 1 : Nat) : Int) < (t.times.length : Int) - 1) := by omega
          clear HT
          gi_wp2_with fail
          go_roundw
          case rel => exact ⟨k + 1, q2, by omega, by go_num, HQ3, HJ3.out, HV.out.trans (E2.out.trans HV2.out)⟩
          case measure => simp [intOf]; omega
    · obtain rfl : k = s.tracks.length := by omega
      clear HA
      gi_wp2_with fail
      go_ret
      exact .inl ⟨rfl, q, HQ.out, HJ2.out, E1.out.trans HV.out⟩
end Go.Proofs.YtodmbcoobjcooaaDoor

namespace Go.Proofs.YtodmbcoobjcooaaDoor
open Go Go.RowKit Go.Shelf
attribute [local go_sem] Oper.semAt_some
variable {n0 : Nat} {wf : World → Prop} {Safe : World → Nat → Prop}
/-- The same, of what has no result. -/
def HelpEnd (n0 : Nat) (wf : World → Prop) (Safe : World → Nat → Prop) (s : Sy) (J Jx : List (BdOf s) → World → Prop) (pre : List (BdOf s)) (l : List Bd) (W : World) (e : Ending) (W' : World) : Prop :=
  (∃ v, e = .returned v) ∧ ((∃ q : List (BdOf s), q.map (·.1) = l ∧ J (pre ++ q) W' ∧ Ev n0 wf Safe W W') ∨ (∃ q, Jx q W'))
set_option maxRecDepth 100000 in
set_option maxHeartbeats 4000000 in
theorem ck_ties (hS : Sft n0 wf Safe) (s : Sy) (hs : Ok s) (l : Nat) (J Jx : List (BdOf s) → World → Prop) (hY : RoundsB n0 wf Safe s l J Jx) (hJ : AbB J) (A D : Option Addr) (c m d : Nat) (pre : List (BdOf s)) (W w0 : World)
    (hn0 : w0.heap.size = n0) (hB : Below n0 w0 W) (hw : wf W) (hA : TisA w0 D s.ties) (h0 : J pre W) (hlen : pre.length + (tiesL s s.ties.length).length ≤ (bnds s).length) (n : Nat) :
    CallsIn Fence.wide n Tryd.prog 116 #[.agg #[.slice A m c, .slice D s.ties.length d, .int .i64 s.window], .func (.yield l) #[] #[]] W
      (HelpEnd n0 wf Safe s J Jx pre (tiesL s s.ties.length) W) := by
  have HY := Lib.hid hY
  have HJ := Lib.hid hJ
  have HB := Lib.hid hB
  have HA := Lib.hid hA
  have hm := hA.1
  have h64 := (checkE_ok hs).2.1
  have hnW : n0 ≤ W.heap.size := by have := hB.size; omega
  have HL := Lib.hid hlen
  have k1 := (New.refl W).alloc (.cells #[.slice A m c, .slice D s.ties.length d, .int .i64 s.window] 25)
  have R0 := SRow.new hS W hw hnW 25 [.slice A m c, .slice D s.ties.length d, .int .i64 s.window]
  have E1 := Lib.hid (Ev.new (wf := wf) hS hnW k1)
  have j1 := HJ.out _ _ _ h0 k1
  have w1 := (E1.out.2 hw).1
  have HR0 := Lib.hid R0
  have c1 := R0.cell (i := 1) rfl
  have hdd : ∀ k : Nat, (Fence.wide.depth.isSome = true → 1 ≤ k) := fun k h => by cases h
  have HMT : Hid (∀ k, k < s.ties.length → thereB s k ∈ bnds s ∧ backB s k ∈ bnds s) := Lib.hid (fun k hk => ⟨mem_tie hk (.inl rfl), mem_tie hk (.inr rfl)⟩)
  have HXU : Hid (∀ k, thereB s k = ⟨(tiAt s k).a, (tiAt s k).b, s.window, 4, k⟩) := Lib.hid (fun _ => rfl)
  have HXD : Hid (∀ k, backB s k = ⟨(tiAt s k).b, (tiAt s k).a, s.window, 4, k⟩) := Lib.hid (fun _ => rfl)
  clear hY hJ hB hA hlen h0 hw R0
  generalize s.window = win at *
  refine callsIn_of_wp Tryd.func116 rfl trivial ?_ rfl
  simp only [Tryd.ntmps116, List.size_toArray, List.length_cons, List.length_nil, Nat.reduceAdd, Nat.reduceSub, Array.replicate_succ, Array.replicate_zero, List.push_toArray, List.append_toArray, List.nil_append, List.cons_append]
  gi_wp2
  clear c1 k1
  generalize hW0 : W.alloc (.cells #[.slice A m c, .slice D s.ties.length d, .int .i64 win] 25) = W1 at *
  have HN1 : Hid (n0 ≤ W1.heap.size) := Lib.hid (Nat.le_trans hnW E1.out.size)
  clear hW0
  gi_loopw [11] (fun i wr => ∃ (k : Nat) (q : List (BdOf s)), k ≤ s.ties.length ∧ i = .int .i64 k ∧ Hid (q.map (·.1) = tiesL s k) ∧ J (pre ++ q) wr ∧ Ev n0 wf Safe W1 wr) (fun i _ => s.ties.length - (intOf i).toNat)
  case atStart => exact ⟨0, [], Nat.zero_le _, rfl, Lib.hid rfl, by simpa using j1, Ev.refl _⟩
  case round =>
    obtain ⟨k, q, hk, rfl, HQ, hj, hv⟩ := hrel
    have HJ2 := Lib.hid hj
    have HV := Lib.hid hv
    clear hj hv
    by_cases hlt : k < s.ties.length
    · have HBw := Lib.hid (HB.out.trans (E1.out.trans HV.out).1)
      obtain ⟨b, off, rfl, -, hc⟩ := HA.out.2 (by omega)
      obtain ⟨z0, z1, z2, z3⟩ := hc k hlt
      replace z0 := cell_below z0 HBw.out hn0
      replace z1 := cell_below z1 HBw.out hn0
      replace z2 := cell_below z2 HBw.out hn0
      replace z3 := cell_below z3 HBw.out hn0
      have HMU := Lib.hid (HMT.out k hlt).1
      have HMD := Lib.hid (HMT.out k hlt).2
      have HQS := Lib.hid (tiesL_succ s k)
      have HLL : Hid ((pre ++ q).length + 2 ≤ (bnds s).length) := Lib.hid (by
        have a1 := congrArg List.length HQ.out
        have a2 := congrArg List.length HQS.out
        have a3 : (tiesL s (k + 1)).length ≤ (tiesL s s.ties.length).length := fm_len_le _ (by omega)
        have a6 := HL.out
        simp only [List.length_map, List.length_append, List.length_cons, List.length_nil] at a1 a2 ⊢
        omega)
      have hxu := HXU.out k
      have hxd := HXD.out k
      have et : s.ties[k]?.getD default = tiAt s k := rfl
      rw [et] at z0 z1 z2 z3
      clear hc et
      generalize thereB s k = bu at *
      generalize backB s k = bdn at *
      generalize tiAt s k = t at *
      obtain ⟨⟨al, ai⟩, ⟨bl, bi⟩⟩ := t
      dsimp only at z0 z1 z2 z3 hxu hxd
      have HXU1 := Lib.hid hxu
      have HXD1 := Lib.hid hxd
      have w5 := (HV.out.2 w1).1
      have HN5 : Hid (n0 ≤ wr.heap.size) := Lib.hid (Nat.le_trans HN1.out HV.out.size)
      have R2 := HR0.out.keep w1 HV.out
      have HC : Hid (∀ w', New wr w' → w'.cell? ⟨W.heap.size, 2, none⟩ = some (.int .i64 win)) := Lib.hid (fun w' h => (R2.2.keep h).cell rfl)
      have n1 := (New.refl wr).alloc (.cells #[.int .i64 al, .int .i64 ai, .int .i64 bl, .int .i64 bi] 79)
      have n2 := n1.alloc (.cells #[.int .i64 al, .int .i64 ai, .int .i64 bl, .int .i64 bi, .int .i64 win, .int .i64 4, .int .i64 k] 91)
      have n3 := n2.alloc (.cells #[.int .i64 bl, .int .i64 bi, .int .i64 al, .int .i64 ai, .int .i64 win, .int .i64 4, .int .i64 k] 91)
      have r1 := RowIs.new wr 79 [.int .i64 al, .int .i64 ai, .int .i64 bl, .int .i64 bi]
      have r2 := RowIs.new (wr.alloc (.cells #[.int .i64 al, .int .i64 ai, .int .i64 bl, .int .i64 bi] 79)) 91 [.int .i64 al, .int .i64 ai, .int .i64 bl, .int .i64 bi, .int .i64 win, .int .i64 4, .int .i64 k]
      have ww2 := (hS.new _ _ n2 w5).1
      have ww3 := (hS.new _ _ n3 w5).1
      have R3 := SRow.new hS _ ww2 (by have := HN5.out; simp; omega) 91 [.int .i64 bl, .int .i64 bi, .int .i64 al, .int .i64 ai, .int .i64 win, .int .i64 4, .int .i64 k]
      have r1a := r1.keep ((New.refl _).alloc (.cells #[.int .i64 al, .int .i64 ai, .int .i64 bl, .int .i64 bi, .int .i64 win, .int .i64 4, .int .i64 k] 91))
      have r2a := r2.keep ((New.refl _).alloc (.cells #[.int .i64 bl, .int .i64 bi, .int .i64 al, .int .i64 ai, .int .i64 win, .int .i64 4, .int .i64 k] 91))
      simp only [World.size_alloc] at r2a R3
      have x2 := HC.out _ n1
      have y2 := HC.out _ n2
      have a0 := r1.cell (i := 0) rfl
      have a1 := r1.cell (i := 1) rfl
      have a2 := r1.cell (i := 2) rfl
      have a3 := r1.cell (i := 3) rfl
      have b0 := r1a.cell (i := 0) rfl
      have b1 := r1a.cell (i := 1) rfl
      have b2 := r1a.cell (i := 2) rfl
      have b3 := r1a.cell (i := 3) rfl
      have u0 := r2a.cell (i := 0) rfl
      have u1 := r2a.cell (i := 1) rfl
      have u2 := r2a.cell (i := 2) rfl
      have u3 := r2a.cell (i := 3) rfl
      have u4 := r2a.cell (i := 4) rfl
      have u5 := r2a.cell (i := 5) rfl
      have u6 := r2a.cell (i := 6) rfl
      have E5 := Lib.hid (Ev.new (wf := wf) hS HN5.out n3)
      have j5 := HJ.out _ _ _ HJ2.out n3
      have hl5 : (pre ++ q).length < (bnds s).length := by have := HLL.out; omega
      obtain ⟨fn, tmps, assign, body, hy, hR⟩ := HY.out (n - 1) _ ⟨_, HMU.out⟩ _ j5 hl5
      simp only [bdV, HXU1.out] at hy
      have HHR := Lib.hid hR
      have HR3 := Lib.hid R3
      clear hR R3 n1 n2 n3 r1 r2 r1a r2a ww2 R2 j5 hl5 hxu hxd
      gi_wp2
      try refine ⟨hdd _, ?_⟩
      refine (RoundIn.anyDepth rfl HHR.out).mono ?_
      rintro e W7 (⟨rfl, j7, v7⟩ | ⟨rfl, x7⟩)
      rotate_left
      · gi_wp2
        refine ⟨fun _ h => (by cases h), ?_⟩
        gi_wp2
        first | go_end0 | refine bodyPost_ret (results_none rfl _ _ _) rfl ?_
        exact ⟨⟨_, rfl⟩, .inr ⟨_, x7⟩⟩
      have R4 := HR3.out.keep ww3 v7
      have w7 := (v7.2 ww3).1
      have E7 := Lib.hid (E5.out.trans v7)
      clear x2 y2 a0 a1 a2 a3 b0 b1 b2 b3 u0 u1 u2 u3 u4 u5 u6 hy HHR HR3 ww3 v7 E5
      have u0 := R4.cell (i := 0) rfl
      have u1 := R4.cell (i := 1) rfl
      have u2 := R4.cell (i := 2) rfl
      have u3 := R4.cell (i := 3) rfl
      have u4 := R4.cell (i := 4) rfl
      have u5 := R4.cell (i := 5) rfl
      have u6 := R4.cell (i := 6) rfl
      have hl7 : (pre ++ q ++ [(⟨_, HMU.out⟩ : BdOf s)]).length < (bnds s).length := by have := HLL.out; simp at this ⊢; omega
      obtain ⟨fn, tmps, assign, body, hy, hR⟩ := HY.out (n - 1) _ ⟨_, HMD.out⟩ _ j7 hl7
      simp only [bdV, HXD1.out] at hy
      have HHR := Lib.hid hR
      clear hR R4 hl7 j7
      gi_wp2
      try refine ⟨hdd _, ?_⟩
      refine (RoundIn.anyDepth rfl HHR.out).mono ?_
      rintro e W8 (⟨rfl, j8, v8⟩ | ⟨rfl, x8⟩)
      rotate_left
      · gi_wp2
        first | go_end0 | refine bodyPost_ret (results_none rfl _ _ _) rfl ?_
        exact ⟨⟨_, rfl⟩, .inr ⟨_, x8⟩⟩
      have E8 := Lib.hid (HV.out.trans (E7.out.trans v8))
      have HJ8 := Lib.hid j8
      clear u0 u1 u2 u3 u4 u5 u6 hy HHR v8 j8
      gi_wp2
      go_roundw
      case rel => exact ⟨k + 1, q ++ [⟨_, HMU.out⟩] ++ [⟨_, HMD.out⟩], by omega, by go_num, Lib.hid (by rw [HQS.out, List.map_append, List.map_append, HQ.out]; simp), by simpa [List.append_assoc] using HJ8.out, E8.out⟩
      case measure => simp [intOf]; omega
    · obtain rfl : k = s.ties.length := by omega
      clear HA
      gi_wp2
      first | go_end0 | refine bodyPost_ret (results_none rfl _ _ _) rfl ?_
      exact ⟨⟨_, rfl⟩, .inl ⟨q, HQ.out, HJ2.out, E1.out.trans HV.out⟩⟩
theorem bnds_split (s : Sy) : bnds s = slipsL s s.tracks.length ++ stepsL s s.tracks.length ++ tiesL s s.ties.length := rfl
set_option maxRecDepth 100000 in
set_option maxHeartbeats 2000000 in
theorem ck_bounds1 (hS : Sft n0 wf Safe) (s : Sy) (hs : Ok s) (l : Nat) (J Jx : List (BdOf s) → World → Prop) (hY : RoundsB n0 wf Safe s l J Jx) (hJ : AbB J) (A D : Option Addr) (c d Bs : Nat) (W w0 : World)
    (hn0 : w0.heap.size = n0) (hB : Below n0 w0 W) (hw : wf W) (hM : SysM w0 A D s) (hbeg : BegA w0) (h0 : J [] W) (hR : SRow Safe W Bs 25 [.slice A s.tracks.length c, .slice D s.ties.length d, .int .i64 s.window]) (n : Nat) :
    CallsIn Fence.wide n Tryd.prog 113 #[.func (.yield l) #[] #[], .pointer (some ⟨Bs, 0, none⟩)] W fun e W' => (∃ v, e = .returned v) ∧
      ((∃ ys : List (BdOf s), ys.map (·.1) = bnds s ∧ J ys W') ∨ (∃ q : List (BdOf s), True ∧ Jx q W')) := by
  have hlb : (bnds s).length = (slipsL s s.tracks.length).length + (stepsL s s.tracks.length).length + (tiesL s s.ties.length).length := by rw [bnds_split]; simp; omega
  have H1 := Lib.hid (fun n' => ck_slips hS s hs l J Jx hY hJ A D c s.ties.length d s.window [] W w0 hn0 hB hw hM.1 hbeg h0 (by rw [hlb]; simp; omega) n')
  have H2 : Hid (∀ n' W' q, Ev n0 wf Safe W W' → q.map (·.1) = slipsL s s.tracks.length → J q W' → _) := Lib.hid (fun n' W' q hv hq hj => ck_steps hS s hs l J Jx hY hJ A D c s.ties.length d s.window q W' w0 hn0 (hB.trans hv.1) (hv.2 hw).1 hM.1 hj (by have := congrArg List.length hq; rw [List.length_map] at this; rw [hlb]; omega) n')
  have H3 : Hid (∀ n' W' q, Ev n0 wf Safe W W' → q.map (·.1) = slipsL s s.tracks.length ++ stepsL s s.tracks.length → J q W' → _) := Lib.hid (fun n' W' q hv hq hj => ck_ties hS s hs l J Jx hY hJ A D c s.tracks.length d q W' w0 hn0 (hB.trans hv.1) (hv.2 hw).1 hM.2 hj (by have := congrArg List.length hq; rw [List.length_map, List.length_append] at this; rw [hlb]; omega) n')
  have HRR : Hid (∀ W', Ev n0 wf Safe W W' → SRow Safe W' Bs 25 [.slice A s.tracks.length c, .slice D s.ties.length d, .int .i64 s.window]) := Lib.hid (fun W' hv => hR.keep hw hv)
  have hdd : ∀ k : Nat, (Fence.wide.depth.isSome = true → 1 ≤ k) := fun k h => by cases h
  have hT1 : Fence.wide.fn 114 := trivial
  have hT2 : Fence.wide.fn 115 := trivial
  have hT3 : Fence.wide.fn 116 := trivial
  have c0 := hR.cell (i := 0) rfl
  have c1 := hR.cell (i := 1) rfl
  have c2 := hR.cell (i := 2) rfl
  clear hY hJ hB hM hbeg h0 hR hlb
  refine callsIn_of_wp Tryd.func113 rfl trivial ?_ rfl
  simp only [Tryd.ntmps113, List.size_toArray, List.length_cons, List.length_nil, Nat.reduceAdd, Nat.reduceSub, Array.replicate_succ, Array.replicate_zero, List.push_toArray, List.append_toArray, List.nil_append, List.cons_append]
  gi_wp2_with fail
  try refine ⟨hdd _, ?_⟩
  refine (H1.out _).mono ?_
  rintro e W1 (⟨rfl, q1, hq1, j1, v1⟩ | ⟨rfl, q1, x1⟩)
  rotate_left
  · gi_wp2_with fail
    try refine ⟨fun _ h => (by cases h), ?_⟩
    gi_wp2_with fail
    first | go_end0 | refine bodyPost_ret (results_none rfl _ _ _) rfl ?_
    exact ⟨⟨_, rfl⟩, .inr ⟨_, trivial, x1⟩⟩
  have V1 := Lib.hid v1
  have Q1 := Lib.hid hq1
  have J1 := Lib.hid j1
  have R1 := HRR.out _ v1
  clear c0 c1 c2 v1 hq1 j1
  have c0 := R1.cell (i := 0) rfl
  have c1 := R1.cell (i := 1) rfl
  have c2 := R1.cell (i := 2) rfl
  clear R1
  gi_wp2_with fail
  try refine ⟨hdd _, ?_⟩
  refine (H2.out _ W1 q1 V1.out Q1.out J1.out).mono ?_
  rintro e W2 (⟨rfl, q2, hq2, j2, v2⟩ | ⟨rfl, q2, x2⟩)
  rotate_left
  · gi_wp2_with fail
    first | go_end0 | refine bodyPost_ret (results_none rfl _ _ _) rfl ?_
    exact ⟨⟨_, rfl⟩, .inr ⟨_, trivial, x2⟩⟩
  have V2 := Lib.hid (V1.out.trans v2)
  have Q2 : Hid ((q1 ++ q2).map (·.1) = slipsL s s.tracks.length ++ stepsL s s.tracks.length) := Lib.hid (by rw [List.map_append, Q1.out, hq2])
  have J2 := Lib.hid j2
  have R1 := HRR.out _ V2.out
  clear c0 c1 c2 v2 hq2 j2
  have c0 := R1.cell (i := 0) rfl
  have c1 := R1.cell (i := 1) rfl
  have c2 := R1.cell (i := 2) rfl
  clear R1
  gi_wp2_with fail
  try refine ⟨hdd _, ?_⟩
  refine (H3.out _ W2 (q1 ++ q2) V2.out Q2.out J2.out).mono ?_
  rintro e W3 ⟨⟨v, rfl⟩, (⟨q3, hq3, j3, v3⟩ | ⟨q3, x3⟩)⟩
  · gi_wp2_with fail
    first | go_end0 | refine bodyPost_ret (results_none rfl _ _ _) rfl ?_
    exact ⟨⟨_, rfl⟩, .inl ⟨_, by rw [List.map_append, Q2.out, hq3, bnds_split], j3⟩⟩
  · gi_wp2_with fail
    first | go_end0 | refine bodyPost_ret (results_none rfl _ _ _) rfl ?_
    exact ⟨⟨_, rfl⟩, .inr ⟨_, trivial, x3⟩⟩
/-- bounds(s): the system is boxed; the function value captures the box. -/
theorem ck_bounds (v0 v1 v2 : Value) (n : Nat) (w : World) :
    CallsIn Fence.wide n Tryd.prog 69 #[.agg #[v0, v1, v2]] w fun e w' => e = .returned (.func (.func 113) #[] #[.pointer (some ⟨w.heap.size, 0, none⟩)]) ∧ w' = w.alloc (.cells #[v0, v1, v2] 25) := by
  refine callsIn_of_wp Tryd.func69 rfl trivial ?_ rfl
  simp only [Tryd.ntmps69, List.size_toArray, List.length_cons, List.length_nil, Nat.reduceAdd, Nat.reduceSub, Array.replicate_succ, Array.replicate_zero, List.push_toArray, List.append_toArray, List.nil_append, List.cons_append]
  gi_wp2
  go_ret
  exact ⟨rfl, rfl⟩
/-- **The iterator: all bounds, in order.** -/
theorem bounds_stops (hS : Sft n0 wf Safe) (s : Sy) (hs : Ok s) (A D : Option Addr) (c d Bs : Nat) (w w0 : World) (hn0 : w0.heap.size = n0) (hB : Below n0 w0 w) (hw : wf w) (hM : SysM w0 A D s) (hbeg : BegA w0)
    (hR : SRow Safe w Bs 25 [.slice A s.tracks.length c, .slice D s.ties.length d, .int .i64 s.window]) (n : Nat) :
    SeqStopsK Fence.wide n Tryd.prog 113 #[.pointer (some ⟨Bs, 0, none⟩)] (fun x : BdOf s => #[bdV x.1]) (Ev n0 wf Safe) (fun ys => ys.map (·.1) = bnds s) (fun _ => True) (bnds s).length w := fun l J Jx W hW hJ _ hY h0 => by
  have hk : New w W := hW
  have hnw : n0 ≤ w.heap.size := by have := hB.size; omega
  have hv := Ev.new hS hnw hk
  exact ck_bounds1 hS s hs l J Jx (fun m pre x W1 hj hl => YieldAt.anyDepth rfl m (hY pre x W1 hj hl)) (fun pre W1 W2 hj hn => hJ pre W1 W2 none hj (grown_of hn none) (fun r e => by cases e)) A D c d Bs W w0 hn0 (hB.trans hv.1) (hv.2 hw).1 hM hbeg h0 (hR.keep hw hv) n
end Go.Proofs.YtodmbcoobjcooaaDoor
