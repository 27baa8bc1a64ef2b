/-
  What an iterator and the loop that ranges over it keep of one another's memory: 'Ev'. No condition.
-/
import Derived.Test.YtlhdhfhfdkldjaaDoorCkCheck
import Derived.RangeFuncNested
import Derived.RangeFuncBox
import Derived.RangeFuncBound
import Derived.RangeFuncCalls
import Derived.RangeFuncLeaves
import Derived.RangeFuncWrites
import Derived.Shelf.Abstract
import Derived.Shelf.RegionOpen
import Derived.OwnWalkIn
import Derived.TacticsInMore
import Derived.LoopNIn
import Derived.LoopIn
namespace Go.Proofs.YtlhdhfhfdkldjaaDoor
open Go Go.RowKit Go.Shelf
/-- From one world to a later one: what lay below n0 lies, and each block that was safe is so still, and is as it was. -/
def Ev (n0 : Nat) (wf : World → Prop) (Safe : World → Nat → Prop) (W W' : World) : Prop :=
  Below n0 W W' ∧ (wf W → wf W' ∧ ∀ k, Safe W k → Safe W' k ∧ W'.heap[k]? = W.heap[k]?)
/-- What calls that only make new blocks leave safe. -/
structure Sft (n0 : Nat) (wf : World → Prop) (Safe : World → Nat → Prop) : Prop where
  new : ∀ W W', New W W' → wf W → wf W' ∧ ∀ k, Safe W k → Safe W' k
  own : ∀ W c e, wf W → n0 ≤ W.heap.size → Safe (W.alloc (.cells c e)) W.heap.size
  lt : ∀ W k, wf W → Safe W k → k < W.heap.size
variable {n0 : Nat} {wf : World → Prop} {Safe : World → Nat → Prop}
theorem Ev.refl (W : World) : Ev n0 wf Safe W W := ⟨Below.refl _ _, fun h => ⟨h, fun _ hk => ⟨hk, rfl⟩⟩⟩
theorem Ev.trans {A B C : World} (h : Ev n0 wf Safe A B) (k : Ev n0 wf Safe B C) : Ev n0 wf Safe A C :=
  ⟨h.1.trans k.1, fun hw => by
    obtain ⟨h1, h2⟩ := h.2 hw
    obtain ⟨k1, k2⟩ := k.2 h1
    exact ⟨k1, fun j hj => ⟨(k2 j (h2 j hj).1).1, (k2 j (h2 j hj).1).2.trans (h2 j hj).2⟩⟩⟩
theorem Ev.new (hS : Sft n0 wf Safe) {W W' : World} (hn : n0 ≤ W.heap.size) (h : New W W') : Ev n0 wf Safe W W' :=
  ⟨h.mono hn, fun hw => ⟨(hS.new W W' h hw).1, fun k hk => ⟨(hS.new W W' h hw).2 k hk, h.out.block k (hS.lt W k hw hk)⟩⟩⟩
theorem Ev.size {W W' : World} (h : Ev n0 wf Safe W W') : W.heap.size ≤ W'.heap.size := h.1.size
/-- A block of one's own, safe, with its cells. -/
def SRow (Safe : World → Nat → Prop) (w : World) (g : Nat) (e : TypeId) (cs : List Value) : Prop := Safe w g ∧ RowIs w g e cs
theorem SRow.new (hS : Sft n0 wf Safe) (w : World) (hw : wf w) (hn : n0 ≤ w.heap.size) (e : TypeId) (cs : List Value) : SRow Safe (w.alloc (.cells cs.toArray e)) w.heap.size e cs := ⟨hS.own w _ e hw hn, RowIs.new w e cs⟩
theorem SRow.keep {w w' : World} {g : Nat} {e : TypeId} {cs : List Value} (h : SRow Safe w g e cs) (hw : wf w) (k : Ev n0 wf Safe w w') : SRow Safe w' g e cs :=
  ⟨((k.2 hw).2 g h.1).1, ((k.2 hw).2 g h.1).2.trans h.2⟩
theorem SRow.cell {w : World} {g : Nat} {e : TypeId} {cs : List Value} (h : SRow Safe w g e cs) {i : Nat} {v : Value} (hv : cs[i]? = some v) : w.cell? ⟨g, i, none⟩ = some v := h.2.cell hv
/-- The first consumer: it writes no cells. -/
def wfC (_ : World) : Prop := True
def SafeC (W : World) (k : Nat) : Prop := ∃ c e f, W.heap[k]? = some (.cells c e f)
theorem sftC (n0 : Nat) : Sft n0 wfC SafeC :=
  ⟨fun _ _ h _ => ⟨trivial, fun _ ⟨c', e', f', hk⟩ => ⟨c', e', f', heap_keep h hk⟩⟩, fun W c e _ _ => ⟨c, e, (0, 0), heap_alloc_new W _⟩, fun _ _ _ ⟨_, _, _, h⟩ => (Array.getElem?_eq_some_iff.1 h).1⟩
/-- The second one: it writes one block, and the slice of which a cell of it tells. -/
def wfS (p o : Nat) (W : World) : Prop := p < W.heap.size ∧ ∀ v k, W.cell? ⟨p, o, none⟩ = some v → v.ownBlock = some k → k < W.heap.size
def SafeS (p o : Nat) (W : World) (k : Nat) : Prop := (∃ c e f, W.heap[k]? = some (.cells c e f)) ∧ k ≠ p ∧ ∀ v, W.cell? ⟨p, o, none⟩ = some v → v.ownBlock ≠ some k
theorem cellS_new {W W' : World} {p o : Nat} (h : p < W.heap.size) (k : New W W') : W'.cell? ⟨p, o, none⟩ = W.cell? ⟨p, o, none⟩ := k.cell (p := ⟨p, o, none⟩) h
theorem sftS (p o : Nat) (n0 : Nat) : Sft n0 (wfS p o) (SafeS p o) :=
  ⟨fun W W' k hw => ⟨⟨Nat.lt_of_lt_of_le hw.1 k.size, fun v q hc hv => by rw [cellS_new hw.1 k] at hc; exact Nat.lt_of_lt_of_le (hw.2 v q hc hv) k.size⟩,
      fun q hq => ⟨by obtain ⟨c', e', f', h⟩ := hq.1; exact ⟨c', e', f', heap_keep k h⟩, hq.2.1, fun v hc => by rw [cellS_new hw.1 k] at hc; exact hq.2.2 v hc⟩⟩,
   fun W c e hw _ => ⟨⟨c, e, (0, 0), heap_alloc_new W _⟩, by have := hw.1; omega, fun v hc hv => by rw [cellS_new hw.1 ((New.refl W).alloc _)] at hc; have := hw.2 v _ hc hv; omega⟩,
   fun _ _ _ ⟨⟨_, _, _, h⟩, _⟩ => (Array.getElem?_eq_some_iff.1 h).1⟩
theorem room_of_none {F : Fence} (hd : F.depth = none) (k : Nat) : F.room k := fun d h => by rw [hd] at h; cases h
theorem RoundIn.anyDepth {F : Fence} (hd : F.depth = none) {m m' : Nat} {P : Program} {l : Nat} {f : FuncId} {tmps : Array Value} {assign body : Code} {w : World} {R : Ending → World → Prop}
    (h : RoundIn F m P l f tmps assign body w R) : RoundIn F m' P l f tmps assign body w R := ⟨h.1, fun c cs _ => h.2 c cs (room_of_none hd _)⟩
theorem YieldAt.anyDepth {F : Fence} (hd : F.depth = none) {m : Nat} (m' : Nat) {P : Program} {l : Nat} {args : Array Value} {W : World} {R : Ending → World → Prop} (h : YieldAt F m P l args W R) : YieldAt F m' P l args W R := by
  obtain ⟨fn, tmps, assign, body, hy, hR⟩ := h
  exact ⟨fn, tmps, assign, body, hy, RoundIn.anyDepth hd hR⟩
/-- A bound, as a value. -/
def bdV (b : Bd) : Value := .agg #[.int .i64 b.frm.log, .int .i64 b.frm.line, .int .i64 b.to.log, .int .i64 b.to.line, .int .i64 b.most, .int .i64 b.kind, .int .i64 b.id]
/-- A bound of a system. -/
abbrev BdOf (s : Sy) := { b : Bd // b ∈ bnds s }
/-- What the caller's round does. -/
def RoundsB (n0 : Nat) (wf : World → Prop) (Safe : World → Nat → Prop) (s : Sy) (l : Nat) (J Jx : List (BdOf s) → World → Prop) : Prop :=
  ∀ m pre x W, J pre W → pre.length < (bnds s).length → YieldAt Fence.wide m Tryd.prog l #[bdV x.1] W fun e W' =>
      (e = .returned (.bool true) ∧ J (pre ++ [x]) W' ∧ Ev n0 wf Safe W W') ∨ (e = .returned (.bool false) ∧ Jx (pre ++ [x]) W')
/-- The loop's word abides new blocks and draws. -/
def AbB {s : Sy} (J : List (BdOf s) → World → Prop) : Prop := ∀ pre W W', J pre W → New W W' → J pre W'
-- where the bounds stand in their list
theorem mem_fm {α : Type} {f : Nat → List α} {n k : Nat} {x : α} (hk : k < n) (hx : x ∈ f k) : x ∈ (List.range n).flatMap f := List.mem_flatMap.2 ⟨k, List.mem_range.2 hk, hx⟩
theorem mem_slip {s : Sy} {i j : Nat} (hi : i < s.tracks.length) (hj : j < (tkAt s i).times.length) {b : Bd} (hb : b = upB i (tkAt s i) j ∨ b = downB i (tkAt s i) j) : b ∈ bnds s := by
  have h1 : b ∈ slipsL s s.tracks.length := mem_fm hi (mem_fm hj (by rcases hb with rfl | rfl <;> simp))
  unfold bnds
  simp [h1]
theorem mem_step {s : Sy} {i j : Nat} (hi : i < s.tracks.length) (hj : j < (tkAt s i).times.length - 1) {b : Bd} (hb : b ∈ stepL i (tkAt s i) j) : b ∈ bnds s := by
  have h1 : b ∈ stepsL s s.tracks.length := mem_fm hi (mem_fm hj hb)
  unfold bnds
  simp [h1]
theorem mem_tie {s : Sy} {i : Nat} (hi : i < s.ties.length) {b : Bd} (hb : b = thereB s i ∨ b = backB s i) : b ∈ bnds s := by
  have h1 : b ∈ tiesL s s.ties.length := mem_fm hi (by rcases hb with rfl | rfl <;> simp)
  unfold bnds
  simp [h1]
theorem fm_len_le {α : Type} (f : Nat → List α) {k n : Nat} (h : k ≤ n) : ((List.range k).flatMap f).length ≤ ((List.range n).flatMap f).length := by
  induction h with
  | refl => exact Nat.le_refl _
  | step _ ih => rw [fm_snoc, List.length_append]; omega
end Go.Proofs.YtlhdhfhfdkldjaaDoor
