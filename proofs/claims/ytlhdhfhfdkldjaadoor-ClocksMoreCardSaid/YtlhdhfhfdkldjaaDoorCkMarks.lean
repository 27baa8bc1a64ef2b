/-
  A function that ranges over a function again and again leaves with one mark for each time: what is left to show. And a range over a function with two loop variables. No condition.
-/
import Derived.Test.YtlhdhfhfdkldjaaDoorCkBack
namespace Go.Proofs.YtlhdhfhfdkldjaaDoor
open Go Go.RowKit Go.Shelf
/-- The marks of the loops that a call has been through. -/
def marks (Ds : List Nat) : List Deferred := Ds.map fun D => { target := .collected D, args := #[] }
/-- Their blocks are shut, one after the other. -/
inductive Shuts : List Nat → World → World → Prop
  | nil (w : World) : Shuts [] w w
  | cons {D : Nat} {Ds : List Nat} {w w' : World} : Shuts Ds (w.putObj D (.deferred none)) w' → Shuts (D :: Ds) w w'
theorem leaves_marks {F : Fence} {n : Nat} {P : Program} {fn : Func} {tmps : Array Value} {R : Ending → World → Prop} : ∀ (Ds : List Nat) (w : World), (∀ D ∈ Ds, w.heap[D]? = some (.deferred (some []))) → Ds.Nodup →
    (∀ w', Shuts Ds w w' → LeavesIn F n P fn tmps R [] .returning w') → LeavesInM F n P fn tmps R (marks Ds) .returning w
  | [], w, _, _, h => h w (.nil w)
  | D :: Ds, w, hD, hnd, h => by
    refine ⟨by simp, .inl ⟨D, _, rfl, run_takeDeferred (hD D (List.mem_cons_self ..)), ?_⟩⟩
    refine leaves_marks Ds _ (fun D' hm => ?_) (List.nodup_cons.1 hnd).2 (fun w' hs => h w' (.cons hs))
    have hne : D' ≠ D := fun e => (List.nodup_cons.1 hnd).1 (e ▸ hm)
    exact (World.putObj_heap_other hne).trans (hD D' (List.mem_cons_of_mem _ hm))
theorem Shuts.keep {Ds : List Nat} {w w' : World} (h : Shuts Ds w w') : (∀ D ∈ Ds, w.heap[D]? = some (.deferred (some []))) → Ds.Nodup → Below 0 w w' ∧ ∀ k, k ∉ Ds → w'.heap[k]? = w.heap[k]? := by
  induction h with
  | nil w => exact fun _ _ => ⟨Below.refl _ _, fun _ _ => rfl⟩
  | @cons D Ds w w' _ ih =>
    intro hD hnd
    obtain ⟨h1, h2⟩ := ih (fun D' hm => by
      have hne : D' ≠ D := fun e => (List.nodup_cons.1 hnd).1 (e ▸ hm)
      exact (World.putObj_heap_other hne).trans (hD D' (List.mem_cons_of_mem _ hm))) (List.nodup_cons.1 hnd).2
    refine ⟨(((Below.refl 0 w).grown (grownBy_putObj' w D _) (Nat.zero_le _) (fun _ _ => Nat.zero_le _))).trans h1, fun k hk => ?_⟩
    rw [List.mem_cons, not_or] at hk
    exact (h2 k hk.2).trans (World.putObj_heap_other hk.1)
/-- The act in a round of a loop with two variables, the first of which is copied. -/
def actT (a : Act) (p1 p2 q : Nat) (v1 v2 : Value) : Act := { tmps := ((a.tmps.setIfInBounds p1 v1).setIfInBounds p2 v2).setIfInBounds q v1, defers := [] }
theorem range_two {F : Fence} {n : Nat} {P : Program} {α : Type} {g : Operand} {ps : Array Tmp} {assign body : Code} {Q : Exit → Act → World → Prop} {a : Act} {w : World} (p1 p2 q : Nat) (v1 v2 : α → Value)
    (hro : F.round = none) (h1 : 1 ≤ n) {gf : Nat} {lb : Array Value} (hg : a.eval g = .func (.func gf) #[] lb) (hFg : F.fn gf) (eg : ∀ args w, (callFunc gf args).run P w = .ok (.enter gf args) w)
    {encs : α → Array Value} {Kp : World → World → Prop} {S Sp : List α → Prop} {N : Nat} {w0 : World} (hseq : SeqStopsK F (n - 1) P gf lb encs Kp S Sp N w0)
    (hKt : ∀ {A B C : World}, Kp A B → Kp B C → Kp A C) (hKb : ∀ (W : World) (l : Nat) (o o' : Obj), w.heap.size ≤ l → W.heap[l]? = some o → o.isCells = false → o.isWalk = false → Kp W (W.putObj l o')) (hb0 : Below w0.heap.size w0 w) (hps : ∀ x, (encs x).size = ps.size)
    (I : List α → World → Prop) (Ix : Code → List α → World → Prop) (hI : OwnFrom w.heap.size I) (hIx : ∀ c, OwnFrom w.heap.size (Ix c)) (h0 : I [] w)
    (hassign : ∀ (l : Nat) (x : α) (W : World) (K : Act → World → Prop), K (actT a p1 p2 q (v1 x) (v2 x)) W → assign.wpIn (F.inRound l) (n - 1 - 1) P (Exit.then K (fun _ _ _ => False)) { tmps := (ps.zip (encs x)).foldl (fun t (p, v) => t.setIfInBounds p v) a.tmps, defers := [] } W)
    (hbody : ∀ (l : Nat) (pre : List α) (x : α) (W : World), I pre W → pre.length < N → body.wpIn (F.inRound l) (n - 1 - 1) P (ownPostG w.heap.size Kp I Ix (pre ++ [x]) W) (actT a p1 p2 q (v1 x) (v2 x)) W)
    (hdone : ∀ (D : Nat) (xs : List α) (W : World), w.heap.size ≤ D → S xs → I xs W → W.heap[D]? = some (.deferred (some [])) → Q .normal { a with defers := { target := .collected D, args := #[] } :: a.defers } W)
    (hstop : ∀ (D : Nat) (c : Code) (pre : List α) (W : World), w.heap.size ≤ D → Sp pre → Ix c pre W → W.heap[D]? = some (.deferred (some [])) → c.wpIn F n P Q { a with defers := { target := .collected D, args := #[] } :: a.defers } W) :
    (Code.rangeFunc g ps assign body).wpIn F n P Q a w :=
  wpIn_rangeFunc_ownG hro h1 hg hFg eg hseq (fun h k => hKt h k) hKb hb0 hps I Ix hI hIx h0 (fun x => actT a p1 p2 q (v1 x) (v2 x)) hassign hbody hdone hstop
theorem array41 {α : Type} {cs : Array α} (h : cs.size = 41) : ∃ c0 c1 c2 c3 c4 c5 c6 c7 c8 c9 c10 c11 c12 c13 c14 c15 c16 c17 c18 c19 c20 c21 c22 c23 c24 c25 c26 c27 c28 c29 c30 c31 c32 c33 c34 c35 c36 c37 c38 c39 c40, cs = #[c0, c1, c2, c3, c4, c5, c6, c7, c8, c9, c10, c11, c12, c13, c14, c15, c16, c17, c18, c19, c20, c21, c22, c23, c24, c25, c26, c27, c28, c29, c30, c31, c32, c33, c34, c35, c36, c37, c38, c39, c40] := by
  obtain ⟨l⟩ := cs
  simp only [List.size_toArray] at h
  rcases l with _ | ⟨c0, _ | ⟨c1, _ | ⟨c2, _ | ⟨c3, _ | ⟨c4, _ | ⟨c5, _ | ⟨c6, _ | ⟨c7, _ | ⟨c8, _ | ⟨c9, _ | ⟨c10, _ | ⟨c11, _ | ⟨c12, _ | ⟨c13, _ | ⟨c14, _ | ⟨c15, _ | ⟨c16, _ | ⟨c17, _ | ⟨c18, _ | ⟨c19, _ | ⟨c20, _ | ⟨c21, _ | ⟨c22, _ | ⟨c23, _ | ⟨c24, _ | ⟨c25, _ | ⟨c26, _ | ⟨c27, _ | ⟨c28, _ | ⟨c29, _ | ⟨c30, _ | ⟨c31, _ | ⟨c32, _ | ⟨c33, _ | ⟨c34, _ | ⟨c35, _ | ⟨c36, _ | ⟨c37, _ | ⟨c38, _ | ⟨c39, _ | ⟨c40, _ | ⟨c41, l⟩⟩⟩⟩⟩⟩⟩⟩⟩⟩⟩⟩⟩⟩⟩⟩⟩⟩⟩⟩⟩⟩⟩⟩⟩⟩⟩⟩⟩⟩⟩⟩⟩⟩⟩⟩⟩⟩⟩⟩⟩⟩ <;> simp at h
  all_goals first
    | (exact ⟨c0, c1, c2, c3, c4, c5, c6, c7, c8, c9, c10, c11, c12, c13, c14, c15, c16, c17, c18, c19, c20, c21, c22, c23, c24, c25, c26, c27, c28, c29, c30, c31, c32, c33, c34, c35, c36, c37, c38, c39, c40, rfl⟩)
    | omega
end Go.Proofs.YtlhdhfhfdkldjaaDoor
