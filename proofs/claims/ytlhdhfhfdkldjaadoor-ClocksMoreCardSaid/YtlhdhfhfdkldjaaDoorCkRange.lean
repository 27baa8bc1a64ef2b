/-
  A range over a function whose one variable lies in a block of its own in each round: what the loop owes. No condition.
-/
import Derived.Test.YtlhdhfhfdkldjaaDoorCkNet
namespace Go.Proofs.YtlhdhfhfdkldjaaDoor
open Go Go.RowKit Go.Shelf
theorem rowIs_own {β : Type} (B g : Nat) (e : TypeId) (cs : List Value) : OwnFrom B (fun (_ : β) W => RowIs W g e cs) := fun _ X Y row hs hg hr =>
  hs.grown hg (fun e1 => by
    obtain ⟨_, o, ho, hc⟩ := hr g e1
    unfold RowIs at hs
    rw [hs] at ho
    cases ho
    cases hc)
theorem owns_own {X Y : World} {B b : Nat} {e : TypeId} {size : Nat} {v : Value} {n : Nat} {xs : List Value} {row : Option Nat} (h : X.ownsRow b e size v n xs) (hg : X.grownBy Y row) (hr : ∀ r, row = some r → B ≤ r ∧ ∃ o : Obj, X.heap[r]? = some o ∧ o.isCells = false) : Y.ownsRow b e size v n xs :=
  h.kept hg (by
    rcases h.2 with ⟨rfl, _⟩ | ⟨g, cap, cur, rfl, _, hgb, _⟩
    · exact .inl rfl
    · refine .inr fun e' => ?_
      obtain ⟨_, o, ho, hc⟩ := hr g (by simpa [Value.ownBlock] using e'.symm)
      rw [hgb] at ho
      cases ho
      cases hc)
/-- The act in a round: the variable's block in its slot. -/
def actB (a : Act) (pv bx Bx : Nat) (v : Value) : Act := { tmps := (a.tmps.setIfInBounds pv v).setIfInBounds bx (.pointer (some ⟨Bx, 0, none⟩)), defers := [] }
theorem range_box {F : Fence} {n : Nat} {P : Program} {α : Type} {g : Operand} {ps : Array Tmp} {assign body : Code} {Q : Exit → Act → World → Prop} {a : Act} {w : World} (pv bx : Nat) (t : TypeId) (v : α → Value) (cs : α → List Value)
    (hro : F.round = none) (h1 : 1 ≤ n) {gf : Nat} {lb : Array Value} (hg : a.eval g = .func (.func gf) #[] lb) (hFg : F.fn gf) (eg : ∀ args w, (callFunc gf args).run P w = .ok (.enter gf args) w)
    {encs : α → Array Value} {Kp : World → World → Prop} {S Sp : List α → Prop} {N : Nat} {w0 : World} (hseq : SeqStopsK F (n - 1) P gf lb encs Kp S Sp N w0)
    (hKt : ∀ {A B C : World}, Kp A B → Kp B C → Kp A C) (hKb : ∀ (W : World) (l : Nat) (o o' : Obj), w.heap.size ≤ l → W.heap[l]? = some o → o.isCells = false → o.isWalk = false → Kp W (W.putObj l o')) (hb0 : Below w0.heap.size w0 w) (hps : ∀ x, (encs x).size = ps.size)
    (I : List α → World → Prop) (Ix : Code → List α → World → Prop) (hI : OwnFrom w.heap.size I) (hIx : ∀ c, OwnFrom w.heap.size (Ix c)) (h0 : I [] w)
    (hassign : ∀ (l : Nat) (pre : List α) (x : α) (W : World) (K : Act → World → Prop), I pre W → (∀ Bx W', KeepsFrom w.heap.size W W' → Kp W W' → I pre W' → w.heap.size ≤ Bx → RowIs W' Bx t (cs x) → K (actB a pv bx Bx (v x)) W') →
      assign.wpIn (F.inRound l) (n - 1 - 1) P (Exit.then K (fun _ _ _ => False)) { tmps := (ps.zip (encs x)).foldl (fun t (p, v) => t.setIfInBounds p v) a.tmps, defers := [] } W)
    (hbody : ∀ (l : Nat) (pre : List α) (x : α) (Bx : Nat) (W : World), I pre W → w.heap.size ≤ Bx → RowIs W Bx t (cs x) → pre.length < N → body.wpIn (F.inRound l) (n - 1 - 1) P (ownPostG w.heap.size Kp I Ix (pre ++ [x]) W) (actB a pv bx Bx (v x)) W)
    (hdone : ∀ (D : Nat) (xs : List α) (W : World), w.heap.size ≤ D → S xs → I xs W → W.heap[D]? = some (.deferred (some [])) → Q .normal { a with defers := { target := .collected D, args := #[] } :: a.defers } W)
    (hstop : ∀ (D : Nat) (c : Code) (pre : List α) (W : World), w.heap.size ≤ D → Sp pre → Ix c pre W → W.heap[D]? = some (.deferred (some [])) → c.wpIn F n P Q { a with defers := { target := .collected D, args := #[] } :: a.defers } W) :
    (Code.rangeFunc g ps assign body).wpIn F n P Q a w :=
  wpIn_rangeFunc_ownH hro h1 hg hFg eg hseq (fun h k => hKt h k) hKb hb0 hps I Ix hI hIx h0 (fun x a' W => ∃ Bx, w.heap.size ≤ Bx ∧ RowIs W Bx t (cs x) ∧ a' = actB a pv bx Bx (v x))
    (fun x a' _ X Y row hs hgr hr => by
      obtain ⟨Bx, h1, h2, h3⟩ := hs
      exact ⟨Bx, h1, rowIs_own w.heap.size Bx t (cs x) () X Y row h2 hgr hr, h3⟩)
    (fun l pre x W K hi hK => hassign l pre x W K hi (fun Bx W' k1 k2 k3 k4 k5 => hK _ W' k1 k2 k3 ⟨Bx, k4, k5, rfl⟩))
    (fun l pre x a' W _ _ hi hx hlen => by
      obtain ⟨Bx, h1, h2, rfl⟩ := hx
      exact hbody l pre x Bx W hi h1 h2 hlen)
    hdone hstop
/-- A turn of a block that is no cells leaves all safe blocks. -/
theorem evS_put {n0 p o B : Nat} {W : World} {l : Nat} {ob ob' : Obj} (hB : B ≤ l) (hn : n0 ≤ B) (hp : p < B) (hl : W.heap[l]? = some ob) (hc : ob.isCells = false) : Ev n0 (wfS p o) (SafeS p o) W (W.putObj l ob') := by
  have hlt := (Array.getElem?_eq_some_iff.1 hl).1
  have hcell : (W.putObj l ob').cell? ⟨p, o, none⟩ = W.cell? ⟨p, o, none⟩ := World.cell?_of_block (World.putObj_heap_other (by show p ≠ l; omega))
  have hsz : (W.putObj l ob').heap.size = W.heap.size := by simp
  refine ⟨(Below.refl n0 W).grown (grownBy_putObj' W l ob') (by have := hlt; omega) (fun k e => by cases e; omega), fun hw => ⟨⟨by rw [hsz]; exact hw.1, fun v k hv hk => by rw [hcell] at hv; rw [hsz]; exact hw.2 v k hv hk⟩, fun k hk => ?_⟩⟩
  obtain ⟨⟨c, e, f, h1⟩, h2, h3⟩ := hk
  have hkl : k ≠ l := fun e => by subst e; rw [h1] at hl; cases hl; cases hc
  have h4 : (W.putObj l ob').heap[k]? = W.heap[k]? := World.putObj_heap_other hkl
  exact ⟨⟨⟨c, e, f, h4.trans h1⟩, h2, fun v hv => by rw [hcell] at hv; exact h3 v hv⟩, h4⟩
/-- The same, where the loop's body writes no cells. -/
theorem evC_put {n0 B : Nat} {W : World} {l : Nat} {ob ob' : Obj} (hB : B ≤ l) (hn : n0 ≤ B) (hl : W.heap[l]? = some ob) (hc : ob.isCells = false) : Ev n0 wfC SafeC W (W.putObj l ob') := by
  have hlt := (Array.getElem?_eq_some_iff.1 hl).1
  refine ⟨(Below.refl n0 W).grown (grownBy_putObj' W l ob') (by omega) (fun k e => by cases e; omega), fun _ => ⟨trivial, fun k hk => ?_⟩⟩
  obtain ⟨c, e, f, h1⟩ := hk
  have hkl : k ≠ l := fun e => by subst e; rw [h1] at hl; cases hl; cases hc
  have h4 : (W.putObj l ob').heap[k]? = W.heap[k]? := World.putObj_heap_other hkl
  exact ⟨⟨c, e, f, h4.trans h1⟩, h4⟩
/-- An append to the slice of a block's cell, and its store there, as the iterator sees it. -/
theorem evS_push {n0 p o : Nat} {W w1 : World} {e : TypeId} {size n n' cap : Nat} {v : Value} {xs xs' : List Value} {tN : TypeId} {cs : List Value} {g : Nat} {W1 : World} (k : New W W1) (hv : W1.ownsRow n0 e size v n xs) (hg : W1.grownBy w1 v.ownBlock) (ho : w1.ownsRow n0 e size (.slice (some ⟨g, 0, none⟩) n' cap) n' xs') (hB : RowIs W p tN cs) (hi : cs[o]? = some v) (hne : e ≠ tN) (hat : v.ownBlock = some g ∨ W.heap.size ≤ g) (hn : n0 ≤ W.heap.size) (hp : n0 ≤ p) :
    Ev n0 (wfS p o) (SafeS p o) W (w1.setCell ⟨p, o, none⟩ (.slice (some ⟨g, 0, none⟩) n' cap)) := by
  have hpl := hB.lt
  have hB1 := hB.keep k
  obtain ⟨a1, a2, a3, _, _⟩ := push_all o hv hg ho hB1 hne
  have hsz1 : W.heap.size ≤ w1.heap.size := Nat.le_trans k.size hg.size
  have hsz : (w1.setCell ⟨p, o, none⟩ (.slice (some ⟨g, 0, none⟩) n' cap)).heap.size = w1.heap.size := by simp [World.setCell]
  have hol : o < cs.length := (List.getElem?_eq_some_iff.1 hi).1
  have hnew : (w1.setCell ⟨p, o, none⟩ (.slice (some ⟨g, 0, none⟩) n' cap)).cell? ⟨p, o, none⟩ = some (.slice (some ⟨g, 0, none⟩) n' cap) := a2.cell (by rw [List.getElem?_set_self hol])
  have hgl : g < w1.heap.size := by
    rcases ho.2 with ⟨h1, _⟩ | ⟨g', cap', cur, h1, _, hh, _⟩
    · cases h1
    · simp only [Value.slice.injEq, Option.some.injEq, Addr.mk.injEq] at h1
      obtain ⟨⟨rfl, _⟩, _⟩ := h1
      exact (Array.getElem?_eq_some_iff.1 hh).1
  have hb1 : Below n0 W w1 := Below.trans (Below.mono k hn) (grown_below hv hg (Nat.le_trans hn k.size))
  refine ⟨Below.setCell hb1 (p := ⟨p, o, none⟩) hp _, fun hw => ⟨⟨by rw [hsz]; omega, fun u q hu hq => ?_⟩, fun q hq => ?_⟩⟩
  · rw [hnew] at hu
    obtain rfl := Option.some.inj hu
    obtain rfl : g = q := by simpa [Value.ownBlock] using hq
    rw [hsz]; exact hgl
  · obtain ⟨⟨c, e1, f, h1⟩, h2, h3⟩ := hq
    have hql := (Array.getElem?_eq_some_iff.1 h1).1
    have h4 : W1.heap[q]? = W.heap[q]? := k.out.block q hql
    have h5 : w1.heap[q]? = W1.heap[q]? := hg.block q (by have := k.size; omega) (fun e2 => h3 v (hB.cell hi) e2.symm)
    have h6 : (w1.setCell ⟨p, o, none⟩ (.slice (some ⟨g, 0, none⟩) n' cap)).heap[q]? = w1.heap[q]? := Below.heap_setCell w1 ⟨p, o, none⟩ _ q (fun e2 => h2 (by rw [e2]))
    refine ⟨⟨⟨c, e1, f, (h6.trans (h5.trans h4)).trans h1⟩, h2, fun u hu hq2 => ?_⟩, h6.trans (h5.trans h4)⟩
    rw [hnew] at hu
    obtain rfl := Option.some.inj hu
    obtain rfl : g = q := by simpa [Value.ownBlock] using hq2
    rcases hat with hat | hat
    · exact h3 v (hB.cell hi) hat
    · omega
end Go.Proofs.YtlhdhfhfdkldjaaDoor
