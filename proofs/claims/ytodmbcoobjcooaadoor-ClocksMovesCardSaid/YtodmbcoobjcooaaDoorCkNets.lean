/-
  A region that draws its order in a round of a loop over an iterator: its last operation waits for all others (a store at the end of an assignment): the others in whatever order, then the last one. No condition but that no operation is guarded.
  Nets in memory, and place of the program. Condition: the net lies in memory.
  A range over a function whose one variable lies in a block of its own in each round: what the loop owes. No condition.
-/
import Derived.Test.YtodmbcoobjcooaaDoorCkIter
import Derived.Test.YtodmbcoobjcooaaDoorRegion
import Derived.StillTail
import Derived.Deep.QuietTactic
import Derived.RegionIn
import Derived.Deep.AppendLies
import Derived.Deep.Upon
namespace Go.Proofs.YtodmbcoobjcooaaDoor
open Go Go.RowKit
/-- The way out of a region that ends as it should. -/
def NormQ (R : Act → World → Prop) : Exit → Act → World → Prop
  | .normal, a, w => R a w
  | _, _, _ => False
theorem upon_in {l n : Nat} {P : Program} {o : Oper} {a : Act} {next next' : Act → World → Prop} {R : Act → World → Prop} {Q : Exit → Act → World → Prop} (hn : ∀ a w, next a w → next' a w) (r : Result Next)
    (h : o.upon P a next (NormQ R) r) : o.uponIn (Fence.wide.inRound l) n P a next' Q r := by
  match r, h with
  | .ok (.value v) w', h => exact hn _ _ h
  | .ok .skip w', h => exact hn _ _ h
  | .ok (.defer d) w', h => exact hn _ _ h
  | .ok (.enter f args) w', h =>
    refine ⟨(fun hd => by cases hd), CallsIn.inRound l (callsIn_wide.2 (Calls.mono h ?_))⟩
    rintro (v | chain | _) w'' h2
    · exact hn _ _ h2
    · exact h2.elim
    · obtain ⟨_, _, h3⟩ := h2
      exact h3.elim
  | .ok (.row row args) w', h =>
    refine ⟨(fun hd => by cases hd), fun c cs _ => ?_⟩
    obtain ⟨v, w'', h2, s⟩ := h c cs
    exact ⟨v, w'', hn _ _ h2, stepsIn_wide.2 s⟩
  | .halt (.panic v) w', h => exact (show False from h).elim
theorem wpAny_in {l n : Nat} {P : Program} {md : Region.Mode} {ops : Array Oper} {R : Act → World → Prop} {Q : Exit → Act → World → Prop} (hops : ∀ (i : Nat) (o : Oper), ops[i]? = some o → ∀ c : Call, o.op ≠ Op.defer c) (hR : ∀ a w, R a w → Q .normal a w) :
    ∀ (fuel : Nat) (listed : Array Bool) (a : Act) (w : World), wpAny P md ops (NormQ R) fuel listed a w → wpAnyIn (Fence.wide.inRound l) n P md ops Q fuel listed a w := by
  intro fuel
  induction fuel with
  | zero => exact fun listed a w h => ⟨h.1, hR _ _ h.2⟩
  | succ fuel ih =>
    intro listed a w h
    refine ⟨fun h0 => hR _ _ (h.1 h0), fun i hi => ?_⟩
    have h2 := h.2 i hi
    unfold wpOp at h2
    unfold wpOpIn
    cases ho : ops[i]? with
    | none => rw [ho] at h2; exact ih _ _ _ h2
    | some o =>
      rw [ho] at h2
      simp only at h2 ⊢
      split
      · rename_i hw
        rw [if_pos hw] at h2
        rcases h2 with h2 | ⟨_, h2⟩
        · refine ⟨fun _ _ => trivial, ?_⟩
          rw [show o.semAt (Fence.wide.inRound l).round a.eval = execOp a.eval o from Oper.semAt_plain _ _ _ (hops i o ho)]
          exact upon_in (fun a' w' h3 => ih _ _ _ h3) _ h2
        · obtain ⟨_, _, h3⟩ := h2
          exact h3.elim
      · rename_i hw
        rw [if_neg hw] at h2
        exact ⟨fun _ _ => trivial, ih _ _ _ h2⟩
theorem region_round {l n : Nat} {P : Program} {id : Nat} {ops : Array Oper} {Q : Exit → Act → World → Prop} {a : Act} {w : World} (R : Act → World → Prop) (hm : P.follows .mixedOrders = true) (hops : ∀ (i : Nat) (o : Oper), ops[i]? = some o → ∀ c : Call, o.op ≠ Op.defer c)
    (h : wpAny P .any ops (NormQ R) ops.size (Array.replicate ops.size false) a w.drew) (hR : ∀ a w, R a w → Q .normal a w) : (Code.region id ops true).wpIn (Fence.wide.inRound l) n P Q a w :=
  wpIn_region_any hm (wpAny_in hops hR _ _ _ _ h)
/-- No operation is a defer statement. -/
def noDeferB (ops : Array Oper) : Bool := ops.toList.all fun o => match o.op with
  | .defer _ => false
  | _ => true
theorem noDefer {ops : Array Oper} (h : noDeferB ops = true) : ∀ (i : Nat) (o : Oper), ops[i]? = some o → ∀ c : Call, o.op ≠ Op.defer c := fun i o ho c hc => by
  have := List.all_eq_true.1 h o (by rw [← Array.getElem?_toList] at ho; exact List.mem_of_getElem? ho)
  rw [hc] at this
  cases this
/-- Outside of a round. -/
theorem region_plain {P : Program} {id : Nat} {ops : Array Oper} {Q : Exit → Act → World → Prop} {a : Act} {w : World} (hm : P.follows .mixedOrders = true)
    (h : wpAny P .any ops (NormQ (Q .normal)) ops.size (Array.replicate ops.size false) a w.drew) : (Code.region id ops true).wp P Q a w :=
  wp_mono (wp_region_any hm h) (fun e a w h => by cases e <;> first | exact h | exact (show False from h).elim)
/-- Q behind a last operation. -/
def LastQ (P : Program) (o : Oper) (Q : Exit → Act → World → Prop) : Exit → Act → World → Prop
  | .normal, a, w => o.wp P a w (Q .normal) Q
  | e, a, w => Q e a w
theorem upon_last {P : Program} {o o' : Oper} {Q : Exit → Act → World → Prop} {a : Act} {next next' : Act → World → Prop} (hn : ∀ a w, next a w → next' a w) (r : Result Next) (h : o.upon P a next (LastQ P o' Q) r) : o.upon P a next' Q r := by
  match r, h with
  | .ok (.value v) w', h => exact hn _ _ h
  | .ok .skip w', h => exact hn _ _ h
  | .ok (.defer d) w', h => exact hn _ _ h
  | .ok (.enter f args) w', h =>
    refine Calls.mono h ?_
    rintro (v | chain | _) w'' h2
    · exact hn _ _ h2
    · exact h2
    · exact h2
  | .ok (.row row args) w', h =>
    intro c cs
    obtain ⟨v, w'', h2, s⟩ := h c cs
    exact ⟨v, w'', hn _ _ h2, s⟩
  | .halt (.panic v) w', h => exact h
/-- Each operation waits only for earlier ones, and none is guarded. -/
def plainB (ops : List Oper) : Bool := (List.range ops.length).all fun j => match ops[j]? with
  | some o => o.guard.isNone && o.after.all fun e => decide (e.on < j)
  | none => true
theorem plainB_spec {ops : List Oper} (h : plainB ops = true) {j : Nat} {o : Oper} (ho : ops[j]? = some o) : o.guard = none ∧ ∀ e ∈ o.after, e.on < j := by
  have hj := (List.getElem?_eq_some_iff.1 ho).1
  have := List.all_eq_true.1 h j (List.mem_range.2 hj)
  simp only [ho, Bool.and_eq_true, Option.isNone_iff_eq_none] at this
  exact ⟨this.1, fun e he => by have := Array.all_eq_true_iff_forall_mem.1 this.2 e he; simpa using this⟩
section
variable {P : Program} {md : Region.Mode} {l : List Oper} {o : Oper} {Q : Exit → Act → World → Prop}
theorem full_get {j : Nat} (h : j < l.length) : (l ++ [o]).toArray[j]? = l.toArray[j]? := by
  rw [List.getElem?_toArray, List.getElem?_toArray, List.getElem?_append_left h]
theorem full_last : (l ++ [o]).toArray[l.length]? = some o := by rw [List.getElem?_toArray]; simp
/-- What has come up in the region, and in the region without its last operation. -/
structure Agree (m : Nat) (L Lp : Array Bool) : Prop where
  size : L.size = m + 1
  sizep : Lp.size = m
  same : ∀ i, i < m → L[i]? = Lp[i]?
theorem Agree.set {m i : Nat} {L Lp : Array Bool} (h : Agree m L Lp) (_ : i < m) : Agree m (L.setIfInBounds i true) (Lp.setIfInBounds i true) :=
  ⟨by simp [h.size], by simp [h.sizep], fun j hj => by
    rw [Array.getElem?_setIfInBounds, Array.getElem?_setIfInBounds, h.same j hj, h.size, h.sizep]
    by_cases hij : i = j
    · simp [hij, hj]; omega
    · simp [hij]⟩
theorem Agree.getD {m i : Nat} {L Lp : Array Bool} (h : Agree m L Lp) (hi : i < m) (b : Bool) : L.getD i b = Lp.getD i b := by
  have := h.same i hi
  simp only [Array.getD_eq_getD_getElem?, this]
theorem ready_agree (hp : plainB (l ++ [o]) = true) {L Lp : Array Bool} (h : Agree l.length L Lp) {j : Nat} (hj : j < l.length) : j ∈ Region.ready md (l ++ [o]).toArray L ↔ j ∈ Region.ready md l.toArray Lp := by
  rw [mem_ready, mem_ready, full_get hj, h.getD hj]
  constructor
  · rintro ⟨h1, x, hx, h2⟩
    have hx2 : (l ++ [o])[j]? = some x := by rw [← List.getElem?_toArray, full_get hj]; exact hx
    refine ⟨h1, x, hx, fun e he hb => ?_⟩
    have := (plainB_spec hp hx2).2 e he
    rw [← h.getD (by omega)]
    exact h2 e he hb
  · rintro ⟨h1, x, hx, h2⟩
    have hx2 : (l ++ [o])[j]? = some x := by rw [← List.getElem?_toArray, full_get hj]; exact hx
    refine ⟨h1, x, hx, fun e he hb => ?_⟩
    have := (plainB_spec hp hx2).2 e he
    rw [h.getD (by omega)]
    exact h2 e he hb
/-- Something may come up as long as not all have come up. -/
theorem ready_some (hp : plainB (l ++ [o]) = true) {L : Array Bool} (hs : L.size = l.length + 1) (hl : L.getD l.length true = false) : Region.ready md (l ++ [o]).toArray L ≠ [] := by
  have key : ∀ k, k ≤ l.length → L.getD k true = false → ∃ i, i ∈ Region.ready md (l ++ [o]).toArray L := by
    intro k
    induction k using Nat.strongRecOn with
    | _ k ih =>
      intro hk hun
      by_cases hall : ∀ i, i < k → L.getD i true = true
      · obtain ⟨x, hx⟩ : ∃ x, (l ++ [o])[k]? = some x := ⟨_, List.getElem?_eq_getElem (by simp; omega)⟩
        refine ⟨k, mem_ready.2 ⟨hun, x, by rw [List.getElem?_toArray]; exact hx, fun e he _ => ?_⟩⟩
        have h1 := (plainB_spec hp hx).2 e he
        have h2 := hall _ h1
        have h3 : e.on < L.size := by omega
        simp only [Array.getD_eq_getD_getElem?, Array.getElem?_eq_getElem h3, Option.getD_some] at h2 ⊢
        exact h2
      · obtain ⟨i, hi⟩ := Classical.not_forall.1 hall
        obtain ⟨hik, hne⟩ := Classical.not_imp.1 hi
        exact ih i hik (by omega) (by simpa using hne)
  obtain ⟨i, hi⟩ := key l.length (Nat.le_refl _) hl
  exact List.ne_nil_of_mem hi
theorem wpAny_last (hp : plainB (l ++ [o]) = true) (hs : Region.sinkB md (l ++ [o]).toArray l.length = true) (hc : Region.chainB md (l ++ [o]).toArray l.length = true) :
    ∀ (fuel : Nat) (L Lp : Array Bool) (a : Act) (w : World), Agree l.length L Lp → HeadInv md (l ++ [o]).toArray l.length L → wpAny P md l.toArray (LastQ P o Q) fuel Lp a w → wpAny P md (l ++ [o]).toArray Q (fuel + 1) L a w := by
  have hn : l.length < (l ++ [o]).toArray.size := by simp
  have hm : (l ++ [o])[l.length]? = some o := by simp
  have hgo := (plainB_spec hp hm).1
  -- the last operation, where it comes up
  have last : ∀ (fuel : Nat) (L Lp : Array Bool) (a : Act) (w : World), Agree l.length L Lp → HeadInv md (l ++ [o]).toArray l.length L → l.length ∈ Region.ready md (l ++ [o]).toArray L → LastQ P o Q .normal a w →
      wpOp P (l ++ [o]).toArray Q l.length (wpAny P md (l ++ [o]).toArray Q fuel (L.setIfInBounds l.length true)) a w := by
    intro fuel L Lp a w hA hI hr hq
    have all : ∀ i, i < l.length → L.getD i true = true := fun i hi => by
      by_cases hun : L.getD i true = false
      · exact absurd hr (tail_waits hs hc hn hI _ i rfl hi hun _ (Nat.le_refl _))
      · simpa using hun
    unfold wpOp
    rw [full_last]
    simp only
    rw [if_pos (by unfold Region.wanted; rw [hgo])]
    refine .inl (Oper.wp_mono (fun a' w' h => wpAny_done ?_ h _) hq)
    apply List.eq_nil_iff_forall_not_mem.2
    intro j hj
    obtain ⟨h1, x, hx, _⟩ := mem_ready.1 hj
    have hjl : j < l.length + 1 := by have := (Array.getElem?_eq_some_iff.1 hx).1; simpa using this
    by_cases hjm : j = l.length
    · subst hjm
      simp only [Array.getD_eq_getD_getElem?, Array.getElem?_setIfInBounds, hA.size] at h1
      simp at h1
    · rw [getD_set_ne true (by omega)] at h1
      have := all j (by omega)
      rw [this] at h1
      cases h1
  intro fuel
  induction fuel with
  | zero =>
    intro L Lp a w hA hI h
    refine ⟨fun h0 => absurd h0 (ready_some hp hA.size (hI.tail _ (Nat.le_refl _) hn)), fun i hi => ?_⟩
    by_cases him : i = l.length
    · subst him
      exact last _ L Lp a w hA hI hi h.2
    · have hil : i < l.length := by have := (Array.getElem?_eq_some_iff.1 (mem_ready.1 hi).2.choose_spec.1).1; simp at this; omega
      have := (ready_agree hp hA hil).1 hi
      rw [h.1] at this
      cases this
  | succ fuel ih =>
    intro L Lp a w hA hI h
    refine ⟨fun h0 => absurd h0 (ready_some hp hA.size (hI.tail _ (Nat.le_refl _) hn)), fun i hi => ?_⟩
    by_cases him : i = l.length
    · subst him
      have hr0 : Region.ready md l.toArray Lp = [] := by
        apply List.eq_nil_iff_forall_not_mem.2
        intro j hj
        obtain ⟨h1, x, hx, _⟩ := mem_ready.1 hj
        have hjl : j < l.length := by have := (Array.getElem?_eq_some_iff.1 hx).1; simpa using this
        have hun : L.getD j true = false := by rw [hA.getD hjl]; exact h1
        exact tail_waits hs hc hn hI _ j rfl hjl hun _ (Nat.le_refl _) hi
      exact last _ L Lp a w hA hI hi (h.1 hr0)
    · obtain ⟨hun, x, hx, hall⟩ := mem_ready.1 hi
      have hil : i < l.length := by have := (Array.getElem?_eq_some_iff.1 hx).1; simp at this; omega
      have h2 := h.2 i ((ready_agree hp hA hil).1 hi)
      have hx1 : l.toArray[i]? = some x := by rw [← full_get hil]; exact hx
      have hg : x.guard = none := (plainB_spec hp (by rw [← List.getElem?_toArray]; exact hx)).1
      unfold wpOp at h2 ⊢
      rw [hx1] at h2
      rw [hx]
      simp only at h2 ⊢
      rw [if_pos (by unfold Region.wanted; rw [hg])] at h2 ⊢
      rcases h2 with h2 | ⟨h2, h3⟩
      · refine .inl ?_
        unfold Oper.wp at h2 ⊢
        exact upon_last (fun a' w' h4 => ih _ _ a' w' (hA.set hil) (hI.set hi hil) h4) _ h2
      · obtain ⟨a3, w3, h3⟩ := h3
        exact .inr ⟨h2, a3, w3, h3⟩
/-- A region with a last operation: the others by 'wpAnyH', S holding behind each of them. -/
theorem wpAny_lastH {S : World → Prop} (hp : plainB (l ++ [o]) = true) (hs : Region.sinkB md (l ++ [o]).toArray l.length = true) (hc : Region.chainB md (l ++ [o]).toArray l.length = true) {a : Act} {w : World}
    (h : wpAnyH P md l.toArray (LastQ P o Q) S l.length (Array.replicate l.length false) a w) : wpAny P md (l ++ [o]).toArray Q (l ++ [o]).toArray.size (Array.replicate (l ++ [o]).toArray.size false) a w := by
  have e : (l ++ [o]).toArray.size = l.length + 1 := by simp
  rw [e]
  refine wpAny_last hp hs hc _ _ _ a w ⟨by simp, by simp, fun i hi => by rw [Array.getElem?_replicate, Array.getElem?_replicate]; simp [hi]; omega⟩ ⟨by simp, fun j oj _ hl => ?_, fun t _ ht => ?_⟩ (wpAny_of_held _ _ _ _ h)
  · rw [getD_replicate_false] at hl; cases hl
  · exact getD_in (by simpa using ht) (getD_replicate_false _ _)
/-- The same, of a list that is written out. -/
theorem wpAny_lastL {S : World → Prop} {L : List Oper} {x : Oper} (hL : L.getLast? = some x) (hp : plainB L = true) (hs : Region.sinkB md L.toArray (L.length - 1) = true) (hc : Region.chainB md L.toArray (L.length - 1) = true) {a : Act} {w : World}
    (h : wpAnyH P md L.dropLast.toArray (LastQ P x Q) S L.dropLast.length (Array.replicate L.dropLast.length false) a w) : wpAny P md L.toArray Q L.toArray.size (Array.replicate L.toArray.size false) a w := by
  have e : L.dropLast ++ [x] = L := by
    obtain ⟨ys, rfl⟩ := List.getLast?_eq_some_iff.1 hL
    rw [List.dropLast_concat]
  have e2 : L.length - 1 = L.dropLast.length := by rw [List.length_dropLast]
  rw [e2] at hs hc
  generalize hd : L.dropLast = D at *
  rw [← e] at hp hs hc ⊢
  exact wpAny_lastH hp hs hc h
end
end Go.Proofs.YtodmbcoobjcooaaDoor

namespace Go.Proofs.YtodmbcoobjcooaaDoor
open Go Go.RowKit Go.Shelf
-- slices of the call's own
theorem owns_keep {w w' : World} {base : Nat} {e : TypeId} {size : Nat} {v : Value} {n : Nat} {xs : List Value} (h : w.ownsRow base e size v n xs) (k : New w w') : w'.ownsRow base e size v n xs := by
  obtain ⟨h1, h2⟩ := h
  refine ⟨h1, ?_⟩
  rcases h2 with h2 | ⟨g, cap, cur, rfl, hb, hh, h3⟩
  · exact Or.inl h2
  · exact Or.inr ⟨g, cap, cur, rfl, hb, heap_keep k hh, h3⟩
theorem owns_form {w : World} {base : Nat} {e : TypeId} {size : Nat} {v : Value} {n : Nat} {xs : List Value} (h : w.ownsRow base e size v n xs) : ∃ A c, v = .slice A n c := by
  rcases h.2 with ⟨rfl, hz⟩ | ⟨g, cap, cur, rfl, _⟩
  · subst hz; exact ⟨none, 0, rfl⟩
  · exact ⟨_, _, rfl⟩
theorem owns_base {w : World} {b b' : Nat} {e : TypeId} {size : Nat} {v : Value} {n : Nat} {xs : List Value} (h : w.ownsRow b e size v n xs) (hb : b' ≤ b) : w.ownsRow b' e size v n xs := by
  obtain ⟨h1, h2⟩ := h
  refine ⟨h1, ?_⟩
  rcases h2 with h2 | ⟨g, cap, cur, rfl, hg, h3⟩
  · exact Or.inl h2
  · exact Or.inr ⟨g, cap, cur, rfl, by omega, h3⟩
/-- A row of other elements is another block. -/
theorem owns_ne {w : World} {b g : Nat} {e e' : TypeId} {size : Nat} {v : Value} {n : Nat} {xs cs : List Value} (h : w.ownsRow b e size v n xs) (r : RowIs w g e' cs) (hne : e ≠ e') : v.ownBlock ≠ some g := by
  rcases h.2 with ⟨rfl, _⟩ | ⟨k, cap, cur, rfl, _, hh, _⟩
  · simp [Value.ownBlock]
  · intro h1
    obtain rfl : k = g := by simpa [Value.ownBlock] using h1
    unfold RowIs at r
    rw [hh] at r
    simp at r
    exact hne r.2
theorem owns_setCell {w : World} {b : Nat} {e : TypeId} {size : Nat} {v : Value} {n : Nat} {xs : List Value} (h : w.ownsRow b e size v n xs) {p : Nat} (hp : v.ownBlock ≠ some p) (i : Nat) (u : Value) : (w.setCell ⟨p, i, none⟩ u).ownsRow b e size v n xs := by
  obtain ⟨h1, h2⟩ := h
  refine ⟨h1, ?_⟩
  rcases h2 with h2 | ⟨g, cap, cur, rfl, hg, hh, h3⟩
  · exact Or.inl h2
  · refine Or.inr ⟨g, cap, cur, rfl, hg, ?_, h3⟩
    have : p ≠ g := fun e => hp (by rw [e]; rfl)
    simp [World.setCell, Array.getElem?_modify, hh, this]
theorem grown_below {w w' : World} {b : Nat} {e : TypeId} {size : Nat} {v : Value} {n : Nat} {xs : List Value} (h : w.ownsRow b e size v n xs) (g : w.grownBy w' v.ownBlock) (hb : b ≤ w.heap.size) : Below b w w' :=
  (Below.refl b w).grown g hb (fun k hk => (h.lt k hk).1)
theorem RowIs.grown {w w' : World} {g : Nat} {e : TypeId} {cs : List Value} {row : Option Nat} (h : RowIs w g e cs) (k : w.grownBy w' row) (hne : row ≠ some g) : RowIs w' g e cs := (k.block g h.lt (fun e => hne e.symm)).trans h
theorem owns_grown {w w' : World} {b : Nat} {e : TypeId} {size : Nat} {v : Value} {n : Nat} {xs : List Value} {row : Option Nat} (h : w.ownsRow b e size v n xs) (k : w.grownBy w' row) (hne : v.ownBlock = none ∨ v.ownBlock ≠ row) : w'.ownsRow b e size v n xs := h.kept k hne
/-- Two slices of the call's own, of different elements, lie in different blocks. -/
theorem owns_apart {w : World} {b b' : Nat} {e e' : TypeId} {size size' : Nat} {v v' : Value} {n n' : Nat} {xs xs' : List Value} (h' : w.ownsRow b' e' size' v' n' xs') (h : w.ownsRow b e size v n xs) (hne : e ≠ e') : v'.ownBlock = none ∨ v'.ownBlock ≠ v.ownBlock := by
  rcases h'.2 with ⟨rfl, _⟩ | ⟨g', cap', cur', rfl, _, hg', _⟩
  · exact .inl rfl
  · refine .inr fun e1 => ?_
    rcases h.2 with ⟨rfl, _⟩ | ⟨g, cap, cur, rfl, _, hg, _⟩
    · simp [Value.ownBlock] at e1
    · obtain rfl : g' = g := by simpa [Value.ownBlock] using e1
      rw [hg] at hg'
      simp at hg'
      exact hne hg'.2
/-- What an append to a slice, and a store of it into a cell of a block, leave. -/
theorem push_all {W1 w1 : World} {b : Nat} {e : TypeId} {size : Nat} {v v' : Value} {n n' : Nat} {xs xs' : List Value} {B : Nat} {tN : TypeId} {cs : List Value} (i : Nat) (hv : W1.ownsRow b e size v n xs) (hg : W1.grownBy w1 v.ownBlock) (ho : w1.ownsRow b e size v' n' xs') (hB : RowIs W1 B tN cs) (hne : e ≠ tN) :
    RowIs w1 B tN cs ∧ RowIs (w1.setCell ⟨B, i, none⟩ v') B tN (cs.set i v') ∧ (w1.setCell ⟨B, i, none⟩ v').ownsRow b e size v' n' xs' ∧
    (∀ g e' cs', RowIs W1 g e' cs' → g ≠ B → e ≠ e' → RowIs (w1.setCell ⟨B, i, none⟩ v') g e' cs') ∧
    (∀ b2 e2 s2 u m ys, W1.ownsRow b2 e2 s2 u m ys → e ≠ e2 → e2 ≠ tN → (w1.setCell ⟨B, i, none⟩ v').ownsRow b2 e2 s2 u m ys) := by
  have h1 : RowIs w1 B tN cs := hB.grown hg (owns_ne hv hB hne)
  refine ⟨h1, h1.put i v', owns_setCell ho (owns_ne ho h1 hne) i v', fun g e' cs' hr hgB hee => ?_, fun b2 e2 s2 u m ys hu hee het => ?_⟩
  · exact (hr.grown hg (owns_ne hv hr hee)).other (Ne.symm hgB) i v'
  · have h2 := hu.kept hg (owns_apart hu hv hee)
    exact owns_setCell h2 (owns_ne h2 h1 het) i v'
/-- A row that was laid whole. -/
theorem owns_row {w : World} {g b : Nat} {e : TypeId} {cs : List Value} {size n : Nat} (h : RowIs w g e cs) (hb : b ≤ g) (hl : cs.length = n * size) (hn : n ≤ 9223372036854775807) : w.ownsRow b e size (.slice (some ⟨g, 0, none⟩) n n) n cs :=
  ⟨hl, .inr ⟨g, n, cs.toArray, rfl, hb, h, Nat.le_refl _, hn, by simp [hl], by simp [hl, List.take_of_length_le]⟩⟩
theorem owns_ints {w : World} {b : Nat} {e : TypeId} {A : Option Addr} {n c : Nat} {l : List Int} (h : w.ownsRow b e 1 (.slice A n c) n (l.map (Value.int .i64))) : n = l.length ∧ IntsA w A l := by
  have hl := h.1
  simp at hl
  subst hl
  refine ⟨rfl, ?_⟩
  rcases h.2 with ⟨h1, h2⟩ | ⟨g, cap, cur, hv, hb, hh, h1, h2, h3, h4⟩
  · have := List.eq_nil_of_length_eq_zero h2
    subst this
    exact IntsA.nil _ _
  · simp only [Value.slice.injEq] at hv
    obtain ⟨rfl, -, rfl⟩ := hv
    unfold maxLen at h2
    refine ⟨by omega, fun _ => ⟨g, 0, rfl, (Array.getElem?_eq_some_iff.1 hh).1, fun i hi => ?_⟩⟩
    rw [Nat.zero_add, h.cellAt i (by omega), List.getElem?_map, List.getElem?_eq_getElem hi]
    rfl
-- rows of elements of k cells
theorem fm_get {α β : Type} (f : α → List β) (k : Nat) (hk : ∀ x, (f x).length = k) : ∀ (l : List α) (i r : Nat) (hi : i < l.length), r < k → (l.flatMap f)[i * k + r]? = (f l[i])[r]?
  | [], i, r, hi, _ => by simp at hi
  | x :: l, 0, r, _, hr => by simp [List.getElem?_append_left (show r < (f x).length by rw [hk]; exact hr)]
  | x :: l, i + 1, r, hi, hr => by
    have := fm_get f k hk l i r (by simpa using hi) hr
    have e : (i + 1) * k + r = k + (i * k + r) := by rw [Nat.add_mul, Nat.one_mul]; omega
    rw [e, List.flatMap_cons, List.getElem?_append_right (by rw [hk]; omega), hk, show k + (i * k + r) - k = i * k + r by omega, this]
    rfl
theorem fm_len {α β : Type} (f : α → List β) (k : Nat) (hk : ∀ x, (f x).length = k) : ∀ l : List α, (l.flatMap f).length = l.length * k
  | [] => by simp
  | x :: l => by rw [List.flatMap_cons, List.length_append, hk, fm_len f k hk l, List.length_cons, Nat.add_mul]; omega
def egCs (e : Eg) : List Value := [.int .i64 e.1, .int .i64 e.2.1, .int .i64 e.2.2]
/-- Edges in memory. -/
def EgC (w : World) (b o : Nat) (e : Eg) : Prop := w.cell? ⟨b, o, none⟩ = some (.int .i64 e.1) ∧ w.cell? ⟨b, o + 1, none⟩ = some (.int .i64 e.2.1) ∧ w.cell? ⟨b, o + 2, none⟩ = some (.int .i64 e.2.2)
theorem EgC.keep {w w' : World} {b o : Nat} {e : Eg} (h : EgC w b o e) (k : New w w') : EgC w' b o e := ⟨k.cellOf h.1, k.cellOf h.2.1, k.cellOf h.2.2⟩
def EgsA (w : World) (A : Option Addr) (l : List Eg) : Prop :=
  l.length ≤ 9223372036854775807 ∧ (0 < l.length → ∃ b off, A = some ⟨b, off, none⟩ ∧ b < w.heap.size ∧ ∀ i, i < l.length → EgC w b (off + i * 3) (l[i]?.getD default))
theorem EgsA.keep {w w' : World} {A : Option Addr} {l : List Eg} (h : EgsA w A l) (k : New w w') : EgsA w' A l :=
  ⟨h.1, fun h0 => by
    obtain ⟨b, off, e, hb, hc⟩ := h.2 h0
    exact ⟨b, off, e, Nat.lt_of_lt_of_le hb k.size, fun i hi => (hc i hi).keep k⟩⟩
theorem owns_egs {w : World} {b : Nat} {e : TypeId} {A : Option Addr} {n c : Nat} {l : List Eg} (h : w.ownsRow b e 3 (.slice A n c) n (l.flatMap egCs)) : n = l.length ∧ EgsA w A l := by
  have hl := h.1
  rw [fm_len egCs 3 (fun _ => rfl)] at hl
  obtain rfl : n = l.length := by omega
  refine ⟨rfl, ?_⟩
  rcases h.2 with ⟨h1, h2⟩ | ⟨g, cap, cur, hv, hb, hh, h1, h2, h3, h4⟩
  · have := List.eq_nil_of_length_eq_zero h2
    subst this
    exact ⟨by simp, fun h => absurd h (by simp)⟩
  · simp only [Value.slice.injEq] at hv
    obtain ⟨rfl, -, rfl⟩ := hv
    unfold maxLen at h2
    refine ⟨by omega, fun _ => ⟨g, 0, rfl, (Array.getElem?_eq_some_iff.1 hh).1, fun i hi => ?_⟩⟩
    have key : ∀ r, r < 3 → w.cell? ⟨g, 0 + i * 3 + r, none⟩ = (egCs l[i])[r]? := fun r hr => by
      rw [Nat.zero_add, h.cellAt (i * 3 + r) (by omega), fm_get egCs 3 (fun _ => rfl) l i r hi hr]
    rw [List.getElem?_eq_getElem hi]
    exact ⟨key 0 (by omega), key 1 (by omega), key 2 (by omega)⟩
-- the places
def firsts (s : Sy) : List Int := 0 :: (List.range s.tracks.length).map fun i => ((fstP s i : Nat) : Int)
theorem firsts_len (s : Sy) : (firsts s).length = s.tracks.length + 1 := by simp [firsts]
theorem firsts_at {s : Sy} {r : Rf} (h : RefOk s r) : 0 ≤ r.log + 1 ∧ (r.log + 1).toNat < (firsts s).length ∧ (firsts s)[(r.log + 1).toNat]?.getD 0 + r.line = (plc s r : Nat) := by
  rcases h with rfl | h
  · rw [plc_beg, firsts_len]
    exact ⟨by decide, by show (0 : Nat) < _; omega, rfl⟩
  · obtain ⟨_, _, h3, h4, _, h6, h7⟩ := plc_line h
    rw [firsts_len]
    have e : (r.log + 1).toNat = r.log.toNat + 1 := by omega
    refine ⟨by omega, by omega, ?_⟩
    rw [e, firsts, List.getElem?_cons_succ, List.getElem?_map, List.getElem?_range h4, h3]
    simp
    omega
/-- A net in memory: of a system's places, with these edges. -/
def NetAt (w : World) (g : Nat) (s : Sy) (E : List Eg) : Prop :=
  ∃ FA fc EA ec, RowIs w g 154 [.slice FA (s.tracks.length + 1) fc, .int .i64 (nPl s), .slice EA E.length ec] ∧ IntsA w FA (firsts s) ∧ EgsA w EA E
theorem NetAt.keep {w w' : World} {g : Nat} {s : Sy} {E : List Eg} (h : NetAt w g s E) (k : New w w') : NetAt w' g s E := by
  obtain ⟨FA, fc, EA, ec, h1, h2, h3⟩ := h
  exact ⟨FA, fc, EA, ec, h1.keep k, h2.keep k, h3.keep k⟩
set_option maxHeartbeats 1000000 in
theorem ck_place (s : Sy) (hs : Ok s) (r : Rf) (hr : RefOk s r) (g fc : Nat) (FA : Option Addr) (w : World) (hg : w.cell? ⟨g, 0, none⟩ = some (.slice FA (s.tracks.length + 1) fc)) (hF : IntsA w FA (firsts s)) :
    Calls Tryd.prog 110 #[.pointer (some ⟨g, 0, none⟩), .agg #[.int .i64 r.log, .int .i64 r.line]] w fun e w' => e = .returned (.int .i64 (plc s r)) ∧ New w w' := by
  obtain ⟨h1, h2, h3⟩ := firsts_at hr
  have h64 := (checkE_ok hs).1
  have hp := plc_lt hr
  have hp2 := nPl_le hs
  rw [firsts_len] at h2
  have hfl := firsts_len s
  obtain ⟨b, off, rfl, hb, hc⟩ := hF.2 (by rw [hfl]; omega)
  have z := hc (r.log + 1).toNat (by rw [hfl]; exact h2)
  have hn := (New.refl w).alloc (.cells #[.int .i64 r.log, .int .i64 r.line] 53)
  have R := RowIs.new w 53 [.int .i64 r.log, .int .i64 r.line]
  have hln : 0 ≤ r.line ∧ r.line ≤ 30000 := by
    rcases hr with rfl | hr
    · decide
    · have := plc_line hr; omega
  generalize plc s r = p at *
  generalize (firsts s)[(r.log + 1).toNat]?.getD 0 = f at *
  generalize s.tracks.length = n at *
  have H3 := Lib.hid h3
  have hfb : 0 ≤ f + r.line ∧ f + r.line ≤ 30000 := by omega
  clear h3 hc hF hfl hp hp2 hr
  obtain ⟨lg, ln⟩ := r
  dsimp only at *
  obtain ⟨j, hj⟩ := Int.eq_ofNat_of_zero_le h1
  rw [hj] at h2 z
  rw [Int.toNat_natCast] at h2 z
  obtain rfl : lg = (j : Int) - 1 := by omega
  have z' := hn.cellOf z
  have hg' := hn.cellOf hg
  have c0 := R.cell (i := 0) rfl
  have c1 := R.cell (i := 1) rfl
  have a1 : IntKind.i64.wrap ((j : Int) - 1 + 1) = (j : Int) := by rw [IntWalk.i64_in _ (by omega)]; omega
  have a3 : (0 : Int) ≤ (j : Int) := by omega
  have a4 : (j : Int) < ((n + 1 : Nat) : Int) := by omega
  have a4' : (j : Int) < (n : Int) + 1 := by omega
  have a5 : IntKind.i64.wrap (f + ln) = f + ln := IntWalk.i64_in _ (by omega)
  have HN := Lib.hid hn
  clear hj h1 hn R hg z
  go_enter Tryd.func110, Tryd.ntmps110
  go_wp2_with fail
  go_quiet (fail)
  go_wp2_with fail
  go_ret
  exact ⟨ret_int H3.out, HN.out.drewN _⟩
end Go.Proofs.YtodmbcoobjcooaaDoor

namespace Go.Proofs.YtodmbcoobjcooaaDoor
open Go Go.RowKit Go.Shelf
theorem rowIs_own {β : Type} (B g : Nat) (e : TypeId) (cs : List Value) : OwnFrom B (fun (_ : β) W => RowIs W g e cs) := fun _ X Y row hs hg hr =>
  hs.grown hg (fun e1 => by
    obtain ⟨_, o, ho, hc⟩ := hr g e1
    unfold RowIs at hs
    rw [hs] at ho
    cases ho
    cases hc)
theorem owns_own {X Y : World} {B b : Nat} {e : TypeId} {size : Nat} {v : Value} {n : Nat} {xs : List Value} {row : Option Nat} (h : X.ownsRow b e size v n xs) (hg : X.grownBy Y row) (hr : ∀ r, row = some r → B ≤ r ∧ ∃ o : Obj, X.heap[r]? = some o ∧ o.isCells = false) : Y.ownsRow b e size v n xs :=
  h.kept hg (by
    rcases h.2 with ⟨rfl, _⟩ | ⟨g, cap, cur, rfl, _, hgb, _⟩
    · exact .inl rfl
    · refine .inr fun e' => ?_
      obtain ⟨_, o, ho, hc⟩ := hr g (by simpa [Value.ownBlock] using e'.symm)
      rw [hgb] at ho
      cases ho
      cases hc)
/-- The act in a round: the variable's block in its slot. -/
def actB (a : Act) (pv bx Bx : Nat) (v : Value) : Act := { tmps := (a.tmps.setIfInBounds pv v).setIfInBounds bx (.pointer (some ⟨Bx, 0, none⟩)), defers := [] }
theorem range_box {F : Fence} {n : Nat} {P : Program} {α : Type} {g : Operand} {ps : Array Tmp} {assign body : Code} {Q : Exit → Act → World → Prop} {a : Act} {w : World} (pv bx : Nat) (t : TypeId) (v : α → Value) (cs : α → List Value)
    (hro : F.round = none) (h1 : 1 ≤ n) {gf : Nat} {lb : Array Value} (hg : a.eval g = .func (.func gf) #[] lb) (hFg : F.fn gf) (eg : ∀ args w, (callFunc gf args).run P w = .ok (.enter gf args) w)
    {encs : α → Array Value} {Kp : World → World → Prop} {S Sp : List α → Prop} {N : Nat} {w0 : World} (hseq : SeqStopsK F (n - 1) P gf lb encs Kp S Sp N w0)
    (hKt : ∀ {A B C : World}, Kp A B → Kp B C → Kp A C) (hKb : ∀ (W : World) (l : Nat) (o o' : Obj), w.heap.size ≤ l → W.heap[l]? = some o → o.isCells = false → o.isWalk = false → Kp W (W.putObj l o')) (hb0 : Below w0.heap.size w0 w) (hps : ∀ x, (encs x).size = ps.size)
    (I : List α → World → Prop) (Ix : Code → List α → World → Prop) (hI : OwnFrom w.heap.size I) (hIx : ∀ c, OwnFrom w.heap.size (Ix c)) (h0 : I [] w)
    (hassign : ∀ (l : Nat) (pre : List α) (x : α) (W : World) (K : Act → World → Prop), I pre W → (∀ Bx W', KeepsFrom w.heap.size W W' → Kp W W' → I pre W' → w.heap.size ≤ Bx → RowIs W' Bx t (cs x) → K (actB a pv bx Bx (v x)) W') →
      assign.wpIn (F.inRound l) (n - 1 - 1) P (Exit.then K (fun _ _ _ => False)) { tmps := (ps.zip (encs x)).foldl (fun t (p, v) => t.setIfInBounds p v) a.tmps, defers := [] } W)
    (hbody : ∀ (l : Nat) (pre : List α) (x : α) (Bx : Nat) (W : World), I pre W → w.heap.size ≤ Bx → RowIs W Bx t (cs x) → pre.length < N → body.wpIn (F.inRound l) (n - 1 - 1) P (ownPostG w.heap.size Kp I Ix (pre ++ [x]) W) (actB a pv bx Bx (v x)) W)
    (hdone : ∀ (D : Nat) (xs : List α) (W : World), w.heap.size ≤ D → S xs → I xs W → W.heap[D]? = some (.deferred (some [])) → Q .normal { a with defers := { target := .collected D, args := #[] } :: a.defers } W)
    (hstop : ∀ (D : Nat) (c : Code) (pre : List α) (W : World), w.heap.size ≤ D → Sp pre → Ix c pre W → W.heap[D]? = some (.deferred (some [])) → c.wpIn F n P Q { a with defers := { target := .collected D, args := #[] } :: a.defers } W) :
    (Code.rangeFunc g ps assign body).wpIn F n P Q a w :=
  wpIn_rangeFunc_ownH hro h1 hg hFg eg hseq (fun h k => hKt h k) hKb hb0 hps I Ix hI hIx h0 (fun x a' W => ∃ Bx, w.heap.size ≤ Bx ∧ RowIs W Bx t (cs x) ∧ a' = actB a pv bx Bx (v x))
    (fun x a' _ X Y row hs hgr hr => by
      obtain ⟨Bx, h1, h2, h3⟩ := hs
      exact ⟨Bx, h1, rowIs_own w.heap.size Bx t (cs x) () X Y row h2 hgr hr, h3⟩)
    (fun l pre x W K hi hK => hassign l pre x W K hi (fun Bx W' k1 k2 k3 k4 k5 => hK _ W' k1 k2 k3 ⟨Bx, k4, k5, rfl⟩))
    (fun l pre x a' W _ _ hi hx hlen => by
      obtain ⟨Bx, h1, h2, rfl⟩ := hx
      exact hbody l pre x Bx W hi h1 h2 hlen)
    hdone hstop
/-- A turn of a block that is no cells leaves all safe blocks. -/
theorem evS_put {n0 p o B : Nat} {W : World} {l : Nat} {ob ob' : Obj} (hB : B ≤ l) (hn : n0 ≤ B) (hp : p < B) (hl : W.heap[l]? = some ob) (hc : ob.isCells = false) : Ev n0 (wfS p o) (SafeS p o) W (W.putObj l ob') := by
  have hlt := (Array.getElem?_eq_some_iff.1 hl).1
  have hcell : (W.putObj l ob').cell? ⟨p, o, none⟩ = W.cell? ⟨p, o, none⟩ := World.cell?_of_block (World.putObj_heap_other (by show p ≠ l; omega))
  have hsz : (W.putObj l ob').heap.size = W.heap.size := by simp
  refine ⟨(Below.refl n0 W).grown (grownBy_putObj' W l ob') (by have := hlt; omega) (fun k e => by cases e; omega), fun hw => ⟨⟨by rw [hsz]; exact hw.1, fun v k hv hk => by rw [hcell] at hv; rw [hsz]; exact hw.2 v k hv hk⟩, fun k hk => ?_⟩⟩
  obtain ⟨⟨c, e, f, h1⟩, h2, h3⟩ := hk
  have hkl : k ≠ l := fun e => by subst e; rw [h1] at hl; cases hl; cases hc
  have h4 : (W.putObj l ob').heap[k]? = W.heap[k]? := World.putObj_heap_other hkl
  exact ⟨⟨⟨c, e, f, h4.trans h1⟩, h2, fun v hv => by rw [hcell] at hv; exact h3 v hv⟩, h4⟩
/-- The same, where the loop's body writes no cells. -/
theorem evC_put {n0 B : Nat} {W : World} {l : Nat} {ob ob' : Obj} (hB : B ≤ l) (hn : n0 ≤ B) (hl : W.heap[l]? = some ob) (hc : ob.isCells = false) : Ev n0 wfC SafeC W (W.putObj l ob') := by
  have hlt := (Array.getElem?_eq_some_iff.1 hl).1
  refine ⟨(Below.refl n0 W).grown (grownBy_putObj' W l ob') (by omega) (fun k e => by cases e; omega), fun _ => ⟨trivial, fun k hk => ?_⟩⟩
  obtain ⟨c, e, f, h1⟩ := hk
  have hkl : k ≠ l := fun e => by subst e; rw [h1] at hl; cases hl; cases hc
  have h4 : (W.putObj l ob').heap[k]? = W.heap[k]? := World.putObj_heap_other hkl
  exact ⟨⟨c, e, f, h4.trans h1⟩, h4⟩
/-- An append to the slice of a block's cell, and its store there, as the iterator sees it. -/
theorem evS_push {n0 p o : Nat} {W w1 : World} {e : TypeId} {size n n' cap : Nat} {v : Value} {xs xs' : List Value} {tN : TypeId} {cs : List Value} {g : Nat} {W1 : World} (k : New W W1) (hv : W1.ownsRow n0 e size v n xs) (hg : W1.grownBy w1 v.ownBlock) (ho : w1.ownsRow n0 e size (.slice (some ⟨g, 0, none⟩) n' cap) n' xs') (hB : RowIs W p tN cs) (hi : cs[o]? = some v) (hne : e ≠ tN) (hat : v.ownBlock = some g ∨ W.heap.size ≤ g) (hn : n0 ≤ W.heap.size) (hp : n0 ≤ p) :
    Ev n0 (wfS p o) (SafeS p o) W (w1.setCell ⟨p, o, none⟩ (.slice (some ⟨g, 0, none⟩) n' cap)) := by
  have hpl := hB.lt
  have hB1 := hB.keep k
  obtain ⟨a1, a2, a3, _, _⟩ := push_all o hv hg ho hB1 hne
  have hsz1 : W.heap.size ≤ w1.heap.size := Nat.le_trans k.size hg.size
  have hsz : (w1.setCell ⟨p, o, none⟩ (.slice (some ⟨g, 0, none⟩) n' cap)).heap.size = w1.heap.size := by simp [World.setCell]
  have hol : o < cs.length := (List.getElem?_eq_some_iff.1 hi).1
  have hnew : (w1.setCell ⟨p, o, none⟩ (.slice (some ⟨g, 0, none⟩) n' cap)).cell? ⟨p, o, none⟩ = some (.slice (some ⟨g, 0, none⟩) n' cap) := a2.cell (by rw [List.getElem?_set_self hol])
  have hgl : g < w1.heap.size := by
    rcases ho.2 with ⟨h1, _⟩ | ⟨g', cap', cur, h1, _, hh, _⟩
    · cases h1
    · simp only [Value.slice.injEq, Option.some.injEq, Addr.mk.injEq] at h1
      obtain ⟨⟨rfl, _⟩, _⟩ := h1
      exact (Array.getElem?_eq_some_iff.1 hh).1
  have hb1 : Below n0 W w1 := Below.trans (Below.mono k hn) (grown_below hv hg (Nat.le_trans hn k.size))
  refine ⟨Below.setCell hb1 (p := ⟨p, o, none⟩) hp _, fun hw => ⟨⟨by rw [hsz]; omega, fun u q hu hq => ?_⟩, fun q hq => ?_⟩⟩
  · rw [hnew] at hu
    obtain rfl := Option.some.inj hu
    obtain rfl : g = q := by simpa [Value.ownBlock] using hq
    rw [hsz]; exact hgl
  · obtain ⟨⟨c, e1, f, h1⟩, h2, h3⟩ := hq
    have hql := (Array.getElem?_eq_some_iff.1 h1).1
    have h4 : W1.heap[q]? = W.heap[q]? := k.out.block q hql
    have h5 : w1.heap[q]? = W1.heap[q]? := hg.block q (by have := k.size; omega) (fun e2 => h3 v (hB.cell hi) e2.symm)
    have h6 : (w1.setCell ⟨p, o, none⟩ (.slice (some ⟨g, 0, none⟩) n' cap)).heap[q]? = w1.heap[q]? := Below.heap_setCell w1 ⟨p, o, none⟩ _ q (fun e2 => h2 (by rw [e2]))
    refine ⟨⟨⟨c, e1, f, (h6.trans (h5.trans h4)).trans h1⟩, h2, fun u hu hq2 => ?_⟩, h6.trans (h5.trans h4)⟩
    rw [hnew] at hu
    obtain rfl := Option.some.inj hu
    obtain rfl : g = q := by simpa [Value.ownBlock] using hq2
    rcases hat with hat | hat
    · exact h3 v (hB.cell hi) hat
    · omega
end Go.Proofs.YtodmbcoobjcooaaDoor
