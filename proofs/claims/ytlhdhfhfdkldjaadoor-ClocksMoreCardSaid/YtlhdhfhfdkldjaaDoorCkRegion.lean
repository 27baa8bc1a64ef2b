/-
  A region that draws its order in a round of a loop over an iterator: its last operation waits for all others (a store at the end of an assignment): the others in whatever order, then the last one. No condition but that no operation is guarded.
-/
import Derived.Test.YtlhdhfhfdkldjaaDoorCkSafe
import Derived.Test.YtlhdhfhfdkldjaaDoorRegion
import Derived.StillTail
import Derived.Deep.QuietTactic
import Derived.RegionIn
namespace Go.Proofs.YtlhdhfhfdkldjaaDoor
open Go Go.RowKit
/-- The way out of a region that ends as it should. -/
def NormQ (R : Act → World → Prop) : Exit → Act → World → Prop
  | .normal, a, w => R a w
  | _, _, _ => False
theorem upon_in {l n : Nat} {P : Program} {o : Oper} {a : Act} {next next' : Act → World → Prop} {R : Act → World → Prop} {Q : Exit → Act → World → Prop} (hn : ∀ a w, next a w → next' a w) (r : Result Next)
    (h : o.upon P a next (NormQ R) r) : o.uponIn (Fence.wide.inRound l) n P a next' Q r := by
  match r, h with
  | .ok (.value v) w', h => exact hn _ _ h
  | .ok .skip w', h => exact hn _ _ h
  | .ok (.defer d) w', h => exact hn _ _ h
  | .ok (.enter f args) w', h =>
    refine ⟨(fun hd => by cases hd), CallsIn.inRound l (callsIn_wide.2 (Calls.mono h ?_))⟩
    rintro (v | chain | _) w'' h2
    · exact hn _ _ h2
    · exact h2.elim
    · obtain ⟨_, _, h3⟩ := h2
      exact h3.elim
  | .ok (.row row args) w', h =>
    refine ⟨(fun hd => by cases hd), fun c cs _ => ?_⟩
    obtain ⟨v, w'', h2, s⟩ := h c cs
    exact ⟨v, w'', hn _ _ h2, stepsIn_wide.2 s⟩
  | .halt (.panic v) w', h => exact (show False from h).elim
theorem wpAny_in {l n : Nat} {P : Program} {md : Region.Mode} {ops : Array Oper} {R : Act → World → Prop} {Q : Exit → Act → World → Prop} (hops : ∀ (i : Nat) (o : Oper), ops[i]? = some o → ∀ c : Call, o.op ≠ Op.defer c) (hR : ∀ a w, R a w → Q .normal a w) :
    ∀ (fuel : Nat) (listed : Array Bool) (a : Act) (w : World), wpAny P md ops (NormQ R) fuel listed a w → wpAnyIn (Fence.wide.inRound l) n P md ops Q fuel listed a w := by
  intro fuel
  induction fuel with
  | zero => exact fun listed a w h => ⟨h.1, hR _ _ h.2⟩
  | succ fuel ih =>
    intro listed a w h
    refine ⟨fun h0 => hR _ _ (h.1 h0), fun i hi => ?_⟩
    have h2 := h.2 i hi
    unfold wpOp at h2
    unfold wpOpIn
    cases ho : ops[i]? with
    | none => rw [ho] at h2; exact ih _ _ _ h2
    | some o =>
      rw [ho] at h2
      simp only at h2 ⊢
      split
      · rename_i hw
        rw [if_pos hw] at h2
        rcases h2 with h2 | ⟨_, h2⟩
        · refine ⟨fun _ _ => trivial, ?_⟩
          rw [show o.semAt (Fence.wide.inRound l).round a.eval = execOp a.eval o from Oper.semAt_plain _ _ _ (hops i o ho)]
          exact upon_in (fun a' w' h3 => ih _ _ _ h3) _ h2
        · obtain ⟨_, _, h3⟩ := h2
          exact h3.elim
      · rename_i hw
        rw [if_neg hw] at h2
        exact ⟨fun _ _ => trivial, ih _ _ _ h2⟩
theorem region_round {l n : Nat} {P : Program} {id : Nat} {ops : Array Oper} {Q : Exit → Act → World → Prop} {a : Act} {w : World} (R : Act → World → Prop) (hm : P.follows .mixedOrders = true) (hops : ∀ (i : Nat) (o : Oper), ops[i]? = some o → ∀ c : Call, o.op ≠ Op.defer c)
    (h : wpAny P .any ops (NormQ R) ops.size (Array.replicate ops.size false) a w.drew) (hR : ∀ a w, R a w → Q .normal a w) : (Code.region id ops true).wpIn (Fence.wide.inRound l) n P Q a w :=
  wpIn_region_any hm (wpAny_in hops hR _ _ _ _ h)
/-- No operation is a defer statement. -/
def noDeferB (ops : Array Oper) : Bool := ops.toList.all fun o => match o.op with
  | .defer _ => false
  | _ => true
theorem noDefer {ops : Array Oper} (h : noDeferB ops = true) : ∀ (i : Nat) (o : Oper), ops[i]? = some o → ∀ c : Call, o.op ≠ Op.defer c := fun i o ho c hc => by
  have := List.all_eq_true.1 h o (by rw [← Array.getElem?_toList] at ho; exact List.mem_of_getElem? ho)
  rw [hc] at this
  cases this
/-- Outside of a round. -/
theorem region_plain {P : Program} {id : Nat} {ops : Array Oper} {Q : Exit → Act → World → Prop} {a : Act} {w : World} (hm : P.follows .mixedOrders = true)
    (h : wpAny P .any ops (NormQ (Q .normal)) ops.size (Array.replicate ops.size false) a w.drew) : (Code.region id ops true).wp P Q a w :=
  wp_mono (wp_region_any hm h) (fun e a w h => by cases e <;> first | exact h | exact (show False from h).elim)
/-- Q behind a last operation. -/
def LastQ (P : Program) (o : Oper) (Q : Exit → Act → World → Prop) : Exit → Act → World → Prop
  | .normal, a, w => o.wp P a w (Q .normal) Q
  | e, a, w => Q e a w
theorem upon_last {P : Program} {o o' : Oper} {Q : Exit → Act → World → Prop} {a : Act} {next next' : Act → World → Prop} (hn : ∀ a w, next a w → next' a w) (r : Result Next) (h : o.upon P a next (LastQ P o' Q) r) : o.upon P a next' Q r := by
  match r, h with
  | .ok (.value v) w', h => exact hn _ _ h
  | .ok .skip w', h => exact hn _ _ h
  | .ok (.defer d) w', h => exact hn _ _ h
  | .ok (.enter f args) w', h =>
    refine Calls.mono h ?_
    rintro (v | chain | _) w'' h2
    · exact hn _ _ h2
    · exact h2
    · exact h2
  | .ok (.row row args) w', h =>
    intro c cs
    obtain ⟨v, w'', h2, s⟩ := h c cs
    exact ⟨v, w'', hn _ _ h2, s⟩
  | .halt (.panic v) w', h => exact h
/-- Each operation waits only for earlier ones, and none is guarded. -/
def plainB (ops : List Oper) : Bool := (List.range ops.length).all fun j => match ops[j]? with
  | some o => o.guard.isNone && o.after.all fun e => decide (e.on < j)
  | none => true
theorem plainB_spec {ops : List Oper} (h : plainB ops = true) {j : Nat} {o : Oper} (ho : ops[j]? = some o) : o.guard = none ∧ ∀ e ∈ o.after, e.on < j := by
  have hj := (List.getElem?_eq_some_iff.1 ho).1
  have := List.all_eq_true.1 h j (List.mem_range.2 hj)
  simp only [ho, Bool.and_eq_true, Option.isNone_iff_eq_none] at this
  exact ⟨this.1, fun e he => by have := Array.all_eq_true_iff_forall_mem.1 this.2 e he; simpa using this⟩
section
variable {P : Program} {md : Region.Mode} {l : List Oper} {o : Oper} {Q : Exit → Act → World → Prop}
theorem full_get {j : Nat} (h : j < l.length) : (l ++ [o]).toArray[j]? = l.toArray[j]? := by
  rw [List.getElem?_toArray, List.getElem?_toArray, List.getElem?_append_left h]
theorem full_last : (l ++ [o]).toArray[l.length]? = some o := by rw [List.getElem?_toArray]; simp
/-- What has come up in the region, and in the region without its last operation. -/
structure Agree (m : Nat) (L Lp : Array Bool) : Prop where
  size : L.size = m + 1
  sizep : Lp.size = m
  same : ∀ i, i < m → L[i]? = Lp[i]?
theorem Agree.set {m i : Nat} {L Lp : Array Bool} (h : Agree m L Lp) (_ : i < m) : Agree m (L.setIfInBounds i true) (Lp.setIfInBounds i true) :=
  ⟨by simp [h.size], by simp [h.sizep], fun j hj => by
    rw [Array.getElem?_setIfInBounds, Array.getElem?_setIfInBounds, h.same j hj, h.size, h.sizep]
    by_cases hij : i = j
    · simp [hij, hj]; omega
    · simp [hij]⟩
theorem Agree.getD {m i : Nat} {L Lp : Array Bool} (h : Agree m L Lp) (hi : i < m) (b : Bool) : L.getD i b = Lp.getD i b := by
  have := h.same i hi
  simp only [Array.getD_eq_getD_getElem?, this]
theorem ready_agree (hp : plainB (l ++ [o]) = true) {L Lp : Array Bool} (h : Agree l.length L Lp) {j : Nat} (hj : j < l.length) : j ∈ Region.ready md (l ++ [o]).toArray L ↔ j ∈ Region.ready md l.toArray Lp := by
  rw [mem_ready, mem_ready, full_get hj, h.getD hj]
  constructor
  · rintro ⟨h1, x, hx, h2⟩
    have hx2 : (l ++ [o])[j]? = some x := by rw [← List.getElem?_toArray, full_get hj]; exact hx
    refine ⟨h1, x, hx, fun e he hb => ?_⟩
    have := (plainB_spec hp hx2).2 e he
    rw [← h.getD (by omega)]
    exact h2 e he hb
  · rintro ⟨h1, x, hx, h2⟩
    have hx2 : (l ++ [o])[j]? = some x := by rw [← List.getElem?_toArray, full_get hj]; exact hx
    refine ⟨h1, x, hx, fun e he hb => ?_⟩
    have := (plainB_spec hp hx2).2 e he
    rw [h.getD (by omega)]
    exact h2 e he hb
/-- Something may come up as long as not all have come up. -/
theorem ready_some (hp : plainB (l ++ [o]) = true) {L : Array Bool} (hs : L.size = l.length + 1) (hl : L.getD l.length true = false) : Region.ready md (l ++ [o]).toArray L ≠ [] := by
  have key : ∀ k, k ≤ l.length → L.getD k true = false → ∃ i, i ∈ Region.ready md (l ++ [o]).toArray L := by
    intro k
    induction k using Nat.strongRecOn with
    | _ k ih =>
      intro hk hun
      by_cases hall : ∀ i, i < k → L.getD i true = true
      · obtain ⟨x, hx⟩ : ∃ x, (l ++ [o])[k]? = some x := ⟨_, List.getElem?_eq_getElem (by simp; omega)⟩
        refine ⟨k, mem_ready.2 ⟨hun, x, by rw [List.getElem?_toArray]; exact hx, fun e he _ => ?_⟩⟩
        have h1 := (plainB_spec hp hx).2 e he
        have h2 := hall _ h1
        have h3 : e.on < L.size := by omega
        simp only [Array.getD_eq_getD_getElem?, Array.getElem?_eq_getElem h3, Option.getD_some] at h2 ⊢
        exact h2
      · obtain ⟨i, hi⟩ := Classical.not_forall.1 hall
        obtain ⟨hik, hne⟩ := Classical.not_imp.1 hi
        exact ih i hik (by omega) (by simpa using hne)
  obtain ⟨i, hi⟩ := key l.length (Nat.le_refl _) hl
  exact List.ne_nil_of_mem hi
theorem wpAny_last (hp : plainB (l ++ [o]) = true) (hs : Region.sinkB md (l ++ [o]).toArray l.length = true) (hc : Region.chainB md (l ++ [o]).toArray l.length = true) :
    ∀ (fuel : Nat) (L Lp : Array Bool) (a : Act) (w : World), Agree l.length L Lp → HeadInv md (l ++ [o]).toArray l.length L → wpAny P md l.toArray (LastQ P o Q) fuel Lp a w → wpAny P md (l ++ [o]).toArray Q (fuel + 1) L a w := by
  have hn : l.length < (l ++ [o]).toArray.size := by simp
  have hm : (l ++ [o])[l.length]? = some o := by simp
  have hgo := (plainB_spec hp hm).1
  -- the last operation, where it comes up
  have last : ∀ (fuel : Nat) (L Lp : Array Bool) (a : Act) (w : World), Agree l.length L Lp → HeadInv md (l ++ [o]).toArray l.length L → l.length ∈ Region.ready md (l ++ [o]).toArray L → LastQ P o Q .normal a w →
      wpOp P (l ++ [o]).toArray Q l.length (wpAny P md (l ++ [o]).toArray Q fuel (L.setIfInBounds l.length true)) a w := by
    intro fuel L Lp a w hA hI hr hq
    have all : ∀ i, i < l.length → L.getD i true = true := fun i hi => by
      by_cases hun : L.getD i true = false
      · exact absurd hr (tail_waits hs hc hn hI _ i rfl hi hun _ (Nat.le_refl _))
      · simpa using hun
    unfold wpOp
    rw [full_last]
    simp only
    rw [if_pos (by unfold Region.wanted; rw [hgo])]
    refine .inl (Oper.wp_mono (fun a' w' h => wpAny_done ?_ h _) hq)
    apply List.eq_nil_iff_forall_not_mem.2
    intro j hj
    obtain ⟨h1, x, hx, _⟩ := mem_ready.1 hj
    have hjl : j < l.length + 1 := by have := (Array.getElem?_eq_some_iff.1 hx).1; simpa using this
    by_cases hjm : j = l.length
    · subst hjm
      simp only [Array.getD_eq_getD_getElem?, Array.getElem?_setIfInBounds, hA.size] at h1
      simp at h1
    · rw [getD_set_ne true (by omega)] at h1
      have := all j (by omega)
      rw [this] at h1
      cases h1
  intro fuel
  induction fuel with
  | zero =>
    intro L Lp a w hA hI h
    refine ⟨fun h0 => absurd h0 (ready_some hp hA.size (hI.tail _ (Nat.le_refl _) hn)), fun i hi => ?_⟩
    by_cases him : i = l.length
    · subst him
      exact last _ L Lp a w hA hI hi h.2
    · have hil : i < l.length := by have := (Array.getElem?_eq_some_iff.1 (mem_ready.1 hi).2.choose_spec.1).1; simp at this; omega
      have := (ready_agree hp hA hil).1 hi
      rw [h.1] at this
      cases this
  | succ fuel ih =>
    intro L Lp a w hA hI h
    refine ⟨fun h0 => absurd h0 (ready_some hp hA.size (hI.tail _ (Nat.le_refl _) hn)), fun i hi => ?_⟩
    by_cases him : i = l.length
    · subst him
      have hr0 : Region.ready md l.toArray Lp = [] := by
        apply List.eq_nil_iff_forall_not_mem.2
        intro j hj
        obtain ⟨h1, x, hx, _⟩ := mem_ready.1 hj
        have hjl : j < l.length := by have := (Array.getElem?_eq_some_iff.1 hx).1; simpa using this
        have hun : L.getD j true = false := by rw [hA.getD hjl]; exact h1
        exact tail_waits hs hc hn hI _ j rfl hjl hun _ (Nat.le_refl _) hi
      exact last _ L Lp a w hA hI hi (h.1 hr0)
    · obtain ⟨hun, x, hx, hall⟩ := mem_ready.1 hi
      have hil : i < l.length := by have := (Array.getElem?_eq_some_iff.1 hx).1; simp at this; omega
      have h2 := h.2 i ((ready_agree hp hA hil).1 hi)
      have hx1 : l.toArray[i]? = some x := by rw [← full_get hil]; exact hx
      have hg : x.guard = none := (plainB_spec hp (by rw [← List.getElem?_toArray]; exact hx)).1
      unfold wpOp at h2 ⊢
      rw [hx1] at h2
      rw [hx]
      simp only at h2 ⊢
      rw [if_pos (by unfold Region.wanted; rw [hg])] at h2 ⊢
      rcases h2 with h2 | ⟨h2, h3⟩
      · refine .inl ?_
        unfold Oper.wp at h2 ⊢
        exact upon_last (fun a' w' h4 => ih _ _ a' w' (hA.set hil) (hI.set hi hil) h4) _ h2
      · obtain ⟨a3, w3, h3⟩ := h3
        exact .inr ⟨h2, a3, w3, h3⟩
/-- A region with a last operation: the others by 'wpAnyH', S holding behind each of them. -/
theorem wpAny_lastH {S : World → Prop} (hp : plainB (l ++ [o]) = true) (hs : Region.sinkB md (l ++ [o]).toArray l.length = true) (hc : Region.chainB md (l ++ [o]).toArray l.length = true) {a : Act} {w : World}
    (h : wpAnyH P md l.toArray (LastQ P o Q) S l.length (Array.replicate l.length false) a w) : wpAny P md (l ++ [o]).toArray Q (l ++ [o]).toArray.size (Array.replicate (l ++ [o]).toArray.size false) a w := by
  have e : (l ++ [o]).toArray.size = l.length + 1 := by simp
  rw [e]
  refine wpAny_last hp hs hc _ _ _ a w ⟨by simp, by simp, fun i hi => by rw [Array.getElem?_replicate, Array.getElem?_replicate]; simp [hi]; omega⟩ ⟨by simp, fun j oj _ hl => ?_, fun t _ ht => ?_⟩ (wpAny_of_held _ _ _ _ h)
  · rw [getD_replicate_false] at hl; cases hl
  · exact getD_in (by simpa using ht) (getD_replicate_false _ _)
/-- The same, of a list that is written out. -/
theorem wpAny_lastL {S : World → Prop} {L : List Oper} {x : Oper} (hL : L.getLast? = some x) (hp : plainB L = true) (hs : Region.sinkB md L.toArray (L.length - 1) = true) (hc : Region.chainB md L.toArray (L.length - 1) = true) {a : Act} {w : World}
    (h : wpAnyH P md L.dropLast.toArray (LastQ P x Q) S L.dropLast.length (Array.replicate L.dropLast.length false) a w) : wpAny P md L.toArray Q L.toArray.size (Array.replicate L.toArray.size false) a w := by
  have e : L.dropLast ++ [x] = L := by
    obtain ⟨ys, rfl⟩ := List.getLast?_eq_some_iff.1 hL
    rw [List.dropLast_concat]
  have e2 : L.length - 1 = L.dropLast.length := by rw [List.length_dropLast]
  rw [e2] at hs hc
  generalize hd : L.dropLast = D at *
  rw [← e] at hp hs hc ⊢
  exact wpAny_lastH hp hs hc h
end
end Go.Proofs.YtlhdhfhfdkldjaaDoor
