/-
  A region that draws its order, whose operations up to number n only read or call functions that leave what was there as it was, and whose last ones come in one forced order: one walk of the order of the text serves every order. (The class of worlds: all that differ from the first one by draws and new blocks.) No condition but what the theorem says.
-/
import Derived.Test.YtodmbcoobjcooaaDoorBase
import Derived.StillTail
import Derived.Lib.QuietBelow
namespace Go.Proofs.YtodmbcoobjcooaaDoor
open Go.RowKit Go.Sort
section
variable {P : Program} {ops : Array Oper} {md : Region.Mode} {C : World → Prop}

/-- The head of a region, in whatever order: each operation that may come up is one of the first n and quiet in the class; then L. -/
def wpHead (P : Program) (md : Region.Mode) (ops : Array Oper) (C : World → Prop) (n : Nat) (L : Array Bool → Act → Prop) : Nat → Array Bool → Act → Prop
  | 0, listed, a => L listed a
  | f + 1, listed, a => Region.ready md ops listed ≠ [] ∧ ∀ i ∈ Region.ready md ops listed, i < n ∧ qOp P ops C i (wpHead P md ops C n L f (listed.setIfInBounds i true)) a

theorem wpAny_of_wpHead {n g : Nat} {L : Array Bool → Act → Prop} {Q : Exit → Act → World → Prop} (hL : ∀ listed a w, C w → L listed a → wpAny P md ops Q g listed a w) :
    ∀ (f : Nat) (listed : Array Bool) (a : Act) (w : World), C w → wpHead P md ops C n L f listed a → wpAny P md ops Q (f + g) listed a w := by
  intro f
  induction f with
  | zero => intro listed a w hw h; rw [Nat.zero_add]; exact hL _ _ _ hw h
  | succ f ih =>
    intro listed a w hw h
    rw [Nat.succ_add]
    exact ⟨fun h0 => absurd h0 h.1, fun i hi => wpOp_of_qOp hw (fun a' w' hw' h' => ih _ a' w' hw' h') (h.2 i hi).2⟩

theorem wpHead_take {n i : Nat} {oi : Oper} {v : Value} {L : Array Bool → Act → Prop} (hi : ops[i]? = some oi) (hsel : ∀ (j : Nat) (o : Oper) cs b, ops[j]? = some o → o.op ≠ .select cs b)
    (hs : Region.sinkB md ops n = true) (hc : Region.chainB md ops n = true) (hn : n < ops.size) (hin : i < n)
    (hdone : ∀ listed a, L listed a → ∀ j ∈ Region.ready md ops listed, n ≤ j) (f : Nat) :
    ∀ (listed : Array Bool) (a : Act), HeadInv md ops n listed →
      (∀ j oj, ops[j]? = some oj → j ≠ i → listed.getD j true = false → (∀ e ∈ oj.after, Region.binds md e = true → e.on ≠ i) → oi.apart ops oj = true) →
      i ∈ Region.ready md ops listed → YieldsIn P ops C oi v a →
      wpHead P md ops C n L f (listed.setIfInBounds i true) (a.put oi.dst v) → wpHead P md ops C n L (f + 1) listed a := by
  induction f with
  | zero =>
    intro listed a inv _ hr hy H
    refine ⟨List.ne_nil_of_mem hr, fun j hj => ?_⟩
    have hun := (mem_ready.1 hr).1
    have hjn : j < n := Nat.lt_of_not_le fun h => tail_waits hs hc hn inv _ i rfl hin hun j h hj
    by_cases hji : j = i
    · subst hji
      exact ⟨hjn, hy.qOp hi H⟩
    · exact absurd (hdone _ _ H j (ready_mono hj hji)) (by omega)
  | succ f ih =>
    intro listed a inv hfree hr hy H
    refine ⟨List.ne_nil_of_mem hr, fun j hj => ?_⟩
    have hun := (mem_ready.1 hr).1
    have hjn : j < n := Nat.lt_of_not_le fun h => tail_waits hs hc hn inv _ i rfl hin hun j h hj
    by_cases hji : j = i
    · subst hji
      exact ⟨hjn, hy.qOp hi H⟩
    · refine ⟨hjn, ?_⟩
      obtain ⟨hjun, oj, hoj, hall⟩ := mem_ready.1 hj
      have hnot : ∀ e ∈ oj.after, Region.binds md e = true → e.on ≠ i := fun e he hb heq => by
        have h1 := hall e he hb
        rw [heq, getD_both hun] at h1
        cases h1
      refine qOp_mono (fun a' h3 => ih _ a' (inv.set hj hjn) (fun k ok hk hki hku hno => hfree k ok hk hki ?_ hno) (ready_mono hr (Ne.symm hji)) h3.1 ?_)
        (qOp_put hoj (hfree j oj hoj hji hjun hnot) (fun cs b => hsel i oi cs b hi) (fun cs b => hsel j oj cs b hoj) hy (H.2 j (ready_mono hj hji)).2)
      · by_cases hjk : j = k
        · exact hjk ▸ hjun
        · rwa [getD_set_ne true hjk] at hku
      · rw [Array.setIfInBounds_comm _ _ hji]
        exact h3.2

theorem wpHead_text {n g : Nat} {Lq : Act → Prop} (hsel : Region.noSelect ops = true) (hs : Region.sinkB md ops n = true) (hc : Region.chainB md ops n = true) (hn : n < ops.size) (l : List Oper) :
    ∀ (k : Nat) (listed : Array Bool) (a : Act), (∀ j, j < l.length → l[j]? = ops[k + j]?) → k + l.length = n → HeadInv md ops n listed →
    Region.lexHead md ops g l.length k listed = true → wpQuiet P ops C Lq l a →
    wpHead P md ops C n (fun listed' a' => Region.seqB md ops g n listed' = true ∧ Lq a') l.length listed a := by
  induction l with
  | nil =>
    intro k listed a _ hk _ hB h
    obtain rfl : k = n := by simpa using hk
    exact ⟨by simpa [Region.lexHead] using hB, h⟩
  | cons o l ih =>
    intro k listed a hl hk inv hB h
    simp only [List.length_cons] at hk
    have h0 : ops[k]? = some o := by simpa using (hl 0 (by simp)).symm
    simp only [List.length_cons, Region.lexHead, Bool.and_eq_true] at hB
    obtain ⟨⟨hr, hf⟩, hB'⟩ := hB
    have hr' : k ∈ Region.ready md ops listed := by simpa using hr
    obtain ⟨v, hy, hK⟩ := yieldsIn_of_qOp (C := C) (K := wpQuiet P ops C Lq l) h0 (by unfold qOp; simp only [h0]; exact h)
    exact wpHead_take h0 (Region.noSelect_spec hsel) hs hc hn (by omega) (fun _ _ hL => seqB_ready hL.1) _ listed a inv (Region.free_spec h0 hf) hr' hy
      (ih (k + 1) _ _ (fun j hj => by have := hl (j + 1) (by simp; omega); simpa [Nat.add_assoc, Nat.add_comm 1 j] using this) (by omega) (inv.set hr' (by omega)) hB' hK)

/-- **The first n operations only read, or call what leaves all that was there; the others come in order.** -/
theorem wp_region_tail {id : Nat} {Q : Exit → Act → World → Prop} {a : Act} {w : World} {l : List Oper} (n : Nat) (hm : P.follows .mixedOrders = true) (hB : Region.lexTailB .any l.toArray n = true)
    (h : wpQuiet P l.toArray (fun w' => ∃ p : Regrown, w' = grow (redrawn w p.d) p.os) (fun a' => ∀ w', Below w.heap.size w w' → wpList P l.toArray Q (l.drop n) a' w') (l.take n) a) : (Code.region id l.toArray true).wp P Q a w := by
  simp only [Region.lexTailB, Bool.and_eq_true, decide_eq_true_eq] at hB
  obtain ⟨⟨⟨⟨hsel, hn⟩, hs⟩, hc⟩, hlex⟩ := hB
  have hn' : n < l.length := by simpa using hn
  have htl : (l.take n).length = n := by simp; omega
  have hdl : (l.drop n).length = l.toArray.size - n := by simp
  have inv0 : HeadInv .any l.toArray n (Array.replicate l.toArray.size false) :=
    ⟨by simp, fun j oj _ hl => (by rw [getD_replicate_false] at hl; cases hl), fun t _ ht => getD_in (by simpa using ht) (getD_replicate_false _ _)⟩
  have H := wpHead_text (md := .any) (g := l.toArray.size - n) hsel hs hc hn (l.take n) 0 _ a (fun j hj => by rw [htl] at hj; simp [hj]) (by simpa using htl) inv0 (by rw [htl]; exact hlex) h
  refine wp_region_any hm ?_
  have hC : (fun w' => ∃ p : Regrown, w' = grow (redrawn w p.d) p.os) { w with drawn := w.drawn + 1 } := ⟨⟨w.drawn + 1, #[]⟩, by rw [grow_empty]; rfl⟩
  have := wpAny_of_wpHead (Q := Q) (g := l.toArray.size - n) (fun listed a' w' hw' hL => by
    obtain ⟨p, rfl⟩ := hw'
    have := wpAny_of_seq (md := .any) (Q' := Q) (l.drop n) n listed a' (grow (redrawn w p.d) p.os) (fun j => by simp [List.getElem?_drop]) (by rw [hdl]; exact hL.1) (hL.2 _ (below_regrown w p.d p.os))
    rwa [hdl] at this) _ _ _ _ hC H
  rw [htl, show n + (l.toArray.size - n) = l.toArray.size by omega] at this
  exact this
end
/-- A callee's contract, met in a world of the class. -/
theorem regrown_new {P : Program} {f : FuncId} {args : Array Value} {w : World} {d : Nat} {os : Array Obj} {v : Value}
    (h : Calls P f args (grow (redrawn w d) os) fun e w' => e = .returned v ∧ New (grow (redrawn w d) os) w') : Calls P f args (grow (redrawn w d) os) fun e w'' => e = .returned v ∧ ∃ p : Regrown, w'' = grow (redrawn w p.d) p.os :=
  Calls.regrown_of h

open Go.Sort
section
variable {P : Program} {ops : Array Oper} {md : Region.Mode} {D : Bool → World → Prop} {m : Nat}

/-- Operation m, the one that writes, comes up: it takes every world of the class 'not yet written' to one of the class 'written'. -/
def sOp (P : Program) (ops : Array Oper) (D : Bool → World → Prop) (m : Nat) (b : Bool) (K : Act → Prop) (a : Act) : Prop :=
  b = false ∧ ∃ o, ops[m]? = some o ∧ Region.wanted o (yielded ops a.tmps) = true ∧ (∀ w, D false w → ∃ w', (execOp a.eval o).run P w = .ok .skip w' ∧ D true w') ∧ K (a.put o.dst undef)

/-- Whatever order is picked from here on; b: has operation m come up? -/
def wpAnyS (P : Program) (md : Region.Mode) (ops : Array Oper) (D : Bool → World → Prop) (m : Nat) (Q : Act → Prop) : Nat → Bool → Array Bool → Act → Prop
  | 0, b, listed, a => Region.ready md ops listed = [] ∧ b = true ∧ Q a
  | f + 1, b, listed, a => (Region.ready md ops listed = [] → b = true ∧ Q a) ∧
    ∀ i ∈ Region.ready md ops listed, if i = m then sOp P ops D m b (wpAnyS P md ops D m Q f true (listed.setIfInBounds i true)) a
      else qOp P ops (D b) i (wpAnyS P md ops D m Q f b (listed.setIfInBounds i true)) a

theorem wpAny_of_S {Q : Act → Prop} {Q' : Exit → Act → World → Prop} (hQ : ∀ a w, D true w → Q a → Q' .normal a w) (f : Nat) :
    ∀ (b : Bool) (listed : Array Bool) (a : Act) (w : World), D b w → wpAnyS P md ops D m Q f b listed a → wpAny P md ops Q' f listed a w := by
  induction f with
  | zero =>
    intro b listed a w hw h
    obtain ⟨h0, rfl, hq⟩ := h
    exact ⟨h0, hQ _ _ hw hq⟩
  | succ f ih =>
    intro b listed a w hw h
    refine ⟨fun h0 => ?_, fun i hi => ?_⟩
    · obtain ⟨rfl, hq⟩ := h.1 h0
      exact hQ _ _ hw hq
    · have h2 := h.2 i hi
      by_cases him : i = m
      · subst him
        rw [if_pos rfl] at h2
        obtain ⟨rfl, o, ho, hwt, hst, hK⟩ := h2
        obtain ⟨w', hrun, hw'⟩ := hst w hw
        unfold wpOp
        simp only [ho, hwt, if_true]
        refine .inl ?_
        unfold Oper.wp
        rw [hrun]
        exact ih _ _ _ _ hw' hK
      · rw [if_neg him] at h2
        exact wpOp_of_qOp hw (fun a' w' hw' h' => ih b _ a' w' hw' h') h2

/-- One value in both classes. -/
def YieldsBoth (P : Program) (ops : Array Oper) (D : Bool → World → Prop) (o : Oper) (v : Value) (a : Act) : Prop := ∀ b, YieldsIn P ops (D b) o v a

theorem wpAnyS_take {Q : Act → Prop} {i : Nat} {oi : Oper} {v : Value} (hi : ops[i]? = some oi) (him : i ≠ m) (hsel : ∀ (j : Nat) (o : Oper) cs b, ops[j]? = some o → o.op ≠ .select cs b) (f : Nat) :
    ∀ (b : Bool) (listed : Array Bool) (a : Act),
      (∀ j oj, ops[j]? = some oj → j ≠ i → listed.getD j true = false → (∀ e ∈ oj.after, Region.binds md e = true → e.on ≠ i) → oi.apart ops oj = true) →
      i ∈ Region.ready md ops listed → YieldsBoth P ops D oi v a →
      wpAnyS P md ops D m Q f b (listed.setIfInBounds i true) (a.put oi.dst v) → wpAnyS P md ops D m Q (f + 1) b listed a := by
  induction f with
  | zero =>
    intro b listed a _ hr hy H
    refine ⟨fun h => absurd h (List.ne_nil_of_mem hr), fun j hj => ?_⟩
    by_cases hji : j = i
    · subst hji
      rw [if_neg him]
      exact (hy b).qOp hi H
    · have := ready_mono hj hji
      rw [H.1] at this
      cases this
  | succ f ih =>
    intro b listed a hfree hr hy H
    refine ⟨fun h => absurd h (List.ne_nil_of_mem hr), fun j hj => ?_⟩
    by_cases hji : j = i
    · subst hji
      rw [if_neg him]
      exact (hy b).qOp hi H
    · have h1 := H.2 j (ready_mono hj hji)
      obtain ⟨hjun, oj, hoj, hall⟩ := mem_ready.1 hj
      have hnot : ∀ e ∈ oj.after, Region.binds md e = true → e.on ≠ i := fun e he hb heq => by
        have h1 := hall e he hb
        rw [heq, getD_both (mem_ready.1 hr).1] at h1
        cases h1
      have hap := hfree j oj hoj hji hjun hnot
      obtain ⟨p1, p2, p3⟩ := Oper.apart_spec hap
      have si : ∀ cs b, oi.op ≠ .select cs b := fun cs b => hsel i oi cs b hi
      have sj : ∀ cs b, oj.op ≠ .select cs b := fun cs b => hsel j oj cs b hoj
      have keep : ∀ (a : Act), YieldsBoth P ops D oi v a → ∀ u, YieldsBoth P ops D oi v (a.put oj.dst u) := fun a hy u b =>
        (hy b).of_same (execOp_put oi si a oj.dst u p3) (wanted_put oi a oj.dst u p3)
      have hfree' : ∀ k ok, ops[k]? = some ok → k ≠ i → (listed.setIfInBounds j true).getD k true = false →
          (∀ e ∈ ok.after, Region.binds md e = true → e.on ≠ i) → oi.apart ops ok = true := fun k ok hk hki hun hno => by
        refine hfree k ok hk hki ?_ hno
        by_cases hjk : j = k
        · exact hjk ▸ hjun
        · rwa [getD_set_ne true hjk] at hun
      have next : ∀ b a', YieldsBoth P ops D oi v a' → wpAnyS P md ops D m Q f b ((listed.setIfInBounds i true).setIfInBounds j true) (a'.put oi.dst v) → wpAnyS P md ops D m Q (f + 1) b (listed.setIfInBounds j true) a' :=
        fun b a' hy' h' => ih b _ a' hfree' (ready_mono hr (Ne.symm hji)) hy' (by rw [Array.setIfInBounds_comm _ _ hji]; exact h')
      by_cases hjm : j = m
      · subst hjm
        rw [if_pos rfl] at h1 ⊢
        obtain ⟨hb, o, ho, hwt, hst, hK⟩ := h1
        obtain rfl : o = oj := Option.some.inj (ho.symm.trans hoj)
        refine ⟨hb, o, ho, by rwa [wanted_put o a oi.dst v p1] at hwt, fun w hw => ?_, next _ _ (keep a hy _) (by rw [← Act.put_comm a v undef p2]; exact hK)⟩
        have := hst w hw
        rwa [execOp_put o sj a oi.dst v p1] at this
      · rw [if_neg hjm] at h1 ⊢
        have h2 : qOp P ops (D b) j (fun a' => YieldsBoth P ops D oi v a' ∧ wpAnyS P md ops D m Q f b ((listed.setIfInBounds i true).setIfInBounds j true) (a'.put oi.dst v)) a := by
          have h3 := h1
          unfold qOp at h3 ⊢
          simp only [hoj] at h3 ⊢
          rw [wanted_put oj a oi.dst v p1] at h3
          split
          · rename_i hw
            simp only [hw, if_true] at h3
            obtain ⟨u, hu, hn⟩ := h3
            refine ⟨u, fun w hw' => ?_, keep a hy u, by rw [← Act.put_comm a v u p2]; exact hn⟩
            have := hu w hw'
            unfold Oper.quietAt at *
            rwa [execOp_put oj sj a oi.dst v p1] at this
          · rename_i hw
            simp only [hw] at h3
            exact ⟨keep a hy _, by rw [← Act.put_comm a v undef p2]; exact h3⟩
        exact qOp_mono (fun a' h3 => next b a' h3.1 h3.2) h2

/-- The order of the text can be had: each operation may come up when all before it have; m alone. -/
def lexS (md : Region.Mode) (ops : Array Oper) (m : Nat) : Nat → Nat → Array Bool → Bool
  | 0, _, listed => (Region.ready md ops listed).isEmpty
  | f + 1, k, listed => (if k = m then decide (Region.ready md ops listed = [k]) else (Region.ready md ops listed).contains k && Region.free md ops listed k) && lexS md ops m f (k + 1) (listed.setIfInBounds k true)

/-- The walk in the order of the text, in two families of worlds at once: W false, before the store; W true, behind it. -/
def wpBoth (P : Program) (ops : Array Oper) (W : Bool → World) (m : Nat) (Q : Act → Prop) : List Oper → Nat → Act → Prop
  | [], _, a => Q a
  | o :: rest, k, a =>
    if k = m then Region.wanted o (yielded ops a.tmps) = true ∧ (∀ d os, (execOp a.eval o).run P (grow (redrawn (W false) d) os) = .ok .skip (grow (redrawn (W true) d) os)) ∧ wpBoth P ops W m Q rest (k + 1) (a.put o.dst undef)
    else if Region.wanted o (yielded ops a.tmps) then ∃ v, (∀ b d os, Oper.quietAt P o a (fun w' => ∃ p : Regrown, w' = grow (redrawn (W b) p.d) p.os) (grow (redrawn (W b) d) os) v) ∧ wpBoth P ops W m Q rest (k + 1) (a.put o.dst v)
    else wpBoth P ops W m Q rest (k + 1) (a.put o.dst undef)

theorem wpS_text {W : Bool → World} {Q : Act → Prop} (hsel : Region.noSelect ops = true) (l : List Oper) :
    ∀ (k : Nat) (listed : Array Bool) (a : Act), (∀ j, l[j]? = ops[k + j]?) → lexS md ops m l.length k listed = true → m < k + l.length →
    wpBoth P ops W m Q l k a → wpAnyS P md ops (fun b w' => ∃ p : Regrown, w' = grow (redrawn (W b) p.d) p.os) m Q l.length (decide (m < k)) listed a := by
  induction l with
  | nil =>
    intro k listed a _ hB hk h
    exact ⟨by simpa [lexS] using hB, by simpa using hk, h⟩
  | cons o l ih =>
    intro k listed a hl hB hk h
    have h0 : ops[k]? = some o := by simpa using (hl 0).symm
    have hl' : ∀ j, l[j]? = ops[k + 1 + j]? := fun j => by have := hl (j + 1); simpa [Nat.add_assoc, Nat.add_comm 1 j] using this
    simp only [List.length_cons, lexS, Bool.and_eq_true] at hB
    obtain ⟨hB1, hB'⟩ := hB
    unfold wpBoth at h
    by_cases hkm : k = m
    · subst hkm
      rw [if_pos rfl] at hB1 h
      have hr : Region.ready md ops listed = [k] := by simpa using hB1
      obtain ⟨hwt, hst, hK⟩ := h
      have hd : decide (k < k) = false := by simp
      have hd1 : decide (k < k + 1) = true := by simp
      rw [hd]
      refine ⟨(fun h => by rw [hr] at h; cases h), fun i hi => ?_⟩
      rw [hr] at hi
      obtain rfl : i = k := by simpa using hi
      rw [if_pos rfl]
      refine ⟨rfl, o, h0, hwt, fun w hw => ?_, ?_⟩
      · have hw2 : ∃ p : Regrown, w = grow (redrawn (W false) p.d) p.os := hw
        obtain ⟨p, rfl⟩ := hw2
        exact ⟨_, hst p.d p.os, p, rfl⟩
      · have := ih (i + 1) (listed.setIfInBounds i true) _ hl' hB' (by simp at hk; omega) hK
        rwa [hd1] at this
    · rw [if_neg hkm] at hB1 h
      simp only [Bool.and_eq_true] at hB1
      have hr' : k ∈ Region.ready md ops listed := by simpa using hB1.1
      have hdd : decide (m < k + 1) = decide (m < k) := by
        by_cases hq : m < k
        · simp [hq]; omega
        · simp [hq]; omega
      have hy : ∃ v, YieldsBoth P ops (fun b w' => ∃ p : Regrown, w' = grow (redrawn (W b) p.d) p.os) o v a ∧ wpBoth P ops W m Q l (k + 1) (a.put o.dst v) := by
        by_cases hw : Region.wanted o (yielded ops a.tmps) = true
        · rw [if_pos hw] at h
          obtain ⟨v, hv, hK⟩ := h
          exact ⟨v, fun b => .inl ⟨hw, fun w hw' => by
            have hw2 : ∃ p : Regrown, w = grow (redrawn (W b) p.d) p.os := hw'
            obtain ⟨p, rfl⟩ := hw2
            exact hv b p.d p.os⟩, hK⟩
        · rw [if_neg hw] at h
          exact ⟨undef, fun b => .inr ⟨by simpa using hw, rfl⟩, h⟩
      obtain ⟨v, hy, hK⟩ := hy
      have H := ih (k + 1) (listed.setIfInBounds k true) _ hl' hB' (by simp at hk; omega) hK
      rw [hdd] at H
      exact wpAnyS_take h0 hkm (Region.noSelect_spec hsel) _ _ listed a (Region.free_spec h0 hB1.2) hr' hy H

/-- **One operation, number m, writes; all others only read, or call what leaves all that was there, in either family of worlds: one walk in the order of the text serves every order.** -/
theorem wp_region_store {id : Nat} {Q : Exit → Act → World → Prop} {a : Act} {w : World} {l : List Oper} (m : Nat) (W : Bool → World) (hW : W false = w) (hm : P.follows .mixedOrders = true)
    (hB : (Region.noSelect l.toArray && decide (m < l.toArray.size) && lexS .any l.toArray m l.length 0 (Array.replicate l.toArray.size false)) = true)
    (h : wpBoth P l.toArray W m (fun a' => ∀ w', Below (W true).heap.size (W true) w' → Q .normal a' w') l 0 a) : (Code.region id l.toArray true).wp P Q a w := by
  subst hW
  simp only [Bool.and_eq_true, decide_eq_true_eq] at hB
  obtain ⟨⟨hsel, hlt⟩, hlex⟩ := hB
  refine wp_region_any hm ?_
  have H := wpS_text (P := P) (md := .any) hsel l 0 _ a (fun j => by simp) hlex (by simpa using hlt) h
  have hd : decide (m < 0) = false := by simp
  rw [hd] at H
  have hC : ∃ p : Regrown, ({ W false with drawn := (W false).drawn + 1 } : World) = grow (redrawn (W false) p.d) p.os := ⟨⟨(W false).drawn + 1, #[]⟩, by rw [grow_empty]; rfl⟩
  have := wpAny_of_S (Q' := Q) (fun a' w' hw' hq => by
    have hw2 : ∃ p : Regrown, w' = grow (redrawn (W true) p.d) p.os := hw'
    obtain ⟨p, rfl⟩ := hw2
    exact hq _ (below_regrown _ p.d p.os)) _ _ _ _ _ hC H
  simpa using this
theorem wpBoth_nil {W : Bool → World} {Q : Act → Prop} {k : Nat} {a : Act} (h : Q a) : wpBoth P ops W m Q [] k a := h
theorem wpBoth_step {W : Bool → World} {Q : Act → Prop} {o : Oper} {rest : List Oper} {k : Nat} {a : Act} (hk : (k == m) = false)
    (h : ∀ K : Act → Prop, (∀ a, wpBoth P ops W m Q rest (k + 1) a → K a) → if Region.wanted o (yielded ops a.tmps) then ∃ v, (∀ b d os, Oper.quietAt P o a (fun w' => ∃ p : Regrown, w' = grow (redrawn (W b) p.d) p.os) (grow (redrawn (W b) d) os) v) ∧ K (a.put o.dst v) else K (a.put o.dst undef)) :
    wpBoth P ops W m Q (o :: rest) k a := by
  unfold wpBoth
  rw [if_neg (by simpa using hk)]
  exact h _ (fun _ h => h)
theorem wpBoth_store {W : Bool → World} {Q : Act → Prop} {o : Oper} {rest : List Oper} {a : Act} (hw : Region.wanted o (yielded ops a.tmps) = true)
    (hr : ∀ d os, (execOp a.eval o).run P (grow (redrawn (W false) d) os) = .ok .skip (grow (redrawn (W true) d) os)) (h : wpBoth P ops W m Q rest (m + 1) (a.put o.dst undef)) :
    wpBoth P ops W m Q (o :: rest) m a := by
  unfold wpBoth
  rw [if_pos rfl]
  exact ⟨hw, hr, h⟩
end

theorem set_regrown {w : World} {p : Addr} (h : p.block < w.heap.size) (v : Value) (d : Nat) (os : Array Obj) : (grow (redrawn w d) os).setCell p v = grow (redrawn (w.setCell p v) d) os := by
  simp only [grow, redrawn, World.setCell]
  congr 1
  apply Array.ext_getElem?
  intro i
  rw [Array.getElem?_modify, Array.getElem?_append, Array.getElem?_append, Array.getElem?_modify, Array.size_modify]
  by_cases hi : i < w.heap.size
  · simp [hi]
  · rw [if_neg hi, if_neg hi, if_neg (by omega)]
/-- The world before and behind the store of four cells into block r. -/
def wSet (w : World) (r : Nat) (v0 v1 v2 v3 : Value) : Bool → World
  | false => w
  | true => (((w.setCell ⟨r, 0, none⟩ v0).setCell ⟨r, 1, none⟩ v1).setCell ⟨r, 2, none⟩ v2).setCell ⟨r, 3, none⟩ v3
theorem both_cell {w : World} {r : Nat} {v0 v1 v2 v3 : Value} {b i : Nat} {v : Value} (h : w.cell? ⟨b, i, none⟩ = some v) (hne : r ≠ b) (β : Bool) (d : Nat) (os : Array Obj) :
    (grow (redrawn (wSet w r v0 v1 v2 v3 β) d) os).cell? ⟨b, i, none⟩ = some v := by
  refine cell_regrown ?_ d os
  cases β
  · exact h
  · have o : ∀ (x : World) (j : Nat) (u : Value), (x.setCell ⟨r, j, none⟩ u).cell? ⟨b, i, none⟩ = x.cell? ⟨b, i, none⟩ := fun x j u => World.cell?_setCell_other _ _ _ _ (by intro e; injection e with e; exact hne e)
    simp only [wSet, o]
    exact h
theorem both_size {w : World} {r : Nat} {v0 v1 v2 v3 : Value} (β : Bool) : (wSet w r v0 v1 v2 v3 β).heap.size = w.heap.size := by
  cases β <;> simp [wSet, World.setCell]
/-- The four stores, carried out in whatever world of the family before. -/
theorem set4_regrown {w : World} {r : Nat} (v0 v1 v2 v3 : Value) (h : r < w.heap.size) (d : Nat) (os : Array Obj) :
    ((((grow (redrawn w d) os).setCell ⟨r, 0, none⟩ v0).setCell ⟨r, 1, none⟩ v1).setCell ⟨r, 2, none⟩ v2).setCell ⟨r, 3, none⟩ v3 = grow (redrawn (wSet w r v0 v1 v2 v3 true) d) os := by
  have hs : ∀ (x : World) (j : Nat) (u : Value), (x.setCell ⟨r, j, none⟩ u).heap.size = x.heap.size := fun x j u => by simp [World.setCell]
  rw [set_regrown h, set_regrown (by rw [hs]; exact h), set_regrown (by rw [hs, hs]; exact h), set_regrown (by rw [hs, hs, hs]; exact h)]
  rfl

section
variable {P : Program} {ops : Array Oper} {m : Nat}
theorem wpBoth_skip {W : Bool → World} {Q : Act → Prop} {o : Oper} {rest : List Oper} {k : Nat} {a : Act} (hk : (k == m) = false) (hw : Region.wanted o (yielded ops a.tmps) = false)
    (h : wpBoth P ops W m Q rest (k + 1) (a.put o.dst undef)) : wpBoth P ops W m Q (o :: rest) k a := by
  unfold wpBoth
  rw [if_neg (by simpa using hk), if_neg (by rw [hw]; decide)]
  exact h
theorem wpBoth_want {W : Bool → World} {Q : Act → Prop} {o : Oper} {rest : List Oper} {k : Nat} {a : Act} (hk : (k == m) = false) (hw : Region.wanted o (yielded ops a.tmps) = true)
    (h : ∀ K : Act → Prop, (∀ a, wpBoth P ops W m Q rest (k + 1) a → K a) → ∃ v, (∀ b d os, Oper.quietAt P o a (fun w' => ∃ p : Regrown, w' = grow (redrawn (W b) p.d) p.os) (grow (redrawn (W b) d) os) v) ∧ K (a.put o.dst v)) :
    wpBoth P ops W m Q (o :: rest) k a := by
  unfold wpBoth
  rw [if_neg (by simpa using hk), if_pos hw]
  exact h _ (fun _ h => h)
end

open Go.Sort
section
variable {P : Program} {ops : Array Oper} {m : Nat}
theorem wpBoth_plain {W : Bool → World} {Q : Act → Prop} {o : Oper} {rest : List Oper} {k : Nat} {a : Act} (hk : (k == m) = false) (hg : o.guard = none)
    (h : ∀ K : Act → Prop, (∀ a, wpBoth P ops W m Q rest (k + 1) a → K a) → ∃ v, (∀ b d os, Oper.quietAt P o a (fun w' => ∃ p : Regrown, w' = grow (redrawn (W b) p.d) p.os) (grow (redrawn (W b) d) os) v) ∧ K (a.put o.dst v)) :
    wpBoth P ops W m Q (o :: rest) k a := wpBoth_want hk (by unfold Region.wanted; rw [hg]) h
end

open Go.Sort
section
variable {P : Program} {ops : Array Oper} {m : Nat}
theorem wpBoth_at {W : Bool → World} {Q : Act → Prop} {o : Oper} {rest : List Oper} {k : Nat} {a : Act} (hk : (k == m) = true) (hw : Region.wanted o (yielded ops a.tmps) = true)
    (hr : ∀ d os, (execOp a.eval o).run P (grow (redrawn (W false) d) os) = .ok .skip (grow (redrawn (W true) d) os)) (h : wpBoth P ops W m Q rest (k + 1) (a.put o.dst undef)) :
    wpBoth P ops W m Q (o :: rest) k a := by
  obtain rfl : k = m := by simpa using hk
  exact wpBoth_store hw hr h
end

-- the elaborator's look at a goal must not unfold the walk
attribute [irreducible] wpBoth

end Go.Proofs.YtodmbcoobjcooaaDoor
