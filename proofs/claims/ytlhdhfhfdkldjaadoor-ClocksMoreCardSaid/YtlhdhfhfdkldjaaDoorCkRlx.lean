/-
  The rounds of relax, at a net that closes: what stands at their heads. Condition: the wave lies in memory.
-/
import Derived.Test.YtlhdhfhfdkldjaaDoorCkMarks
import Derived.Sort.LoopGhostIn
namespace Go.Proofs.YtlhdhfhfdkldjaaDoor
open Go Go.RowKit Go.Shelf
attribute [local go_sem] Oper.semAt_some
/-- One step: the sums and the edges by which they came. -/
def stD (E : List Eg) (d : Nat → Int) (i : Nat) : Nat → Int := if lowB E d i = true then upd d (eAt E i).2.1 (d (eAt E i).1 + (eAt E i).2.2) else d
def stB (E : List Eg) (d b : Nat → Int) (i : Nat) : Nat → Int := if lowB E d i = true then upd b (eAt E i).2.1 i else b
theorem WI.step {E : List Eg} {n src : Nat} {d b : Nat → Int} {M : Int} (hM : 0 ≤ M) (h : WI E n src d b) (hE : EOk E n M) (hcl : Closes E) {i : Nat} (hi : i < E.length) :
    WI E n src (stD E d i) (stB E d b i) ∧ (lowB E d i = false ∧ stD E d i = d ∨ totN n (n * M) (stD E d i) < totN n (n * M) d) := by
  unfold stD stB
  cases hl : lowB E d i with
  | false => simp only [Bool.false_eq_true, if_false]; exact ⟨h, .inl ⟨trivial, trivial⟩⟩
  | true =>
    simp only [if_true]
    unfold lowB at hl
    simp only [Bool.and_eq_true, decide_eq_true_eq] at hl
    have hw := h.lower hE (eAt_get hi) hl.1 hl.2
    have hm : eAt E i ∈ E := List.mem_of_getElem? (eAt_get hi)
    refine ⟨hw, .inr (totN_upd n _ d _ _ (hE.snd _ hm) hl.2 ?_)⟩
    have := low_all hM hw hE (hcl.noloop hw) (hE.snd _ hm)
    rwa [upd_same] at this
theorem WI.rng {E : List Eg} {n src : Nat} {d b : Nat → Int} (h : WI E n src d b) (hE : EOk E n 22001) (hcl : Closes E) (hn : n ≤ 26000) : ∀ v, v < n → -10000000000000 ≤ d v ∧ d v ≤ NB := fun v hv => by
  have := low_all (by decide) h hE (hcl.noloop h) hv
  exact ⟨by omega, h.le v hv⟩
/-- What has come of the sums since, the first k edges gone through. -/
def Thru (E : List Eg) (n k : Nat) (d0 d : Nat → Int) : Prop := totN n (n * 22001) d < totN n (n * 22001) d0 ∨ (d = d0 ∧ ∀ j, j < k → lowB E d0 j = false)
theorem Thru.start (E : List Eg) (n : Nat) (d0 : Nat → Int) : Thru E n 0 d0 d0 := .inr ⟨rfl, fun _ h => absurd h (Nat.not_lt_zero _)⟩
theorem Thru.next {E : List Eg} {n k : Nat} {d0 d d' : Nat → Int} (h : Thru E n k d0 d) (hs : lowB E d k = false ∧ d' = d ∨ totN n (n * 22001) d' < totN n (n * 22001) d) : Thru E n (k + 1) d0 d' := by
  rcases hs with ⟨h1, rfl⟩ | h1
  · rcases h with h | ⟨rfl, h⟩
    · exact .inl h
    · refine .inr ⟨rfl, fun j hj => ?_⟩
      by_cases e : j = k
      · exact e ▸ h1
      · exact h j (by omega)
  · rcases h with h | ⟨rfl, _⟩
    · exact .inl (by omega)
    · exact .inl h1
theorem Thru.same {E : List Eg} {n k i : Nat} {d0 d d' : Nat → Int} (h : Thru E n k d0 d) (hs : lowB E d i = false ∧ d' = d ∨ totN n (n * 22001) d' < totN n (n * 22001) d) : Thru E n k d0 d' := by
  rcases hs with ⟨_, rfl⟩ | h1
  · exact h
  · rcases h with h | ⟨rfl, _⟩
    · exact .inl (by omega)
    · exact .inl h1
theorem calm_of {E : List Eg} {d : Nat → Int} (h : ∀ j, j < E.length → lowB E d j = false) : Calm E d := fun e he hd => by
  obtain ⟨j, hj, rfl⟩ := List.mem_iff_getElem.1 he
  have := h j hj
  unfold lowB at this
  have e2 : eAt E j = E[j] := by unfold eAt; rw [List.getElem?_eq_getElem hj]; rfl
  rw [e2] at this
  simp [hd] at this
  omega
/-- What stands at the head of each round of relax. -/
structure RlX (w0 W w' : World) (g sb bb n src B : Nat) (EA : Option Addr) (ec : Nat) (E : List Eg) (Ds : List Nat) (d b : Nat → Int) : Prop where
  wav : WavA w0 w' g sb bb n EA ec E d b
  wi : WI E n src d b
  keep : KeepBut sb bb W w'
  box : RowIs w' B 125 [.pointer (some ⟨g, 0, none⟩)]
  bne : B ≠ sb ∧ B ≠ bb
  ds : ∀ D ∈ Ds, w'.heap[D]? = some (.deferred (some []))
theorem RlX.cont {w0 W w1 w2 : World} {g sb bb n src B : Nat} {EA : Option Addr} {ec : Nat} {E : List Eg} {Ds : List Nat} {d b d' b' : Nat → Int} (h : RlX w0 W w1 g sb bb n src B EA ec E Ds d b) (k : KeepBut sb bb w1 w2) (hv : WavA w0 w2 g sb bb n EA ec E d' b') (hi : WI E n src d' b') : RlX w0 W w2 g sb bb n src B EA ec E Ds d' b' :=
  ⟨hv, hi, h.keep.trans k, k.row h.box h.bne.1 h.bne.2, h.bne, fun D hD => by
    have h1 := h.ds D hD
    have hs := h.wav.sums
    have hb := h.wav.bys
    unfold RowIs at hs hb
    refine (k.2 D (Array.getElem?_eq_some_iff.1 h1).1 (fun e => ?_) (fun e => ?_)).trans h1
    · rw [e, hs] at h1; cases h1
    · rw [e, hb] at h1; cases h1⟩
theorem RlX.new {w0 W w1 w2 : World} {g sb bb n src B : Nat} {EA : Option Addr} {ec : Nat} {E : List Eg} {Ds : List Nat} {d b : Nat → Int} (h : RlX w0 W w1 g sb bb n src B EA ec E Ds d b) (k : New w1 w2) : RlX w0 W w2 g sb bb n src B EA ec E Ds d b :=
  h.cont (.of_new k) (h.wav.keep k) h.wi
theorem rlX_own {β : Type} (w0 W : World) (g sb bb n src B : Nat) (EA : Option Addr) (ec : Nat) (E : List Eg) (Ds : List Nat) (w : World) (hs : W.heap.size ≤ w.heap.size) (hs0 : w0.heap.size ≤ w.heap.size) (hD : ∀ D ∈ Ds, D < w.heap.size) (d b : Nat → Int) : OwnFrom w.heap.size (fun (_ : β) w' => RlX w0 W w' g sb bb n src B EA ec E Ds d b) := fun x X Y row h hg hr => by
  have r1 := rowIs_own w.heap.size g _ _ () X Y row h.wav.row hg hr
  have r2 := rowIs_own w.heap.size sb _ _ () X Y row h.wav.sums hg hr
  have r3 := rowIs_own w.heap.size bb _ _ () X Y row h.wav.bys hg hr
  have r4 := rowIs_own w.heap.size B _ _ () X Y row h.box hg hr
  have hsz := h.keep.size
  have hnew : New w0 Y := Below.grown h.wav.new hg (by have := h.wav.new.size; omega) (fun k e => by have := (hr k e).1; omega)
  refine ⟨⟨hnew, h.wav.egs, h.wav.hg, h.wav.hs, h.wav.hb, h.wav.gs, h.wav.gb, h.wav.ne, r1, r2, r3⟩, h.wi, ⟨Below.grown h.keep.1 hg (Nat.zero_le _) (fun k e => Nat.zero_le _), fun k hk hp hq => ?_⟩, r4, h.bne, fun D hm => ?_⟩
  · exact (hg.block k (by omega) (fun e => by have := (hr k e.symm).1; omega)).trans (h.keep.2 k hk hp hq)
  · have h1 := h.ds D hm
    exact (hg.block D (Array.getElem?_eq_some_iff.1 h1).1 (fun e => by have := (hr D e.symm).1; have := hD D hm; omega)).trans h1
theorem KeepBut.keeps {p q B : Nat} {W W' : World} (h : KeepBut p q W W') {e1 e2 : TypeId} {c1 c2 : List Value} (hp : RowIs W p e1 c1) (hq : RowIs W q e2 c2) : KeepsFrom B W W' :=
  ⟨h.1.size, fun k o _ hk ho => by
    refine (h.2 k (Array.getElem?_eq_some_iff.1 hk).1 (fun e => ?_) (fun e => ?_)).trans hk
    · unfold RowIs at hp; rw [e, hp] at hk; cases hk; cases ho
    · unfold RowIs at hq; rw [e, hq] at hk; cases hk; cases ho⟩
theorem RlX.ck_lower {w0 W w1 : World} {g sb bb n src B : Nat} {EA : Option Addr} {ec : Nat} {E : List Eg} {Ds : List Nat} {d b : Nat → Int} (h : RlX w0 W w1 g sb bb n src B EA ec E Ds d b) (hE : EOk E n 22001) (hcl : Closes E) (hn : n ≤ 26000) (i : Nat) (hi : i < E.length) :
    Calls Tryd.prog 127 #[.pointer (some ⟨g, 0, none⟩), .int .i64 i] w1 fun e w' => e = .returned (.tuple #[]) ∧ KeepBut sb bb w1 w' ∧ RlX w0 W w' g sb bb n src B EA ec E Ds (stD E d i) (stB E d b i) := by
  refine (Go.Proofs.YtlhdhfhfdkldjaaDoor.ck_lower h.wav hE i hi (h.wi.rng hE hcl hn)).mono ?_
  rintro e w' ⟨he, hk, hv⟩
  exact ⟨he, hk, h.cont hk hv (h.wi.step (by decide) hE hcl hi).1⟩
theorem RlX.shut {w0 W w1 w2 : World} {g sb bb n src B : Nat} {EA : Option Addr} {ec : Nat} {E : List Eg} {Ds : List Nat} {d b : Nat → Int} (h : RlX w0 W w1 g sb bb n src B EA ec E Ds d b) (hnd : Ds.Nodup) (h0 : w0.heap.size ≤ W.heap.size) (hD : ∀ D ∈ Ds, W.heap.size ≤ D) (hs : Shuts Ds w1 w2) : WavA w0 w2 g sb bb n EA ec E d b ∧ KeepBut sb bb W w2 := by
  obtain ⟨k1, k2⟩ := hs.keep h.ds hnd
  have row : ∀ (p : Nat) (e : TypeId) (cs : List Value), RowIs w1 p e cs → RowIs w2 p e cs := fun p e cs hr => by
    unfold RowIs at hr
    refine (k2 p (fun hm => ?_)).trans hr
    have := h.ds p hm
    rw [hr] at this
    cases this
  have hw := h.wav.new.size
  have hk := h.keep.size
  have hsz := k1.size
  have hnew : New w0 w2 := Below.trans h.wav.new ⟨k1.os, k1.tape, k1.output, by omega, fun i hi => k2 i (fun hm => by have := hD i hm; omega)⟩
  refine ⟨⟨hnew, h.wav.egs, h.wav.hg, h.wav.hs, h.wav.hb, h.wav.gs, h.wav.gb, h.wav.ne, row _ _ _ h.wav.row, row _ _ _ h.wav.sums, row _ _ _ h.wav.bys⟩, h.keep.1.trans k1, fun k hk hp hq => ?_⟩
  exact (k2 k (fun hm => by have := hD k hm; omega)).trans (h.keep.2 k hk hp hq)
end Go.Proofs.YtlhdhfhfdkldjaaDoor
