/-
  Graphs of bounds, no program: waves of least sums, the edges by which they came, and loops. No condition.
-/
import Derived.WalkKit
namespace Go.Proofs.YtodmbcoobjcooaaDoor
/-- An edge: from, to, most. -/
abbrev Eg := Nat × Nat × Int
/-- More than any sum. -/
def NB : Int := 1099511627776
/-- A walk along edges, with the sum of what they say. -/
inductive Wk (E : List Eg) : Nat → Nat → Int → Prop
  | nil (u : Nat) : Wk E u u 0
  | snoc {u v : Nat} {s : Int} (e : Eg) : Wk E u v s → e ∈ E → e.1 = v → Wk E u e.2.1 (s + e.2.2)
theorem Wk.one {E : List Eg} {e : Eg} (h : e ∈ E) : Wk E e.1 e.2.1 e.2.2 := by
  have := Wk.snoc e (Wk.nil (E := E) e.1) h rfl
  rwa [Int.zero_add] at this
theorem Wk.cast {E : List Eg} {u v u' v' : Nat} {s s' : Int} (h : Wk E u v s) (hu : u = u') (hv : v = v') (hs : s = s') : Wk E u' v' s' := by
  subst hu hv hs; exact h
theorem Wk.trans {E : List Eg} {u v w : Nat} {s t : Int} (h : Wk E u v s) (k : Wk E v w t) : Wk E u w (s + t) := by
  induction k with
  | nil => rwa [Int.add_zero]
  | snoc e _ he hv ih => exact (ih.snoc e he hv).cast rfl rfl (by omega)
theorem Wk.sub {E F : List Eg} (hs : ∀ e, e ∈ E → e ∈ F) {u v : Nat} {s : Int} (h : Wk E u v s) : Wk F u v s := by
  induction h with
  | nil => exact .nil _
  | snoc e _ he hv ih => exact ih.snoc e (hs e he) hv
/-- Numbers that keep all edges keep all walks. -/
theorem Wk.keeps {E : List Eg} {p : Nat → Int} (hp : ∀ e, e ∈ E → p e.2.1 ≤ p e.1 + e.2.2) {u v : Nat} {s : Int} (h : Wk E u v s) : p v ≤ p u + s := by
  induction h with
  | nil => omega
  | snoc e _ he hv ih => have := hp e he; rw [hv] at this; omega
/-- Indices of edges that lead from one place to another one. -/
def Lead (E : List Eg) : Nat → List Nat → Nat → Prop
  | u, [], v => u = v
  | u, i :: l, v => ∃ e, E[i]? = some e ∧ e.1 = u ∧ Lead E e.2.1 l v
def costI (E : List Eg) (i : Nat) : Int := (E[i]?.map (·.2.2)).getD 0
def sumI (E : List Eg) : List Nat → Int
  | [] => 0
  | i :: l => costI E i + sumI E l
theorem sumI_append (E : List Eg) : ∀ a b : List Nat, sumI E (a ++ b) = sumI E a + sumI E b
  | [], b => by simp [sumI]
  | i :: a, b => by simp only [List.cons_append, sumI]; rw [sumI_append E a b]; omega
theorem Lead.append {E : List Eg} : ∀ {l k : List Nat} {u v w : Nat}, Lead E u l v → Lead E v k w → Lead E u (l ++ k) w
  | [], _, _, _, _, h, k => by cases h; exact k
  | _ :: _, _, _, _, _, ⟨e, h1, h2, h3⟩, k => ⟨e, h1, h2, h3.append k⟩
theorem Lead.wk {E : List Eg} : ∀ {l : List Nat} {u v : Nat}, Lead E u l v → Wk E u v (sumI E l)
  | [], _, _, h => by cases h; exact .nil _
  | i :: l, _, _, ⟨e, h1, h2, h3⟩ => by
    have hm : e ∈ E := List.mem_of_getElem? h1
    have hc : costI E i = e.2.2 := by simp [costI, h1]
    exact ((Wk.one hm).trans h3.wk).cast h2 rfl (by rw [sumI, hc])
theorem Lead.pot {E : List Eg} {p : Nat → Int} : ∀ {l : List Nat} {u v : Nat}, Lead E u l v → (∀ i e, i ∈ l → E[i]? = some e → p e.1 + e.2.2 ≤ p e.2.1) → p u + sumI E l ≤ p v
  | [], _, _, h, _ => by cases h; simp [sumI]
  | i :: l, _, _, ⟨e, h1, h2, h3⟩, hp => by
    have hc : costI E i = e.2.2 := by simp [costI, h1]
    have a := hp i e (List.mem_cons_self ..) h1
    have b := h3.pot (fun j f hj => hp j f (List.mem_cons_of_mem _ hj))
    rw [sumI, hc]; rw [h2] at a; omega
theorem Lead.potLt {E : List Eg} {p : Nat → Int} {k : Nat} {f : Eg} (hf : E[k]? = some f) (hlt : p f.1 + f.2.2 < p f.2.1) : ∀ {l : List Nat} {u v : Nat}, Lead E u l v → k ∈ l → (∀ i e, i ∈ l → E[i]? = some e → p e.1 + e.2.2 ≤ p e.2.1) → p u + sumI E l < p v
  | [], _, _, _, hk, _ => by cases hk
  | i :: l, _, _, ⟨e, h1, h2, h3⟩, hk, hp => by
    have hc : costI E i = e.2.2 := by simp [costI, h1]
    have a := hp i e (List.mem_cons_self ..) h1
    have hp' : ∀ j g, j ∈ l → E[j]? = some g → p g.1 + g.2.2 ≤ p g.2.1 := fun j g hj => hp j g (List.mem_cons_of_mem _ hj)
    rw [sumI, hc]; rw [h2] at a
    rcases List.mem_cons.1 hk with rfl | hk
    · rw [hf] at h1; cases h1
      have b := h3.pot hp'
      rw [h2] at hlt; omega
    · have b := h3.potLt hf hlt hk hp'
      omega
/-- Each index is that by which its place came. -/
def ByL (E : List Eg) (b : Nat → Int) (l : List Nat) : Prop := ∀ i e, i ∈ l → E[i]? = some e → b e.2.1 = (i : Int)
/-- What is true of a wave at all times. -/
structure WI (E : List Eg) (n src : Nat) (d b : Nat → Int) : Prop where
  own : d src ≠ NB
  top : b src = -1 → d src = 0
  le : ∀ v, v < n → d v ≤ NB
  root : ∀ v, v < n → d v ≠ NB → b v = -1 → v = src
  edge : ∀ v, v < n → b v ≠ -1 → ∃ i e, b v = (i : Nat) ∧ E[i]? = some e ∧ e.2.1 = v ∧ d e.1 ≠ NB ∧ d e.1 + e.2.2 ≤ d v ∧ d v ≠ NB
  walk : ∀ v, v < n → d v ≠ NB → Wk E src v (d v)
  neg : ∀ l v, l ≠ [] → Lead E v l v → ByL E b l → sumI E l < 0
/-- The edges of a net of n places, of which no one leads to where it begins. -/
structure EOk (E : List Eg) (n : Nat) (M : Int) : Prop where
  fst : ∀ e, e ∈ E → e.1 < n
  snd : ∀ e, e ∈ E → e.2.1 < n
  ne : ∀ e, e ∈ E → e.1 ≠ e.2.1
  lo : ∀ e, e ∈ E → -M ≤ e.2.2
  hi : ∀ e, e ∈ E → e.2.2 ≤ M
def upd (f : Nat → Int) (k : Nat) (x : Int) : Nat → Int := fun j => if j = k then x else f j
theorem upd_same (f : Nat → Int) (k : Nat) (x : Int) : upd f k x k = x := by simp [upd]
theorem upd_other (f : Nat → Int) {k j : Nat} (x : Int) (h : j ≠ k) : upd f k x j = f j := by simp [upd, h]
theorem WI.lower {E : List Eg} {n src : Nat} {d b : Nat → Int} {M : Int} (h : WI E n src d b) (hE : EOk E n M) {i : Nat} {e : Eg} (hi : E[i]? = some e) (hf : d e.1 ≠ NB) (hlt : d e.1 + e.2.2 < d e.2.1) :
    WI E n src (upd d e.2.1 (d e.1 + e.2.2)) (upd b e.2.1 i) := by
  have hm : e ∈ E := List.mem_of_getElem? hi
  have hne : e.1 ≠ e.2.1 := hE.ne e hm
  have hvn := hE.snd e hm
  have hun := hE.fst e hm
  have hle := h.le _ hvn
  have hnb : d e.1 + e.2.2 ≠ NB := by omega
  refine ⟨?_, ?_, ?_, ?_, ?_, ?_, ?_⟩
  · unfold upd; split
    · exact hnb
    · exact h.own
  · unfold upd; split
    · intro hx; omega
    · exact h.top
  · intro v hv; unfold upd; split
    · omega
    · exact h.le v hv
  · intro v hv; unfold upd; split
    · intro _ hx; omega
    · exact h.root v hv
  · intro v hv
    by_cases hve : v = e.2.1
    · subst hve
      intro _
      refine ⟨i, e, upd_same _ _ _, hi, rfl, ?_, ?_, ?_⟩
      · rw [upd_other _ _ hne]; exact hf
      · rw [upd_other _ _ hne, upd_same]; exact Int.le_refl _
      · rw [upd_same]; exact hnb
    · rw [upd_other _ _ hve, upd_other _ _ hve]
      intro hb
      obtain ⟨j, f, h1, h2, h3, h4, h5, h6⟩ := h.edge v hv hb
      refine ⟨j, f, h1, h2, h3, ?_, ?_, h6⟩
      · unfold upd; split
        · exact hnb
        · exact h4
      · unfold upd; split
        · rename_i hx; rw [hx] at h5; omega
        · exact h5
  · intro v hv
    by_cases hve : v = e.2.1
    · subst hve
      rw [upd_same]
      intro _
      exact (h.walk _ hun hf).snoc e hm rfl
    · rw [upd_other _ _ hve]; exact h.walk v hv
  · intro l v hl hL hB
    by_cases hil : i ∈ l
    · have hp : ∀ j f, j ∈ l → E[j]? = some f → d f.1 + f.2.2 ≤ d f.2.1 := by
        intro j f hj hfj
        have hmf : f ∈ E := List.mem_of_getElem? hfj
        have hb := hB j f hj hfj
        by_cases hx : f.2.1 = e.2.1
        · rw [hx, upd_same] at hb
          have : i = j := by omega
          subst this
          rw [hi] at hfj; cases hfj
          omega
        · rw [upd_other _ _ hx] at hb
          obtain ⟨k, g, h1, h2, _, _, h5, _⟩ := h.edge f.2.1 (hE.snd f hmf) (by omega)
          have : k = j := by omega
          subst this
          rw [hfj] at h2; cases h2
          exact h5
      have := hL.potLt (p := d) hi hlt hil hp
      omega
    · refine h.neg l v hl hL ?_
      intro j f hj hfj
      have hb := hB j f hj hfj
      have hx : f.2.1 ≠ e.2.1 := by
        intro hx
        rw [hx, upd_same] at hb
        have : i = j := by omega
        subst this
        exact hil hj
      rwa [upd_other _ _ hx] at hb
/-- The way back ends. -/
inductive Tm (E : List Eg) (b : Nat → Int) : Nat → List Nat → Nat → Prop
  | root {v : Nat} : b v = -1 → Tm E b v [] v
  | step {v i r : Nat} {e : Eg} {l : List Nat} : b v = (i : Int) → E[i]? = some e → e.2.1 = v → Tm E b e.1 l r → Tm E b v (l ++ [i]) r
theorem Lead.snoc {E : List Eg} {l : List Nat} {u : Nat} {i : Nat} {e : Eg} (h : Lead E u l e.1) (hi : E[i]? = some e) : Lead E u (l ++ [i]) e.2.1 := h.append ⟨e, hi, rfl, rfl⟩
theorem Tm.lead {E : List Eg} {b : Nat → Int} {v r : Nat} {l : List Nat} (h : Tm E b v l r) : Lead E r l v ∧ ByL E b l ∧ b r = -1 := by
  induction h with
  | root h => exact ⟨rfl, (fun _ _ hi => by cases hi), h⟩
  | @step v i r e l h1 h2 h3 _ ih =>
    refine ⟨h3 ▸ ih.1.snoc h2, ?_, ih.2.2⟩
    intro j f hj hf
    rcases List.mem_append.1 hj with hj | hj
    · exact ih.2.1 j f hj hf
    · rw [List.mem_singleton] at hj; subst hj
      rw [h2] at hf; cases hf
      rw [h3]; exact h1
/-- A list without repetitions of numbers below n has at most n. -/
theorem nodup_le : ∀ (n : Nat) (l : List Nat), l.Nodup → (∀ x ∈ l, x < n) → l.length ≤ n
  | 0, l, _, h => by
    cases l with
    | nil => simp
    | cons x l => exact absurd (h x (List.mem_cons_self ..)) (by omega)
  | n + 1, l, hd, h => by
    by_cases hn : n ∈ l
    · have h1 := nodup_le n (l.erase n) (hd.erase n) (fun x hx => by
        have := (hd.mem_erase_iff).1 hx
        have := h x this.2
        omega)
      rw [List.length_erase_of_mem hn] at h1
      omega
    · have h1 := nodup_le n l hd (fun x hx => by
        have := h x hx
        have : x ≠ n := fun hx' => hn (hx' ▸ hx)
        omega)
      omega
/-- Going back from a place for at most so many edges: the way ends, or it goes on, all places on it known. -/
theorem back_or {E : List Eg} {n src : Nat} {d b : Nat → Int} {M : Int} (h : WI E n src d b) (hE : EOk E n M) (hno : ∀ l v, l ≠ [] → Lead E v l v → ByL E b l → False) :
    ∀ (k v : Nat), v < n → (∃ l r, Tm E b v l r ∧ l.length ≤ k) ∨ ∃ (l ns : List Nat) (u : Nat), u < n ∧ Lead E u l v ∧ ByL E b l ∧ l.length = k ∧ ns.length = k + 1 ∧ ns.Nodup ∧ (∀ x ∈ ns, x < n) ∧ (∀ x ∈ ns, ∃ m, Lead E x m v ∧ ByL E b m) ∧ (∀ x ∈ ns, ∃ m, Lead E u m x ∧ ByL E b m)
  | 0, v, hv => .inr ⟨[], [v], v, hv, rfl, (fun _ _ h => by cases h), rfl, rfl, by simp, (fun x hx => by rw [List.mem_singleton] at hx; omega), (fun x hx => ⟨[], by rw [List.mem_singleton] at hx; exact hx, (fun _ _ h => by cases h)⟩), (fun x hx => ⟨[], by rw [List.mem_singleton] at hx; exact hx.symm, (fun _ _ h => by cases h)⟩)⟩
  | k + 1, v, hv => by
    by_cases hb : b v = -1
    · exact .inl ⟨[], v, .root hb, by simp⟩
    · obtain ⟨i, e, h1, h2, h3, _, _, _⟩ := h.edge v hv hb
      have hm : e ∈ E := List.mem_of_getElem? h2
      have hBi : ByL E b [i] := by
        intro j f hj hf
        rw [List.mem_singleton] at hj; subst hj
        rw [h2] at hf; cases hf
        rw [h3]; exact h1
      have happ : ∀ {x y : List Nat}, ByL E b x → ByL E b y → ByL E b (x ++ y) := fun hx hy j f hj hf => by
        rcases List.mem_append.1 hj with hj | hj
        · exact hx j f hj hf
        · exact hy j f hj hf
      have hL : Lead E e.1 [i] v := ⟨e, h2, rfl, h3⟩
      rcases back_or h hE hno k e.1 (hE.fst e hm) with ⟨l, r, ht, hl⟩ | ⟨l, ns, u, hu, g1, g2, g3, g4, g5, g6, g7, g8⟩
      · exact .inl ⟨l ++ [i], r, .step h1 h2 h3 ht, by simp; omega⟩
      · refine .inr ⟨l ++ [i], v :: ns, u, hu, g1.append hL, happ g2 hBi, by simp [g3], by simp [g4], ?_, ?_, ?_, ?_⟩
        · refine List.nodup_cons.2 ⟨fun hvn => ?_, g5⟩
          obtain ⟨m, q1, q2⟩ := g7 v hvn
          exact hno (m ++ [i]) v (by simp) (q1.append hL) (happ q2 hBi)
        · intro x hx
          rcases List.mem_cons.1 hx with rfl | hx
          · exact hv
          · exact g6 x hx
        · intro x hx
          rcases List.mem_cons.1 hx with rfl | hx
          · exact ⟨[], rfl, (fun _ _ h => by cases h)⟩
          · obtain ⟨m, q1, q2⟩ := g7 x hx
            exact ⟨m ++ [i], q1.append hL, happ q2 hBi⟩
        · intro x hx
          rcases List.mem_cons.1 hx with rfl | hx
          · exact ⟨l ++ [i], g1.append hL, happ g2 hBi⟩
          · exact g8 x hx
/-- Without a loop each way back ends, after fewer edges than there are places. -/
theorem ends_all {E : List Eg} {n src : Nat} {d b : Nat → Int} {M : Int} (h : WI E n src d b) (hE : EOk E n M) (hno : ∀ l v, l ≠ [] → Lead E v l v → ByL E b l → False) {v : Nat} (hv : v < n) : ∃ l r, Tm E b v l r ∧ l.length ≤ n := by
  rcases back_or h hE hno n v hv with h1 | ⟨l, ns, u, _, _, _, _, g4, g5, g6, _, _⟩
  · exact h1
  · have := nodup_le n ns g5 g6
    omega
theorem Tm.low {E : List Eg} {n src : Nat} {d b : Nat → Int} {M : Int} (h : WI E n src d b) (hE : EOk E n M) {v r : Nat} {l : List Nat} (ht : Tm E b v l r) : v < n → d v ≠ NB → r = src ∧ d r - l.length * M ≤ d v := by
  induction ht with
  | @root v hb => intro hv hd; exact ⟨h.root v hv hd hb, by simp⟩
  | @step v i r e l h1 h2 h3 _ ih =>
    intro hv hd
    obtain ⟨j, f, q1, q2, q3, q4, q5, _⟩ := h.edge v hv (by omega)
    have : j = i := by omega
    subst this
    rw [h2] at q2; cases q2
    have hm : e ∈ E := List.mem_of_getElem? h2
    obtain ⟨a1, a2⟩ := ih (hE.fst e hm) q4
    refine ⟨a1, ?_⟩
    have := hE.lo e hm
    rw [List.length_append, List.length_singleton, show (((l.length + 1 : Nat) : Int) * M) = l.length * M + M by rw [Int.natCast_add, Int.add_mul]; simp]
    omega
/-- Without a loop no sum is less than all edges of a way that visits no place twice. -/
theorem low_all {E : List Eg} {n src : Nat} {d b : Nat → Int} {M : Int} (hM : 0 ≤ M) (h : WI E n src d b) (hE : EOk E n M) (hno : ∀ l v, l ≠ [] → Lead E v l v → ByL E b l → False) {v : Nat} (hv : v < n) : -(n * M) ≤ d v := by
  by_cases hd : d v = NB
  · have : 0 ≤ (n : Int) * M := Int.mul_nonneg (by omega) hM
    rw [hd, NB]; omega
  · obtain ⟨l, r, ht, hl⟩ := ends_all h hE hno hv
    obtain ⟨h1, h2⟩ := ht.low h hE hv hd
    have h0 := h.top (h1 ▸ ht.lead.2.2)
    rw [h1, h0] at h2
    have : (l.length : Int) * M ≤ n * M := Int.mul_le_mul_of_nonneg_right (by omega) hM
    omega
/-- A wave has come to rest: no edge lowers a sum. -/
def Calm (E : List Eg) (d : Nat → Int) : Prop := ∀ e, e ∈ E → d e.1 ≠ NB → d e.2.1 ≤ d e.1 + e.2.2
theorem calm_noloop {E : List Eg} {n src : Nat} {d b : Nat → Int} {M : Int} (h : WI E n src d b) (hE : EOk E n M) (hc : Calm E d) : ∀ l v, l ≠ [] → Lead E v l v → ByL E b l → False := by
  intro l v hl hL hB
  have h1 := h.neg l v hl hL hB
  have fin : ∀ i e, i ∈ l → E[i]? = some e → d e.1 ≠ NB := fun i e hi he => by
    have hm : e ∈ E := List.mem_of_getElem? he
    have hb := hB i e hi he
    obtain ⟨j, f, q1, q2, _, q4, _, _⟩ := h.edge e.2.1 (hE.snd e hm) (by omega)
    have : j = i := by omega
    subst this
    rw [he] at q2; cases q2
    exact q4
  have key : ∀ (l : List Nat) (u v : Nat), (∀ i e, i ∈ l → E[i]? = some e → d e.1 ≠ NB) → Lead E u l v → d v ≤ d u + sumI E l := by
    intro l
    induction l with
    | nil => intro u v _ h; cases h; simp [sumI]
    | cons i l ih =>
      rintro u v hf ⟨e, h1, h2, h3⟩
      have hc1 : costI E i = e.2.2 := by simp [costI, h1]
      have a := hc e (List.mem_of_getElem? h1) (hf i e (List.mem_cons_self ..) h1)
      have b := ih _ _ (fun j f hj => hf j f (List.mem_cons_of_mem _ hj)) h3
      rw [sumI, hc1]; rw [h2] at a; omega
  have := key l v v fin hL
  omega
theorem Tm.sum {E : List Eg} {n src : Nat} {d b : Nat → Int} {M : Int} (h : WI E n src d b) (hE : EOk E n M) (hc : Calm E d) {v r : Nat} {l : List Nat} (ht : Tm E b v l r) : v < n → d v ≠ NB → d v = d r + sumI E l ∧ d v ≤ d r + l.length * M := by
  induction ht with
  | @root v hb => intro hv hd; exact ⟨by simp [sumI], by simp⟩
  | @step v i r e l h1 h2 h3 _ ih =>
    intro hv hd
    obtain ⟨j, f, q1, q2, q3, q4, q5, _⟩ := h.edge v hv (by omega)
    have : j = i := by omega
    subst this
    rw [h2] at q2; cases q2
    have hm : e ∈ E := List.mem_of_getElem? h2
    obtain ⟨a1, a2⟩ := ih (hE.fst e hm) q4
    have a3 := hc e hm q4
    rw [h3] at a3
    have a4 : costI E j = e.2.2 := by simp [costI, h2]
    have := hE.hi e hm
    refine ⟨?_, ?_⟩
    · rw [sumI_append]; simp only [sumI]; omega
    · rw [List.length_append, List.length_singleton, show (((l.length + 1 : Nat) : Int) * M) = l.length * M + M by rw [Int.natCast_add, Int.add_mul]; simp]
      omega
/-- The least sums from a place: each is that of a walk, and of none less. -/
structure Dist (E : List Eg) (n src : Nat) (M : Int) (d : Nat → Int) : Prop where
  zero : d src = 0
  lo : ∀ v, v < n → -(n * M) ≤ d v
  hi : ∀ v, v < n → d v ≠ NB → d v ≤ n * M
  walk : ∀ v, v < n → d v ≠ NB → Wk E src v (d v)
  calm : Calm E d
theorem WI.dist {E : List Eg} {n src : Nat} {d b : Nat → Int} {M : Int} (hM : 0 ≤ M) (h : WI E n src d b) (hE : EOk E n M) (hs : src < n) (hc : Calm E d) : Dist E n src M d ∧ b src = -1 ∧ ∀ v, v < n → d v ≠ NB → ∃ l, Tm E b v l src ∧ l.length ≤ n ∧ sumI E l = d v := by
  have hno := calm_noloop h hE hc
  have hb : b src = -1 := by
    obtain ⟨l, r, ht, _⟩ := ends_all h hE hno hs
    have h1 := (ht.low h hE hs h.own).1
    exact h1 ▸ ht.lead.2.2
  have h0 := h.top hb
  have all : ∀ v, v < n → d v ≠ NB → ∃ l, Tm E b v l src ∧ l.length ≤ n ∧ sumI E l = d v ∧ d v ≤ n * M := fun v hv hd => by
    obtain ⟨l, r, ht, hl⟩ := ends_all h hE hno hv
    obtain rfl := (ht.low h hE hv hd).1
    obtain ⟨a1, a2⟩ := ht.sum h hE hc hv hd
    have : (l.length : Int) * M ≤ n * M := Int.mul_le_mul_of_nonneg_right (by omega) hM
    exact ⟨l, ht, hl, by omega, by omega⟩
  exact ⟨⟨h0, fun v hv => low_all hM h hE hno hv, fun v hv hd => by obtain ⟨_, _, _, _, h4⟩ := all v hv hd; exact h4, h.walk, hc⟩, hb, fun v hv hd => by obtain ⟨l, h1, h2, h3, _⟩ := all v hv hd; exact ⟨l, h1, h2, h3⟩⟩
/-- Whatever a walk leads to has a sum, which is at most that of the walk. -/
theorem Dist.reach {E : List Eg} {n src : Nat} {d : Nat → Int} {M : Int} (h : Dist E n src M d) (hE : EOk E n M) (hs : src < n) (hb : n * M + M < NB) {v : Nat} {s : Int} (hw : Wk E src v s) : v < n ∧ d v ≠ NB ∧ d v ≤ s := by
  have key : ∀ (u v : Nat) (s : Int), Wk E u v s → u = src → v < n ∧ d v ≠ NB ∧ d v ≤ s := by
    intro u v s hw
    induction hw with
    | nil => rintro rfl; exact ⟨hs, by rw [h.zero]; decide, by rw [h.zero]; omega⟩
    | @snoc v s e _ he hv ih =>
      intro hu
      obtain ⟨h1, h2, h3⟩ := ih hu
      have a := h.calm e he (by rw [hv]; exact h2)
      rw [hv] at a
      have b := h.hi _ h1 h2
      have c := hE.hi e he
      exact ⟨hE.snd e he, by omega, by omega⟩
  exact key src v s hw rfl
theorem Dist.unique {E : List Eg} {n src : Nat} {d p : Nat → Int} {M : Int} (h : Dist E n src M d) (k : Dist E n src M p) (hE : EOk E n M) (hs : src < n) (hb : n * M + M < NB) {v : Nat} (hv : v < n) : d v = p v := by
  by_cases hd : d v = NB
  · by_cases hp : p v = NB
    · omega
    · exact absurd hd (h.reach hE hs hb (k.walk v hv hp)).2.1
  · have h1 := k.reach hE hs hb (h.walk v hv hd)
    have h2 := h.reach hE hs hb (k.walk v hv h1.2.1)
    omega
/-- How many of the first n numbers are 0. -/
def zerosN (n : Nat) (m : Nat → Int) : Nat := (List.range n).countP fun i => decide (m i = 0)
theorem zeros_upd : ∀ (n : Nat) (m : Nat → Int) (k : Nat) (x : Int), k < n → m k = 0 → x ≠ 0 → zerosN n (upd m k x) + 1 = zerosN n m
  | 0, _, _, _, h, _, _ => by omega
  | n + 1, m, k, x, hk, hm, hx => by
    have e : ∀ f : Nat → Int, zerosN (n + 1) f = zerosN n f + if f n = 0 then 1 else 0 := fun f => by
      unfold zerosN
      rw [List.range_succ, List.countP_append]
      simp [List.countP_cons]
    rw [e, e]
    by_cases hkn : k = n
    · subst hkn
      have h1 : zerosN k (upd m k x) = zerosN k m := by
        unfold zerosN
        apply List.countP_congr
        intro i hi
        rw [upd_other _ _ (by have := List.mem_range.1 hi; omega)]
      rw [h1, upd_same, if_neg hx, if_pos hm]
    · have := zeros_upd n m k x (by omega) hm hx
      rw [upd_other _ _ (Ne.symm hkn)]
      omega
/-- How far all sums lie above a number. -/
def totN (n : Nat) (L : Int) (d : Nat → Int) : Nat := ((List.range n).map fun v => (d v + L).toNat).sum
theorem totN_succ (n : Nat) (L : Int) (d : Nat → Int) : totN (n + 1) L d = totN n L d + (d n + L).toNat := by
  unfold totN
  rw [List.range_succ, List.map_append, List.sum_append]
  simp
theorem totN_upd : ∀ (n : Nat) (L : Int) (d : Nat → Int) (k : Nat) (x : Int), k < n → x < d k → -L ≤ x → totN n L (upd d k x) < totN n L d
  | 0, _, _, _, _, h, _, _ => by omega
  | n + 1, L, d, k, x, hk, hx, hL => by
    rw [totN_succ, totN_succ]
    by_cases hkn : k = n
    · subst hkn
      have h1 : totN k L (upd d k x) = totN k L d := by
        unfold totN
        congr 1
        apply List.map_congr_left
        intro i hi
        rw [upd_other _ _ (by have := List.mem_range.1 hi; omega)]
      rw [h1, upd_same]
      omega
    · have := totN_upd n L d k x (by omega) hx hL
      rw [upd_other _ _ (Ne.symm hkn)]
      omega
/-- A net that closes: some numbers keep all edges. -/
def Closes (E : List Eg) : Prop := ∃ p : Nat → Int, ∀ e, e ∈ E → p e.2.1 ≤ p e.1 + e.2.2
theorem Closes.noloop {E : List Eg} {n src : Nat} {d b : Nat → Int} (hc : Closes E) (h : WI E n src d b) : ∀ l v, l ≠ [] → Lead E v l v → ByL E b l → False := by
  intro l v hl hL hB
  obtain ⟨p, hp⟩ := hc
  have h1 := h.neg l v hl hL hB
  have h2 := hL.wk.keeps hp
  omega
end Go.Proofs.YtodmbcoobjcooaaDoor
