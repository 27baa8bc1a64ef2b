/-
  Least sums by rounds over all edges, no program: after as many rounds as there are places nothing changes any more, or there is a loop. No condition.
  The specification: spots and of. Condition: the system lies in memory and is valid.
  The specification: reach, Closes. Condition: the system lies in memory and is valid.
-/
import Derived.Test.YtodmbcoobjcooaaDoorCkPots
import Derived.Test.YtodmbcoobjcooaaDoorCkRfL
import Derived.StillTail
import Derived.BigQuiet
namespace Go.Proofs.YtodmbcoobjcooaaDoor
open Go Go.RowKit Go.Shelf
theorem Lead.split {E : List Eg} : ∀ (l : List Nat) (u v : Nat), Lead E u l v → ∀ i, i ≤ l.length → ∃ x, Lead E u (l.take i) x ∧ Lead E x (l.drop i) v := by
  intro l
  induction l with
  | nil =>
    intro u v h i hi
    exact ⟨u, by simp [Lead], by simpa using h⟩
  | cons j l ih =>
    intro u v h i hi
    cases i with
    | zero => exact ⟨u, by simp [Lead], by simpa using h⟩
    | succ i =>
      obtain ⟨e, h1, h2, h3⟩ := h
      obtain ⟨x, a, b⟩ := ih _ _ h3 i (by simpa using hi)
      exact ⟨x, ⟨e, h1, h2, a⟩, b⟩
theorem Lead.fn {E : List Eg} : ∀ (l : List Nat) (u v v' : Nat), Lead E u l v → Lead E u l v' → v = v' := by
  intro l
  induction l with
  | nil => intro u v v' h k; exact h.symm.trans k
  | cons j l ih =>
    rintro u v v' ⟨e, h1, h2, h3⟩ ⟨f, k1, k2, k3⟩
    rw [h1] at k1
    cases k1
    exact ih _ _ _ h3 k3
theorem Lead.lt {E : List Eg} {n : Nat} {M : Int} (hE : EOk E n M) : ∀ (l : List Nat) (u v : Nat), Lead E u l v → u < n → v < n := by
  intro l
  induction l with
  | nil => intro u v h hu; exact h ▸ hu
  | cons j l ih =>
    rintro u v ⟨e, h1, h2, h3⟩ hu
    exact ih _ _ h3 (hE.snd e (List.mem_of_getElem? h1))
theorem Wk.lead {E : List Eg} {u v : Nat} {x : Int} (h : Wk E u v x) : ∃ l, Lead E u l v ∧ sumI E l = x := by
  induction h with
  | nil => exact ⟨[], rfl, rfl⟩
  | @snoc v x e _ he hv ih =>
    obtain ⟨l, h1, h2⟩ := ih
    obtain ⟨i, hi⟩ := List.getElem?_of_mem he
    refine ⟨l ++ [i], (hv ▸ h1 : Lead E _ l e.1).snoc hi, ?_⟩
    rw [sumI_append, h2]
    simp [sumI, costI, hi]
theorem range_twice {f : Nat → Nat} {m : Nat} (h : ¬((List.range m).map f).Nodup) : ∃ i j, i < j ∧ j < m ∧ f i = f j := by
  refine Classical.byContradiction fun hno => h ?_
  unfold List.Nodup
  rw [List.pairwise_map]
  refine List.Pairwise.imp_of_mem ?_ List.pairwise_lt_range
  intro a b ha hb hab he
  exact hno ⟨a, b, hab, List.mem_range.1 hb, he⟩
/-- In a net that closes each way has one that is no dearer and visits no place twice. -/
theorem short_lead {E : List Eg} {n : Nat} {M : Int} (hE : EOk E n M) (hc : Closes E) {u : Nat} (hu : u < n) : ∀ (k : Nat) (l : List Nat) (v : Nat), l.length ≤ k → Lead E u l v → ∃ l', Lead E u l' v ∧ l'.length < n ∧ sumI E l' ≤ sumI E l := by
  intro k
  induction k with
  | zero =>
    intro l v hk h
    exact ⟨l, h, by omega, Int.le_refl _⟩
  | succ k ih =>
    intro l v hk h
    by_cases hl : l.length < n
    · exact ⟨l, h, hl, Int.le_refl _⟩
    have H : ∀ i, ∃ x, i ≤ l.length → Lead E u (l.take i) x ∧ Lead E x (l.drop i) v := fun i => by
      by_cases hi : i ≤ l.length
      · obtain ⟨x, h1⟩ := Lead.split l u v h i hi
        exact ⟨x, fun _ => h1⟩
      · exact ⟨0, fun h => absurd h hi⟩
    obtain ⟨f, hf⟩ := Classical.axiomOfChoice H
    have hnd : ¬((List.range (l.length + 1)).map f).Nodup := fun hd => by
      have := nodup_le n _ hd (fun x hx => by
        obtain ⟨i, hi, rfl⟩ := List.mem_map.1 hx
        exact Lead.lt hE _ _ _ (hf i (by have := List.mem_range.1 hi; omega)).1 hu)
      rw [List.length_map, List.length_range] at this
      omega
    obtain ⟨i, j, hij, hj, he⟩ := range_twice hnd
    obtain ⟨a1, a2⟩ := hf i (by omega)
    obtain ⟨b1, b2⟩ := hf j (by omega)
    obtain ⟨x, c1, c2⟩ := Lead.split _ _ _ a2 (j - i) (by rw [List.length_drop]; omega)
    have e1 : l.take j = l.take i ++ (l.drop i).take (j - i) := by
      rw [← List.take_add]
      congr 1
      omega
    have hx : x = f j := Lead.fn _ _ _ _ (a1.append c1) (e1 ▸ b1)
    subst hx
    obtain ⟨p, hp⟩ := hc
    have hmid := c1.wk.keeps hp
    rw [he] at hmid
    have hs : sumI E l = sumI E (l.take i) + (sumI E ((l.drop i).take (j - i)) + sumI E (l.drop j)) := by
      have e2 : l = (l.take i ++ (l.drop i).take (j - i)) ++ l.drop j := by rw [← e1, List.take_append_drop]
      rw [← Int.add_assoc, ← sumI_append, ← sumI_append, ← e2]
    have hL : Lead E u (l.take i ++ l.drop j) v := (he ▸ a1 : Lead E u (l.take i) (f j)).append b2
    obtain ⟨l', h1, h2, h3⟩ := ih _ v (by rw [List.length_append, List.length_take, List.length_drop]; omega) hL
    refine ⟨l', h1, h2, ?_⟩
    rw [sumI_append] at h3
    omega
/-- More than any sum, for the specification. -/
def FAR : Int := 1125899906842624
/-- What is true of sums at all times. -/
structure RW (E : List Eg) (n src : Nat) (T : Nat) (d : Nat → Int) : Prop where
  own : d src ≤ 0
  le : ∀ v, v < n → d v ≤ FAR
  lo : ∀ v, v < n → -(22001 * (T : Int)) ≤ d v
  walk : ∀ v, v < n → d v ≠ FAR → Wk E src v (d v)
/-- What rounds have done: all ways of at most k edges, and those with one more, if it is among the first i. -/
def Rn (E : List Eg) (src k i : Nat) (d : Nat → Int) : Prop :=
  (∀ l v, Lead E src l v → l.length ≤ k → d v ≤ sumI E l) ∧ ∀ l j e, j < i → Lead E src l e.1 → l.length ≤ k → E[j]? = some e → d e.2.1 ≤ sumI E l + e.2.2
theorem sumI_le {E : List Eg} {n : Nat} (hE : EOk E n 22001) : ∀ (l : List Nat) (u v : Nat), Lead E u l v → sumI E l ≤ 22001 * (l.length : Int) := by
  intro l
  induction l with
  | nil => intro u v _; simp [sumI]
  | cons j l ih =>
    rintro u v ⟨e, h1, h2, h3⟩
    have a := ih _ _ h3
    have b := hE.hi e (List.mem_of_getElem? h1)
    have c : costI E j = e.2.2 := by simp [costI, h1]
    rw [sumI, c, List.length_cons]
    push_cast
    omega
theorem RW.start {E : List Eg} {n src : Nat} (hs : src < n) : RW E n src 0 (fun v => if v = src then 0 else FAR) where
  own := by simp
  le := fun v _ => by
    split
    · decide
    · exact Int.le_refl _
  lo := fun v _ => by
    split
    · simp
    · unfold FAR; simp
  walk := fun v _ => by
    split
    · rename_i h
      subst h
      exact fun _ => .nil _
    · exact fun h => absurd rfl h
theorem Rn.start {E : List Eg} {src : Nat} {d : Nat → Int} (h : d src ≤ 0) : Rn E src 0 0 d :=
  ⟨fun l v hl hk => by
    have : l = [] := List.eq_nil_of_length_eq_zero (by omega)
    subst this
    have hv : src = v := hl
    subst hv
    exact h, fun _ _ _ h => absurd h (Nat.not_lt_zero _)⟩
theorem RW.more {E : List Eg} {n src T T' : Nat} {d : Nat → Int} (h : RW E n src T d) (hT : T ≤ T') : RW E n src T' d :=
  ⟨h.own, h.le, fun v hv => by have := h.lo v hv; omega, h.walk⟩
theorem RW.lower {E : List Eg} {n src T : Nat} {d : Nat → Int} (h : RW E n src T d) (hE : EOk E n 22001) {e : Eg} (he : e ∈ E) (hf : d e.1 < FAR) (hlt : d e.1 + e.2.2 < d e.2.1) : RW E n src (T + 1) (upd d e.2.1 (d e.1 + e.2.2)) := by
  have h1 := h.lo _ (hE.fst e he)
  have h2 := hE.lo e he
  have h3 := h.le _ (hE.snd e he)
  refine ⟨?_, fun v hv => ?_, fun v hv => ?_, fun v hv => ?_⟩
  · unfold upd
    split
    · rename_i hx
      have := h.own
      rw [hx] at this
      omega
    · exact h.own
  · unfold upd
    split
    · omega
    · exact h.le v hv
  · unfold upd
    split
    · push_cast; omega
    · have := h.lo v hv
      push_cast; omega
  · unfold upd
    split
    · rename_i hx
      subst hx
      exact fun _ => (h.walk _ (hE.fst e he) (by omega)).snoc e he rfl
    · exact h.walk v hv
theorem Rn.low {E : List Eg} {src k i : Nat} {d d' : Nat → Int} (h : Rn E src k i d) (hd : ∀ v, d' v ≤ d v) : Rn E src k i d' :=
  ⟨fun l v hl hk => Int.le_trans (hd v) (h.1 l v hl hk), fun l j e hj hl hk he => Int.le_trans (hd _) (h.2 l j e hj hl hk he)⟩
theorem upd_low {d : Nat → Int} {k : Nat} {x : Int} (h : x ≤ d k) : ∀ v, upd d k x v ≤ d v := fun v => by
  unfold upd
  split
  · rename_i hv; rw [hv]; exact h
  · exact Int.le_refl _
theorem Rn.stepYes {E : List Eg} {src k i : Nat} {d : Nat → Int} (h : Rn E src k i d) {e : Eg} (he : E[i]? = some e) (hlt : d e.1 + e.2.2 < d e.2.1) : Rn E src k (i + 1) (upd d e.2.1 (d e.1 + e.2.2)) := by
  have hl := h.low (upd_low (d := d) (k := e.2.1) (x := d e.1 + e.2.2) (by omega))
  refine ⟨hl.1, fun l j f hj hL hk hf => ?_⟩
  by_cases hji : j < i
  · exact hl.2 l j f hji hL hk hf
  · obtain rfl : j = i := by omega
    rw [he] at hf
    cases hf
    rw [upd_same]
    have := h.1 l e.1 hL hk
    omega
theorem Rn.stepNo {E : List Eg} {src k i n : Nat} {d : Nat → Int} (h : Rn E src k i d) (hE : EOk E n 22001) (hk2 : k ≤ 1000000) {e : Eg} (he : E[i]? = some e) (hno : d e.1 < FAR → d e.2.1 ≤ d e.1 + e.2.2) : Rn E src k (i + 1) d := by
  refine ⟨h.1, fun l j f hj hL hk hf => ?_⟩
  by_cases hji : j < i
  · exact h.2 l j f hji hL hk hf
  · obtain rfl : j = i := by omega
    rw [he] at hf
    cases hf
    have h1 := h.1 l e.1 hL hk
    have h2 := sumI_le hE _ _ _ hL
    have := hno (by unfold FAR; omega)
    omega
theorem Rn.next {E : List Eg} {src k i : Nat} {d : Nat → Int} (h : Rn E src k i d) (hi : E.length ≤ i) : Rn E src (k + 1) 0 d := by
  refine ⟨fun l v hL hk => ?_, fun _ _ _ h => absurd h (Nat.not_lt_zero _)⟩
  by_cases hl : l.length ≤ k
  · exact h.1 l v hL hl
  · obtain ⟨a, j, rfl⟩ : ∃ a j, l = a ++ [j] := by
      have hne : l ≠ [] := by intro h; subst h; simp at hl
      exact ⟨l.dropLast, l.getLast hne, (List.dropLast_concat_getLast hne).symm⟩
    obtain ⟨e, h1, h2, h3⟩ := hL.last
    have hj : j < E.length := (List.getElem?_eq_some_iff.1 h1).1
    have := h.2 a j e (by omega) h3 (by rw [List.length_append, List.length_singleton] at hk; omega) h1
    rw [h2] at this
    rw [sumI_append]
    simp only [sumI, costI, h1, Option.map_some, Option.getD_some, Int.add_zero]
    exact this
/-- Behind as many rounds as there are places no edge lowers a sum, if the net closes. -/
theorem Rn.rest {E : List Eg} {n src k i T : Nat} {d : Nat → Int} (h : Rn E src k i d) (hw : RW E n src T d) (hE : EOk E n 22001) (hs : src < n) (hk : n ≤ k) (hc : Closes E) {e : Eg} (he : e ∈ E) (hf : d e.1 < FAR) : d e.2.1 ≤ d e.1 + e.2.2 := by
  obtain ⟨l, h1, h2⟩ := (hw.walk _ (hE.fst e he) (by omega)).lead
  obtain ⟨j, hj⟩ := List.getElem?_of_mem he
  obtain ⟨l', a1, a2, a3⟩ := short_lead hE hc hs _ (l ++ [j]) _ (Nat.le_refl _) (h1.snoc hj)
  have := h.1 l' _ a1 (by omega)
  rw [sumI_append, h2] at a3
  simp only [sumI, costI, hj, Option.map_some, Option.getD_some, Int.add_zero] at a3
  omega
/-- No edge lowers a sum. -/
def CalmF (E : List Eg) (i : Nat) (d : Nat → Int) : Prop := ∀ j e, j < i → E[j]? = some e → d e.1 < FAR → d e.2.1 ≤ d e.1 + e.2.2
theorem CalmF.all {E : List Eg} {d : Nat → Int} {i : Nat} (h : CalmF E i d) (hi : E.length ≤ i) : ∀ e, e ∈ E → d e.1 < FAR → d e.2.1 ≤ d e.1 + e.2.2 := fun e he => by
  obtain ⟨j, hj⟩ := List.getElem?_of_mem he
  have : j < E.length := (List.getElem?_eq_some_iff.1 hj).1
  exact h j e (by omega) hj
theorem calm_le {E : List Eg} {n : Nat} {d : Nat → Int} (hE : EOk E n 22001) (hc : ∀ e, e ∈ E → d e.1 < FAR → d e.2.1 ≤ d e.1 + e.2.2) : ∀ (l : List Nat) (u v : Nat), Lead E u l v → l.length ≤ 1000000 → d u + 22001 * (l.length : Int) < FAR → d v ≤ d u + sumI E l := by
  intro l
  induction l with
  | nil =>
    intro u v h _ _
    cases h
    simp [sumI]
  | cons j l ih =>
    rintro u v ⟨e, h1, h2, h3⟩ hk hb
    have hm := List.mem_of_getElem? h1
    have b := hE.hi e hm
    rw [List.length_cons] at hk hb
    have a := hc e hm (by rw [h2]; push_cast at hb; omega)
    rw [h2] at a
    have := ih _ _ h3 (by omega) (by push_cast at hb; omega)
    have c : costI E j = e.2.2 := by simp [costI, h1]
    rw [sumI, c]
    omega
/-- Sums that no edge lowers are the least ones, and the net closes, where each place can be reached. -/
theorem calm_min {E : List Eg} {n src T : Nat} {d : Nat → Int} (hw : RW E n src T d) (hE : EOk E n 22001) (hr : ∀ v, v < n → ∃ l, Lead E src l v ∧ l.length ≤ 1000000) (hc : ∀ e, e ∈ E → d e.1 < FAR → d e.2.1 ≤ d e.1 + e.2.2) :
    Closes E ∧ ∀ v, v < n → MinW E src v (d v) := by
  have hfin : ∀ v, v < n → d v < FAR := fun v hv => by
    obtain ⟨l, h1, h2⟩ := hr v hv
    have h3 := hw.own
    have h4 := calm_le hE hc l src v h1 h2 (by unfold FAR; omega)
    have h5 := sumI_le hE _ _ _ h1
    unfold FAR
    omega
  have hcl : Closes E := ⟨d, fun e he => hc e he (hfin _ (hE.fst e he))⟩
  refine ⟨hcl, fun v hv => ⟨hw.walk v hv (by have := hfin v hv; omega), fun x hx => ?_⟩⟩
  have h0 := hx.keeps (p := d) (fun e he => hc e he (hfin _ (hE.fst e he)))
  have h1 := hw.own
  omega
end Go.Proofs.YtodmbcoobjcooaaDoor

namespace Go.Proofs.YtodmbcoobjcooaaDoor
open Go Go.RowKit Go.Shelf
attribute [local go_sem] Oper.semAt_some
theorem stillq {P : Program} {o : Oper} {a : Act} {w : World} {K : Act → Prop} (h : o.quiet P a (fun w' => w' = w) K) : o.still P a w K := by
  obtain ⟨v, h1, h2⟩ := h
  have h3 := h1 w rfl
  unfold Oper.quietAt at h3
  unfold Oper.still
  generalize (execOp a.eval o).run P w = r at *
  cases r with
  | ok n w' =>
    cases n <;> simp only [Oper.quietUpon] at h3 <;> simp only [Oper.stillUpon]
    case value u => obtain ⟨rfl, rfl⟩ := h3; exact ⟨rfl, h2⟩
    case skip => obtain ⟨rfl, rfl⟩ := h3; exact ⟨rfl, h2⟩
    case enter f args => obtain ⟨rfl, hc⟩ := h3; exact ⟨rfl, v, hc, h2⟩
  | halt x w' => simp only [Oper.quietUpon] at h3
theorem wpStill_q {P : Program} {ops : Array Oper} {w : World} {Q : Act → Prop} : ∀ (l : List Oper) (a : Act), wpQuiet P ops (fun w' => w' = w) Q l a → wpStill P ops w Q l a
  | [], _, h => h
  | o :: rest, a, h => by
    unfold wpQuiet at h
    unfold wpStill
    split
    · rename_i hw
      rw [if_pos hw] at h
      exact Oper.still_mono (fun a' => wpStill_q rest a') (stillq h)
    · rename_i hw
      rw [if_neg hw] at h
      exact wpStill_q rest _ h
/-- A region that draws, whose first n operations only read, and whose others come in one order. -/
theorem region_tailq {P : Program} {id : Nat} {Q : Exit → Act → World → Prop} {a : Act} {w : World} {l : List Oper} (n : Nat) (hm : P.follows .mixedOrders = true) (hB : Region.lexTailB .any l.toArray n = true)
    (h : wpQuiet P l.toArray (fun w' => w' = w.drew) (fun a' => wpList P l.toArray Q (l.drop n) a' w.drew) (l.take n) a) : (Code.region id l.toArray true).wp P Q a w :=
  wp_region_still_tail n hm hB (wpStill_q _ _ h)
/-- The places of the first lines of the first k tracks. -/
def firsK (s : Sy) (k : Nat) : List Int := (List.range k).map fun i => ((fstP s i : Nat) : Int)
theorem firsK_len (s : Sy) (k : Nat) : (firsK s k).length = k := by simp [firsK]
theorem firsK_succ (s : Sy) (k : Nat) : firsK s (k + 1) = firsK s k ++ [((fstP s k : Nat) : Int)] := by simp [firsK, List.range_succ]
theorem firsK_get {s : Sy} {k i : Nat} (h : i < k) : (firsK s k)[i]?.getD 0 = ((fstP s i : Nat) : Int) := by
  unfold firsK
  rw [List.getElem?_map, List.getElem?_range h]
  rfl
set_option maxRecDepth 100000 in
set_option maxHeartbeats 8000000 in
theorem rf_spots (s : Sy) (hs : Ok s) (A D : Option Addr) (c d : Nat) (w : World) (hM : SysM w A D s) :
    Calls Tryd.prog 76 #[.agg #[.slice A s.tracks.length c, .slice D s.ties.length d, .int .i64 s.window]] w fun e w' => ∃ FA fc, e = .returned (.agg #[.slice FA s.tracks.length fc, .int .i64 (nPl s)]) ∧ IntsA w' FA (firsK s s.tracks.length) ∧ New w w' := by
  have n1 := (New.refl w).alloc (.cells #[.slice A s.tracks.length c, .slice D s.ties.length d, .int .i64 s.window] 25)
  have n2 := n1.alloc (.cells #[.slice none 0 0, .int .i64 0] 102)
  have n3 := n2.alloc (.cells #[.slice none 0 0, .int .i64 1] 102)
  have m2 := (New.refl (w.alloc (.cells #[.slice A s.tracks.length c, .slice D s.ties.length d, .int .i64 s.window] 25))).alloc (.cells #[.slice none 0 0, .int .i64 0] 102)
  have m3 := (New.refl ((w.alloc (.cells #[.slice A s.tracks.length c, .slice D s.ties.length d, .int .i64 s.window] 25)).alloc (.cells #[.slice none 0 0, .int .i64 0] 102))).alloc (.cells #[.slice none 0 0, .int .i64 1] 102)
  have r0 := (RowIs.new w 25 [.slice A s.tracks.length c, .slice D s.ties.length d, .int .i64 s.window]).keep (m2.trans m3)
  have r1 := (RowIs.new (w.alloc (.cells #[.slice A s.tracks.length c, .slice D s.ties.length d, .int .i64 s.window] 25)) 102 [.slice none 0 0, .int .i64 0]).keep m3
  have r2 := RowIs.new ((w.alloc (.cells #[.slice A s.tracks.length c, .slice D s.ties.length d, .int .i64 s.window] 25)).alloc (.cells #[.slice none 0 0, .int .i64 0] 102)) 102 [.slice none 0 0, .int .i64 1]
  simp only [World.size_alloc] at r1 r2
  have HM := Lib.hid hM
  have HS := Lib.hid hs
  have HR0 := Lib.hid r0
  have HR1 := Lib.hid r1
  have HR2 := Lib.hid r2
  have HN := Lib.hid n3
  have hmt := hM.1.1
  have h64 := (checkE_ok hs).1
  clear hM hs n1 n2 n3 m2 m3 r0 r1 r2
  go_enter Tryd.func76, Tryd.ntmps76
  go_wp2_with fail
  generalize hW0 : ((w.alloc (.cells #[.slice A s.tracks.length c, .slice D s.ties.length d, .int .i64 s.window] 25)).alloc (.cells #[.slice none 0 0, .int .i64 0] 102)).alloc (.cells #[.slice none 0 0, .int .i64 1] 102) = W at *
  clear hW0
  obtain ⟨i0, hi0, hz0, hz1, hz2⟩ := info_parts info_int
  have HI : Hid (Tryd.prog.info? 3 = some i0 ∧ i0.zero = some (.int .i64 0) ∧ i0.size = 1 ∧ i0.bytes = 8) := Lib.hid ⟨hi0, hz0, hz1, hz2⟩
  clear hi0 hz0 hz1 hz2
  go_loopw [4] (fun i wr => ∃ (k : Nat) (FA : Option Addr) (fc : Nat), k ≤ s.tracks.length ∧ i = .int .i64 k ∧ RowIs wr w.heap.size 25 [.slice A s.tracks.length c, .slice D s.ties.length d, .int .i64 s.window] ∧ RowIs wr (w.heap.size + 1) 102 [.slice none 0 0, .int .i64 0] ∧ RowIs wr (w.heap.size + 1 + 1) 102 [.slice FA k fc, .int .i64 (fstP s k)] ∧
    wr.ownsRow w.heap.size 3 1 (.slice FA k fc) k ((firsK s k).map (Value.int .i64)) ∧ New w wr) (fun i _ => s.tracks.length - (intOf i).toNat)
  case atStart => exact ⟨0, none, 0, Nat.zero_le _, rfl, HR0.out, HR1.out, HR2.out, World.ownsRow_nil _ _ _ _, HN.out⟩
  case round =>
    obtain ⟨k, FA, fc, hk, rfl, p0, p1, p2, po, pn⟩ := hrel
    clear HR0 HR1 HR2 HN
    have c0 := p0.cell (i := 0) rfl
    by_cases hlt : k < s.tracks.length
    · have ik : (k : Int) < (s.tracks.length : Int) := by omega
      have HFS := Lib.hid (fstP_succ s k)
      have HFK := Lib.hid (firsK_succ s k)
      have HFL := Lib.hid (firsK_len s k)
      have hfl := fstP_le HS.out (k + 1) hlt
      have HTK : Hid (∀ w', New w w' → ∃ b off, A = some ⟨b, off, none⟩ ∧ TkC w' b (off + k * 4) (tkAt s k)) := Lib.hid fun w' h => by
        obtain ⟨b, off, e, -, hc⟩ := (HM.out.1.keep h).2 (by omega)
        exact ⟨b, off, e, hc k hlt⟩
      rw [HFS.out] at hfl
      generalize hF1 : fstP s (k + 1) = f1 at *
      generalize fstP s k = f0 at *
      generalize hK1 : firsK s (k + 1) = K1 at *
      have HF1 := Lib.hid hF1
      have HK1 := Lib.hid hK1
      clear hF1 hK1
      generalize firsK s k = K0 at *
      have d0 := p2.cell (i := 0) rfl
      have d1 := p2.cell (i := 1) rfl
      have HP0 := Lib.hid p0
      have HP1 := Lib.hid p1
      have HP2 := Lib.hid p2
      have HPO := Lib.hid po
      have HPN := Lib.hid pn
      have na := (New.refl wr).alloc (.cells #[.int .i64 f0] 3)
      have HNA := Lib.hid na
      have HPA := Lib.hid (fun (w1 : World) v' n' xs' (hg : (wr.alloc (.cells #[.int .i64 f0] 3)).grownBy w1 (Value.slice FA k fc).ownBlock) (ho : w1.ownsRow w.heap.size 3 1 v' n' xs') => push_all (tN := 102) 0 (owns_keep po na) hg ho (p2.keep na) (by decide))
      have HPB := Lib.hid (fun (w1 : World) (hg : (wr.alloc (.cells #[.int .i64 f0] 3)).grownBy w1 (Value.slice FA k fc).ownBlock) => grown_below (owns_keep po na) hg (by have := pn.size; simp; omega))
      have q0 := p0.lt
      have q1 := p1.lt
      have q2 := p2.lt
      have HQ := Lib.hid (And.intro q0 (And.intro q1 q2))
      have hb1 : w.heap.size ≠ w.heap.size + 1 + 1 := by omega
      have hb2 : w.heap.size + 1 ≠ w.heap.size + 1 + 1 := by omega
      have hkm : k + 1 ≤ maxLen := by unfold maxLen; omega
      have hkb : (k + 1) * 8 ≤ 140737488355328 := by omega
      have hbs : w.heap.size ≤ (wr.alloc (.cells #[.int .i64 f0] 3)).heap.size := by have := pn.size; simp; omega
      clear p0 p1 p2 po pn na
      go_wp2_with (at_builtin; go_loud (refine wpList_append_lies _ rfl (.tmp 14) (.tmp 17) 26 rfl w.heap.size 3 i0 (.int .i64 0) 1 8 Tryd.underlying26 HI.out.1 HI.out.2.1 HI.out.2.2.1 HI.out.2.2.2 rfl (by decide) (.slice FA k fc) k _ rfl (owns_keep HPO.out HNA.out) ⟨wr.heap.size, 0, none⟩ 1 1 [.int .i64 f0] rfl rfl ?c1 ?c2 (by decide) ?c3 ?c4 ?c5 _ rfl ?_))
      case c1 => exact World.news_of_block (cs := #[.int .i64 f0]) (heap_alloc_new wr _)
      case c2 => simp [Value.oneCell']
      case c3 => exact hkm
      case c4 => exact hkb
      case c5 => exact hbs
      intro g5 cap w7 ho5 hg5 _ _
      obtain ⟨b1, b2, b3, b4, -⟩ := HPA.out w7 _ _ _ hg5 ho5
      have y0 := b1.cell (i := 0) rfl
      have y1 := b1.free 0
      have HB8 := Lib.hid b2
      have HO8 := Lib.hid b3
      have HA8 := Lib.hid (b4 _ _ _ (HP0.out.keep HNA.out) hb1 (by decide))
      have HR8 := Lib.hid (b4 _ _ _ (HP1.out.keep HNA.out) hb2 (by decide))
      have HN8 := Lib.hid ((Below.trans (HPN.out.trans HNA.out) (HPB.out w7 hg5) : New w w7).setCell (p := ⟨w.heap.size + 1 + 1, 0, none⟩) (by show w.heap.size ≤ w.heap.size + 1 + 1; omega) (.slice (some ⟨g5, 0, none⟩) (k + 1) cap))
      clear b1 b2 b3 b4 ho5 hg5 HPA HPB HPO HP0 HP1 HP2 HPN HNA d0 d1 c0 hbs
      go_wp2_with fail
      generalize w7.setCell ⟨w.heap.size + 1 + 1, 0, none⟩ (.slice (some ⟨g5, 0, none⟩) (k + 1) cap) = W8 at *
      clear y0 y1
      obtain ⟨tb, toff, rfl, htk⟩ := HTK.out W8 HN8.out
      obtain ⟨JA, jc, TA, tc, z0, z1, z2, z3, -, -⟩ := htk
      generalize tkAt s k = t at *
      obtain ⟨tsl, tdr, tjs, tts⟩ := t
      dsimp only at z0 z1 z2 z3 hfl HFS
      have x0 := HA8.out.cell (i := 0) rfl
      have x1 := HB8.out.cell (i := 1) rfl
      have x2 := HB8.out.free 1
      have hw : IntKind.i64.wrap ((f0 : Int) + (tts.length : Int)) = ((f0 + tts.length : Nat) : Int) := by rw [IntWalk.i64_in _ (by omega)]; omega
      go_wp2_with fail
      try simp only [List.append_eq, List.cons_append, List.nil_append]
      refine region_tailq 11 (by kernel_rfl) (by kernel_rfl) ?_
      simp only [List.take_succ_cons, List.take_zero]
      repeat (go_big_quiet_step (fail))
      refine wpQuiet_nil ?_
      simp only [List.drop_succ_cons, List.drop_zero]
      go_wp2_with fail
      go_roundw
      case rel =>
        have e1 : ((fstP s (k + 1) : Nat) : Int) = (f0 : Int) + (tts.length : Int) := by rw [HF1.out, HFS.out]; omega
        refine ⟨k + 1, some ⟨g5, 0, none⟩, cap, by omega, by go_num, (HA8.out.other (k := w.heap.size + 1 + 1) (by omega) 1 _).drew, (HR8.out.other (k := w.heap.size + 1 + 1) (by omega) 1 _).drew, by rw [e1]; exact (HB8.out.put 1 _).drew, ?_, ?_⟩
        · rw [HK1.out, HFK.out, List.map_append]
          exact owns_keep (owns_setCell HO8.out (owns_ne HO8.out HB8.out (by decide)) 1 _) (New.refl _).drew
        · exact (HN8.out.setCell (p := ⟨w.heap.size + 1 + 1, 1, none⟩) (by show w.heap.size ≤ w.heap.size + 1 + 1; omega) _).drew
      case measure => simp [intOf]; omega
    · obtain rfl : k = s.tracks.length := by omega
      have y0 := p2.cell (i := 0) rfl
      have y1 := p2.cell (i := 1) rfl
      have x0 := p1.cell (i := 0) rfl
      have x1 := p1.cell (i := 1) rfl
      have f0 := p1.free 0
      have f1 := p1.free 1
      have HX := Lib.hid ((p1.put 0 (.slice FA s.tracks.length fc)).put 1 (.int .i64 (fstP s s.tracks.length)))
      have HOX := Lib.hid (owns_setCell (owns_setCell po (owns_ne po p1 (by decide)) 0 (.slice FA s.tracks.length fc)) (owns_ne (owns_setCell po (owns_ne po p1 (by decide)) 0 (.slice FA s.tracks.length fc)) (p1.put 0 _) (by decide)) 1 (.int .i64 (fstP s s.tracks.length)))
      have HNX := Lib.hid ((pn.setCell (p := ⟨w.heap.size + 1, 0, none⟩) (by show w.heap.size ≤ w.heap.size + 1; omega) (.slice FA s.tracks.length fc)).setCell (p := ⟨w.heap.size + 1, 1, none⟩) (by show w.heap.size ≤ w.heap.size + 1; omega) (.int .i64 (fstP s s.tracks.length)))
      clear p0 p1 p2 po pn
      have HNP : Hid (nPl s = fstP s s.tracks.length) := Lib.hid rfl
      generalize fstP s s.tracks.length = f9 at *
      go_wp2_with fail
      clear x0 x1 f0 f1 y0 y1
      have e0 := HX.out.cell (i := 0) rfl
      have e1 := HX.out.cell (i := 1) rfl
      have HFL := Lib.hid (firsK_len s s.tracks.length)
      generalize (wr.setCell ⟨w.heap.size + 1, 0, none⟩ (.slice FA s.tracks.length fc)).setCell ⟨w.heap.size + 1, 1, none⟩ (.int .i64 f9) = W9 at *
      refine bodyPost_ret (v := .agg #[.slice FA s.tracks.length fc, .int .i64 f9]) (by simp [results, Tryd.results76]; go_simp) rfl ?_
      exact ⟨FA, fc, by rw [HNP.out], (owns_ints HOX.out).2, HNX.out⟩
set_option maxRecDepth 100000 in
set_option maxHeartbeats 4000000 in
theorem rf_of (s : Sy) (hs : Ok s) (FA : Option Addr) (fc : Nat) (N : Int) (r : Rf) (hr : RefOk s r) (w : World) (hF : IntsA w FA (firsK s s.tracks.length)) :
    Calls Tryd.prog 79 #[.agg #[.slice FA s.tracks.length fc, .int .i64 N], .agg #[.int .i64 r.log, .int .i64 r.line]] w fun e w' => e = .returned (.int .i64 (plc s r)) ∧ New w w' := by
  have n2 := ((New.refl w).alloc (.cells #[.slice FA s.tracks.length fc, .int .i64 N] 102)).alloc (.cells #[.int .i64 r.log, .int .i64 r.line] 53)
  have r0 := (RowIs.new w 102 [.slice FA s.tracks.length fc, .int .i64 N]).keep ((New.refl _).alloc (.cells #[.int .i64 r.log, .int .i64 r.line] 53))
  have r1 := RowIs.new (w.alloc (.cells #[.slice FA s.tracks.length fc, .int .i64 N] 102)) 53 [.int .i64 r.log, .int .i64 r.line]
  simp only [World.size_alloc] at r1
  have HN := Lib.hid n2
  have x0 := r0.cell (i := 0) rfl
  have x1 := r0.cell (i := 1) rfl
  have y0 := r1.cell (i := 0) rfl
  have y1 := r1.cell (i := 1) rfl
  have hmt := (checkE_ok hs).1
  have hpl := nPl_le hs
  have hlt := plc_lt hr
  rcases hr with rfl | hr
  · have HP : Hid (plc s beg = 0) := Lib.hid (plc_beg s)
    rw [HP.out]
    clear n2 r0 r1 hF hs hlt HP
    dsimp only [beg] at y0 y1 ⊢
    go_enter Tryd.func79, Tryd.ntmps79
    go_wp2_with fail
    go_ret
    exact ⟨rfl, HN.out⟩
  · obtain ⟨-, -, hp, a1, a2, a3, a4⟩ := plc_line hr
    obtain ⟨log, line⟩ := r
    dsimp only at a1 a2 a3 a4 hp y0 y1 n2 HN ⊢
    obtain ⟨i, rfl⟩ : ∃ i : Nat, log = i := ⟨log.toNat, by omega⟩
    obtain ⟨j, rfl⟩ : ∃ j : Nat, line = j := ⟨line.toNat, by omega⟩
    simp only [Int.toNat_natCast] at a1 a2 hp
    obtain ⟨b, off, rfl, hb, hc⟩ := (hF.keep n2).2 (by rw [firsK_len]; omega)
    have z0 := hc i (by rw [firsK_len]; omega)
    rw [firsK_get a1] at z0
    have i1 : (i : Int) < (s.tracks.length : Int) := by omega
    have e1 : decide ((i : Int) < 0) = false := by simp
    have hw : IntKind.i64.wrap ((fstP s i : Int) + (j : Int)) = ((plc s ⟨i, j⟩ : Nat) : Int) := by rw [IntWalk.i64_in _ (by omega)]; omega
    have HF2 := Lib.hid r0
    clear n2 r0 r1 hF hs hc hb a1 a2 hp hlt hr
    generalize plc s ⟨i, j⟩ = P at *
    generalize fstP s i = f0 at *
    go_enter Tryd.func79, Tryd.ntmps79
    go_wp2_with fail
    go_quiet (fail)
    dsimp only [Exit.then]
    have HNQ := Lib.hid (HN.out.trans ((New.refl _).drewN nq))
    go_wp2_with fail
    go_ret
    exact ⟨rfl, HNQ.out⟩
end Go.Proofs.YtodmbcoobjcooaaDoor

namespace Go.Proofs.YtodmbcoobjcooaaDoor
open Go Go.RowKit Go.Shelf
attribute [local go_sem] Oper.semAt_some
theorem egs_at {s : Sy} {i : Nat} (h : i < (bnds s).length) : (egs s)[i]? = some (plc s ((bnds s)[i]?.getD default).frm, plc s ((bnds s)[i]?.getD default).to, ((bnds s)[i]?.getD default).most) := by
  unfold egs
  rw [List.getElem?_map, List.getElem?_eq_getElem h]
  rfl
theorem egs_len (s : Sy) : (egs s).length = (bnds s).length := by unfold egs; rw [List.length_map]
theorem bnd_facts {s : Sy} (hs : Ok s) {i : Nat} (h : i < (bnds s).length) : RefOk s ((bnds s)[i]?.getD default).frm ∧ RefOk s ((bnds s)[i]?.getD default).to ∧ -22001 ≤ ((bnds s)[i]?.getD default).most ∧ ((bnds s)[i]?.getD default).most ≤ 22001 := by
  rw [List.getElem?_eq_getElem h, Option.getD_some]
  obtain ⟨h1, h2, -, h3⟩ := bnds_ok hs (List.getElem_mem h)
  exact ⟨h1, h2, h3⟩
theorem fnRow_congr2 {n : Nat} {f g : Nat → Int} (h : ∀ i, i < n → f i = g i) : fnRow n f = fnRow n g := fnRow_congr h
theorem fnRow_rep {n : Nat} {f : Nat → Int} {z : Int} (h : ∀ i, i < n → f i = z) : fnRow n f = List.replicate n (.int .i64 z) := by
  rw [fnRow_congr (g := fun _ => z) h]
  unfold fnRow
  rw [List.map_const', List.length_range]
theorem Rn.calm0 {E : List Eg} {d : Nat → Int} : CalmF E 0 d := fun _ _ h => absurd h (Nat.not_lt_zero _)
theorem CalmF.step {E : List Eg} {i : Nat} {d : Nat → Int} (h : CalmF E i d) {e : Eg} (he : E[i]? = some e) (hno : d e.1 < FAR → d e.2.1 ≤ d e.1 + e.2.2) : CalmF E (i + 1) d := fun j f hj hf => by
  by_cases hji : j < i
  · exact h j f hji hf
  · obtain rfl : j = i := by omega
    rw [he] at hf
    cases hf
    exact hno
/-- What a round has found so far. -/
def HotP (E : List Eg) (n k i : Nat) (d : Nat → Int) (h : Int) : Prop := (h = -1 ∧ CalmF E i d) ∨ (0 ≤ h ∧ (n ≤ k → ¬Closes E))
theorem reach_short {s : Sy} {r : Rf} (hr : RefOk s r) {v : Nat} (hv : v < nPl s) : ∃ l, Lead (egs s) (plc s r) l v ∧ l.length ≤ 1000000 := by
  obtain ⟨q, hq, rfl⟩ := ref_at hv
  -- by the beginning
  have h1 : ∃ l, Lead (egs s) (plc s r) l 0 ∧ l.length ≤ 1 := by
    rcases hr with rfl | hr
    · exact ⟨[], by rw [plc_beg]; rfl, by simp⟩
    · obtain ⟨-, -, -, a1, a2, a3, a4⟩ := plc_line hr
      have hm : egOf s (downB r.log.toNat (tkAt s r.log.toNat) r.line.toNat) ∈ egs s := List.mem_map.2 ⟨_, mem_slip a1 a2 (.inr rfl), rfl⟩
      obtain ⟨i, hi⟩ := List.getElem?_of_mem hm
      have e : (⟨(r.log.toNat : Nat), (r.line.toNat : Nat)⟩ : Rf) = r := by
        cases r
        simp at a3 a4 ⊢
        omega
      refine ⟨[i], ⟨_, hi, ?_, ?_⟩, by simp⟩
      · unfold egOf downB
        rw [e]
      · unfold egOf downB
        exact plc_beg s
  have h2 : ∃ l, Lead (egs s) 0 l (plc s q) ∧ l.length ≤ 1 := by
    rcases hq with rfl | hq
    · exact ⟨[], by rw [plc_beg]; rfl, by simp⟩
    · obtain ⟨-, -, -, a1, a2, a3, a4⟩ := plc_line hq
      have hm : egOf s (upB q.log.toNat (tkAt s q.log.toNat) q.line.toNat) ∈ egs s := List.mem_map.2 ⟨_, mem_slip a1 a2 (.inl rfl), rfl⟩
      obtain ⟨i, hi⟩ := List.getElem?_of_mem hm
      have e : (⟨(q.log.toNat : Nat), (q.line.toNat : Nat)⟩ : Rf) = q := by
        cases q
        simp at a3 a4 ⊢
        omega
      refine ⟨[i], ⟨_, hi, ?_, ?_⟩, by simp⟩
      · unfold egOf upB
        exact plc_beg s
      · unfold egOf upB
        rw [e]
        rfl
  obtain ⟨l1, a, b⟩ := h1
  obtain ⟨l2, c, d⟩ := h2
  exact ⟨l1 ++ l2, a.append c, by rw [List.length_append]; omega⟩
/-- What reach answers. -/
def RchA (s : Sy) (src : Nat) (w : World) (e : Ending) (w' : World) : Prop :=
  ∃ (a b : Nat) (h : Int) (d f : Nat → Int), e = .returned (.tuple #[.slice (some ⟨a, 0, none⟩) (nPl s) (nPl s), .slice (some ⟨b, 0, none⟩) (nPl s) (nPl s), .int .i64 h]) ∧ New w w' ∧ RowIs w' a 3 (fnRow (nPl s) d) ∧ RowIs w' b 3 (fnRow (nPl s) f) ∧
    ((h = -1 ∧ Closes (egs s) ∧ ∀ v, v < nPl s → MinW (egs s) src v (d v)) ∨ (0 ≤ h ∧ ¬Closes (egs s)))
set_option maxRecDepth 100000 in
set_option maxHeartbeats 16000000 in
theorem rf_reach (s : Sy) (hs : Ok s) (A D : Option Addr) (c d : Nat) (w : World) (hM : SysM w A D s) (src : Nat) (hsrc : src < nPl s) :
    Calls Tryd.prog 77 #[.agg #[.slice A s.tracks.length c, .slice D s.ties.length d, .int .i64 s.window], .int .i64 src] w fun e w' => RchA s src w e w' := by
  have n1 := (New.refl w).alloc (.cells #[.slice A s.tracks.length c, .slice D s.ties.length d, .int .i64 s.window] 25)
  have r0 := RowIs.new w 25 [.slice A s.tracks.length c, .slice D s.ties.length d, .int .i64 s.window]
  have HR0 := Lib.hid r0
  have HN := Lib.hid n1
  have HM := Lib.hid hM
  have HS := Lib.hid hs
  have HSR := Lib.hid hsrc
  have hnp := nPl_le hs
  have hmk : ∀ w : World, (Instr.makeSlice 26 (.int .i64 (nPl s)) (.int .i64 (nPl s))).run Tryd.prog w = .ok (.slice (some ⟨w.heap.size, 0, none⟩) (nPl s) (nPl s)) (w.alloc (.cells (Array.replicate (nPl s) (.int .i64 0)) 3)) := fun w => make_row (bytes := 8) Tryd.underlying26 (by kernel_rfl) rfl (by decide) (nPl s) (by omega) w
  have c0 := r0.cell (i := 0) rfl
  have c1 := r0.cell (i := 1) rfl
  have c2 := r0.cell (i := 2) rfl
  clear n1 r0 hM hs
  go_enter Tryd.func77, Tryd.ntmps77
  go_wp2_with fail
  refine (rf_spots s HS.out A D c d _ (HM.out.keep HN.out)).mono ?_
  rintro e w1 ⟨FA, fc, rfl, hF, m1⟩
  have HX := Lib.hid (RowIs.new w1 102 [.slice FA s.tracks.length fc, .int .i64 (nPl s)])
  have na := (New.refl w1).alloc (.cells #[.slice FA s.tracks.length fc, .int .i64 (nPl s)] 102)
  have HN2 := Lib.hid (HN.out.trans (m1.trans na))
  have HF := Lib.hid (hF.keep na)
  have HA2 := Lib.hid (HR0.out.keep (m1.trans na))
  clear c0 c1 c2 hF m1 na
  have c0 := HA2.out.cell (i := 0) rfl
  have c1 := HA2.out.cell (i := 1) rfl
  have c2 := HA2.out.cell (i := 2) rfl
  have d0 := (HR0.out).lt
  go_wp2_with fail
  refine (rf_bounds s HS.out A D c d _ (HM.out.keep HN2.out)).mono ?_
  rintro e w2 ⟨V, rfl, ho, m2⟩
  obtain ⟨VA, vc, rfl⟩ := owns_form ho
  have HV := Lib.hid (owns_bns ho).2
  have HN3 := Lib.hid (HN2.out.trans m2)
  have HX3 := Lib.hid (HX.out.keep m2)
  have HF3 := Lib.hid (HF.out.keep m2)
  have hbl := bnds_len HS.out
  clear c0 c1 c2 d0 ho m2 HX HF HA2 HR0 HN HN2
  have x0 := HX3.out.cell (i := 0) rfl
  have x1 := HX3.out.cell (i := 1) rfl
  have xl := HX3.out.lt
  have HZ1 := Lib.hid ((RowIs.zeros w2 3 (nPl s) (.int .i64 0)).keep ((New.refl _).alloc (.cells (Array.replicate (nPl s) (.int .i64 0)) 3)))
  have HZ2 := RowIs.zeros (w2.alloc (.cells (Array.replicate (nPl s) (.int .i64 0)) 3)) 3 (nPl s) (.int .i64 0)
  simp only [World.size_alloc] at HZ2
  have HZ2 := Lib.hid HZ2
  have HNZ := Lib.hid (((New.refl w2).alloc (.cells (Array.replicate (nPl s) (.int .i64 0)) 3)).alloc (.cells (Array.replicate (nPl s) (.int .i64 0)) 3))
  generalize hnn : nPl s = n at *
  have HNN := Lib.hid hnn
  clear hnn
  generalize w1.heap.size = X at *
  go_wp2_with fail
  have HBN : Hid (∀ q, q < (bnds s).length → _) := Lib.hid fun q h => bnd_facts HS.out (i := q) h
  have HEG : Hid (∀ q, q < (bnds s).length → _) := Lib.hid fun q h => egs_at (s := s) (i := q) h
  have HEL := Lib.hid (egs_len s)
  have HEO := Lib.hid (egs_ok HS.out)
  have HPL : Hid (∀ r, RefOk s r → plc s r < nPl s) := Lib.hid fun r h => plc_lt h
  rw [HNN.out] at HEO HPL
  have HOFF : Hid (∀ w', New w2 w' → ∀ r, RefOk s r → _) := Lib.hid fun w' h r hr => rf_of s HS.out FA fc n r hr w' (HF3.out.keep h)
  have HRS : Hid (∃ r, RefOk s r ∧ plc s r = src) := Lib.hid (ref_at (by rw [HNN.out]; exact HSR.out))
  have HRE : Hid (∀ v, v < n → ∃ l, Lead (egs s) src l v ∧ l.length ≤ 1000000) := Lib.hid fun v hv => by
    obtain ⟨r, hr, rfl⟩ := HRS.out
    exact reach_short hr (by rw [HNN.out]; exact hv)
  clear xl x0 x1 hmk
  generalize (w2.alloc (.cells (Array.replicate n (.int .i64 0)) 3)).alloc (.cells (Array.replicate n (.int .i64 0)) 3) = WZ at *
  have HASZ : Hid (w2.heap.size ≤ w2.heap.size ∧ w2.heap.size ≤ w2.heap.size + 1) := Lib.hid (by omega)
  generalize hma : w2.heap.size = a at *
  have HMA := Lib.hid hma
  generalize hmm : (bnds s).length = m at *
  have HMM := Lib.hid hmm
  have HN30 := Lib.hid HN3.out
  generalize hE : egs s = E at *
  have HEE := Lib.hid hE
  clear hE
  clear hma hmm
  have hsr := HSR.out
  have hane : a ≠ a + 1 := by omega
  have hane2 : a + 1 ≠ a := by omega
  go_loopw [11] (fun i wr => ∃ k : Nat, k ≤ n ∧ i = .int .i64 k ∧ New w2 wr ∧ RowIs wr a 3 (fnRow n fun v => if v < k then FAR else 0) ∧ RowIs wr (a + 1) 3 (fnRow n fun v => if v < k then -1 else 0)) (fun i _ => n - (intOf i).toNat)
  case atStart =>
    refine ⟨0, Nat.zero_le _, rfl, HNZ.out, ?_, ?_⟩
    · rw [fnRow_rep (z := 0) (fun i _ => by simp)]; exact HZ1.out
    · rw [fnRow_rep (z := 0) (fun i _ => by simp)]; exact HZ2.out
  case round =>
    obtain ⟨k, hk, rfl, hn, ha, hb⟩ := hrel
    have x1 := (HX3.out.keep hn).cell (i := 1) rfl
    by_cases hlt : k < n
    · have ik : (k : Int) < (n : Int) := by omega
      have va := ha.cell (fnRow_get (f := fun v => if v < k then FAR else 0) hlt)
      have fa := ha.free k
      have hb2 := hb.other hane k (.int .i64 1125899906842624)
      have vb := hb2.cell (fnRow_get (f := fun v => if v < k then -1 else 0) hlt)
      have fb := hb2.free k
      have HA1 := Lib.hid ((ha.put k (.int .i64 1125899906842624)).other hane2 k (.int .i64 (-1)))
      have HB1 := Lib.hid (hb2.put k (.int .i64 (-1)))
      have HN1 := Lib.hid ((hn.setCell (p := ⟨a, k, none⟩) (by show w2.heap.size ≤ a; rw [HMA.out]; exact Nat.le_refl _) (.int .i64 1125899906842624)).setCell (p := ⟨a + 1, k, none⟩) (by show w2.heap.size ≤ a + 1; rw [HMA.out]; omega) (.int .i64 (-1)))
      clear ha hb hb2 hn
      generalize (if k < k then FAR else 0) = z1 at *
      generalize (if k < k then (-1 : Int) else 0) = z2 at *
      go_wp2_with fail
      go_roundw
      case rel =>
        refine ⟨k + 1, by omega, by go_num, HN1.out, ?_, ?_⟩
        · have h := HA1.out
          rw [fnRow_set hlt] at h
          rw [fnRow_congr2 (g := upd (fun v => if v < k then FAR else 0) k 1125899906842624)]
          · exact h
          · intro i hi
            unfold upd
            by_cases e1 : i = k
            · subst e1; simp; rfl
            · by_cases e2 : i < k
              · rw [if_pos (by omega), if_neg e1]; exact (if_pos e2).symm
              · rw [if_neg (by omega), if_neg e1]; exact (if_neg e2).symm
        · have h := HB1.out
          rw [fnRow_set hlt] at h
          rw [fnRow_congr2 (g := upd (fun v => if v < k then -1 else 0) k (-1))]
          · exact h
          · intro i hi
            unfold upd
            by_cases e1 : i = k
            · subst e1; simp
            · by_cases e2 : i < k
              · rw [if_pos (by omega), if_neg e1]; exact (if_pos e2).symm
              · rw [if_neg (by omega), if_neg e1]; exact (if_neg e2).symm
      case measure => simp [intOf]; omega
    · obtain rfl : k = n := by omega
      have ik : (src : Int) < (k : Int) := by omega
      have va := ha.cell (fnRow_get (f := fun v => if v < k then FAR else 0) hsr)
      have fa := ha.free src
      have HA1 := Lib.hid (ha.put src (.int .i64 0))
      have HB1 := Lib.hid (hb.other hane src (.int .i64 0))
      have HN1 := Lib.hid (hn.setCell (p := ⟨a, src, none⟩) (by show w2.heap.size ≤ a; rw [HMA.out]; exact Nat.le_refl _) (.int .i64 0))
      clear ha hb hn
      generalize (if src < k then FAR else 0) = z1 at *
      go_wp2_with fail
      clear x1 va fa
      have HAA : Hid (RowIs (wr.setCell ⟨a, src, none⟩ (.int .i64 0)) a 3 (fnRow k fun v => if v = src then 0 else FAR)) := Lib.hid (by
        have h := HA1.out
        rw [fnRow_set hsr] at h
        rw [fnRow_congr2 (g := upd (fun v => if v < k then FAR else 0) src 0)]
        · exact h
        · intro i hi
          unfold upd
          by_cases e1 : i = src
          · rw [if_pos e1, if_pos e1]
          · rw [if_neg e1, if_neg e1]; exact (if_pos hi).symm)
      generalize wr.setCell ⟨a, src, none⟩ (.int .i64 0) = W1 at *
      clear HA1 ik
      have HRW := Lib.hid (RW.start (E := E) hsr)
      have HR0 : Hid (Rn E src 0 0 (fun v => if v = src then 0 else FAR)) := Lib.hid (Rn.start (by simp))
      go_loopw [12] (fun r wr => ∃ (q : Nat) (d f : Nat → Int), q ≤ k ∧ r = .int .i64 q ∧ New w2 wr ∧ RowIs wr a 3 (fnRow k d) ∧ RowIs wr (a + 1) 3 (fnRow k f) ∧ RW E k src (q * m) d ∧ Rn E src q 0 d) (fun r _ => k + 1 - (intOf r).toNat)
      case atStart => exact ⟨0, _, _, Nat.zero_le _, rfl, HN1.out, HAA.out, HB1.out, by rw [Nat.zero_mul]; exact HRW.out, HR0.out⟩
      case round =>
        obtain ⟨p, dd, ff, hp, rfl, hn, ha, hb, hw, hr⟩ := hrel
        clear HRW HR0 HN1 HAA HB1
        have x1 := (HX3.out.keep hn).cell (i := 1) rfl
        have ip : (p : Int) ≤ (k : Int) := by omega
        have HN2 := Lib.hid hn
        have HA2 := Lib.hid ha
        have HB2 := Lib.hid hb
        have HW2 := Lib.hid hw
        have HR2 := Lib.hid hr
        clear hn ha hb hw hr
        go_wp2_with fail
        clear x1
        go_loopw [13, 14] (fun h i w' => ∃ (q : Nat) (hh : Int) (d2 f2 : Nat → Int), q ≤ m ∧ h = .int .i64 hh ∧ i = .int .i64 q ∧ New w2 w' ∧ RowIs w' a 3 (fnRow k d2) ∧ RowIs w' (a + 1) 3 (fnRow k f2) ∧ RW E k src (p * m + q) d2 ∧ Rn E src p q d2 ∧ HotP E k p q d2 hh) (fun _ i _ => m - (intOf i).toNat)
        case atStart => exact ⟨0, -1, dd, ff, Nat.zero_le _, rfl, rfl, HN2.out, HA2.out, HB2.out, HW2.out, HR2.out, .inl ⟨rfl, Rn.calm0⟩⟩
        case round =>
          obtain ⟨q, hh, d2, f2, hq, rfl, rfl, hn, ha, hb, hw, hr, hot⟩ := hrel
          clear HN2 HA2 HB2 HW2 HR2
          have HN3 := Lib.hid hn
          have HA3 := Lib.hid ha
          have HB3 := Lib.hid hb
          have HW3 := Lib.hid hw
          have HR3 := Lib.hid hr
          have HH3 := Lib.hid hot
          clear hn ha hb hw hr hot
          by_cases hqm : q < m
          · have iq : (q : Int) < (m : Int) := by omega
            obtain ⟨o1, o2, o3, o4⟩ := HBN.out q hqm
            have hp1 := HPL.out _ o1
            have hp2 := HPL.out _ o2
            have heg := HEG.out q hqm
            have HO1 : Hid (∀ w', New w2 w' → _) := Lib.hid fun w' h => HOFF.out w' h _ o1
            have HO2 : Hid (∀ w', New w2 w' → _) := Lib.hid fun w' h => HOFF.out w' h _ o2
            clear o1 o2
            obtain ⟨vb, vo, rfl, -, hc⟩ := (HV.out.keep HN3.out).2 (by rw [HMM.out]; omega)
            have hcc := hc q (by rw [HMM.out]; exact hqm)
            clear hc
            generalize plc s ((bnds s)[q]?.getD default).frm = pf at *
            generalize plc s ((bnds s)[q]?.getD default).to = pt at *
            generalize (bnds s)[q]?.getD default = bd at *
            obtain ⟨⟨fl, fn⟩, ⟨tl, tn⟩, mo, kd, ix⟩ := bd
            have HCC := Lib.hid hcc
            obtain ⟨y0, y1, y2, y3, y4, -, -⟩ := hcc
            dsimp only at y0 y1 y2 y3 y4 o3 o4 heg HO1 HO2 HCC
            have HEQ := Lib.hid heg
            clear heg
            have HSD : Hid (∀ w', New wr w' → (fun w' => (w'.cell? ⟨X, 0, none⟩ = some (.slice FA s.tracks.length fc) ∧ w'.cell? ⟨X, 1, none⟩ = some (.int .i64 k)) ∧ (w'.cell? ⟨vb, vo + q * 7, none⟩ = some (.int .i64 fl) ∧ w'.cell? ⟨vb, vo + q * 7 + 1, none⟩ = some (.int .i64 fn))) w') := Lib.hid fun w' h => ⟨⟨(HX3.out.keep (HN3.out.trans h)).cell rfl, (HX3.out.keep (HN3.out.trans h)).cell rfl⟩, h.cellOf y0, h.cellOf y1⟩
            have HOF : Hid (∀ w', New wr w' → _) := Lib.hid fun w' h => HO1.out w' (HN3.out.trans h)
            dsimp only at HSD HOF
            clear y0 y1 y2 y3 y4
            go_wp2_with fail
            refine region_plain (by kernel_rfl) (wpAny_of_held (S := (fun w' => (w'.cell? ⟨X, 0, none⟩ = some (.slice FA s.tracks.length fc) ∧ w'.cell? ⟨X, 1, none⟩ = some (.int .i64 k)) ∧ (w'.cell? ⟨vb, vo + q * 7, none⟩ = some (.int .i64 fl) ∧ w'.cell? ⟨vb, vo + q * 7 + 1, none⟩ = some (.int .i64 fn)))) _ _ _ _ ?_)
            change wpAnyH _ _ _ _ _ _ _ _ wr.drew
            have hS := HSD.out wr.drew (New.refl wr).drew
            refine wpAnyH_take (i := 0) (v := ?_) rfl (by kernel_rfl) (by kernel_rfl) (by kernel_rfl) (fun _ _ _ h => h) (Or.inl ⟨by rfl, fun w' hS' => ?_⟩) hS ?_
            rotate_left
            · obtain ⟨⟨s0, s1⟩, s2, s3⟩ := hS'
              go_simp
              try rfl
            try simp only [List.getElem_toArray, List.getElem_cons_zero, Act.put, List.setIfInBounds_toArray, List.set_cons_zero, List.set_cons_succ]
            refine wpAnyH_take (i := 1) (v := ?_) rfl (by kernel_rfl) (by kernel_rfl) (by kernel_rfl) (fun _ _ _ h => h) (Or.inl ⟨by rfl, fun w' hS' => ?_⟩) hS ?_
            rotate_left
            · obtain ⟨⟨s0, s1⟩, s2, s3⟩ := hS'
              go_simp
              try rfl
            try simp only [List.getElem_toArray, List.getElem_cons_zero, List.getElem_cons_succ, Act.put, List.setIfInBounds_toArray, List.set_cons_zero, List.set_cons_succ]
            refine wpAnyH_take (i := 2) (v := ?_) rfl (by kernel_rfl) (by kernel_rfl) (by kernel_rfl) (fun _ _ _ h => h) (Or.inl ⟨by rfl, fun w' hS' => ?_⟩) hS ?_
            rotate_left
            · obtain ⟨⟨s0, s1⟩, s2, s3⟩ := hS'
              go_simp
              try rfl
            try simp only [List.getElem_toArray, List.getElem_cons_zero, List.getElem_cons_succ, Act.put, List.setIfInBounds_toArray, List.set_cons_zero, List.set_cons_succ]
            refine wpAnyH_take (i := 3) (v := ?_) rfl (by kernel_rfl) (by kernel_rfl) (by kernel_rfl) (fun _ _ _ h => h) (Or.inl ⟨by rfl, fun w' hS' => ?_⟩) hS ?_
            rotate_left
            · obtain ⟨⟨s0, s1⟩, s2, s3⟩ := hS'
              go_simp
              try rfl
            try simp only [List.getElem_toArray, List.getElem_cons_zero, List.getElem_cons_succ, Act.put, List.setIfInBounds_toArray, List.set_cons_zero, List.set_cons_succ]
            refine wpAnyH_take (i := 4) (v := ?_) rfl (by kernel_rfl) (by kernel_rfl) (by kernel_rfl) (fun _ _ _ h => h) (Or.inl ⟨by rfl, fun w' hS' => ?_⟩) hS ?_
            rotate_left
            · obtain ⟨⟨s0, s1⟩, s2, s3⟩ := hS'
              go_simp
              try rfl
            try simp only [List.getElem_toArray, List.getElem_cons_zero, List.getElem_cons_succ, Act.put, List.setIfInBounds_toArray, List.set_cons_zero, List.set_cons_succ]
            refine wpAnyH_take (i := 5) (v := ?_) rfl (by kernel_rfl) (by kernel_rfl) (by kernel_rfl) (fun _ _ _ h => h) (Or.inl ⟨by rfl, fun w' hS' => ?_⟩) hS ?_
            rotate_left
            · obtain ⟨⟨s0, s1⟩, s2, s3⟩ := hS'
              go_simp
              try rfl
            try simp only [List.getElem_toArray, List.getElem_cons_zero, List.getElem_cons_succ, Act.put, List.setIfInBounds_toArray, List.set_cons_zero, List.set_cons_succ]
            clear hS
            refine wpAnyH_ready (rs := [6]) (by kernel_rfl) (by simp) ?_
            refine AllReadyH.cons rfl (fun K hK => ?_) AllReadyH.nil
            go_simp
            refine (HOF.out _ ((New.refl wr).drew)).mono ?_
            rintro e w7 ⟨rfl, mw7⟩
            have nw7 := ((New.refl wr).drew).trans mw7
            refine hK.out _ _ (HSD.out w7 nw7) (fun hS => ?_)
            clear hK K
            try simp only [List.getElem_toArray, List.getElem_cons_zero, List.getElem_cons_succ, Act.put, List.setIfInBounds_toArray, List.set_cons_zero, List.set_cons_succ]
            refine wpAnyH_take (i := 7) (v := ?_) rfl (by kernel_rfl) (by kernel_rfl) (by kernel_rfl) (fun _ _ _ h => h) (Or.inl ⟨by rfl, fun w' hS' => ?_⟩) hS ?_
            rotate_left
            · obtain ⟨⟨s0, s1⟩, s2, s3⟩ := hS'
              go_simp
              try rfl
            try simp only [List.getElem_toArray, List.getElem_cons_zero, List.getElem_cons_succ, Act.put, List.setIfInBounds_toArray, List.set_cons_zero, List.set_cons_succ]
            clear hS
            refine wpAnyH_done (by kernel_rfl) ?_ _
            unfold NormQ
            dsimp only [Exit.then]
            clear HSD HOF
            have HN7 := Lib.hid nw7
            have HC7 := Lib.hid (HCC.out.keep nw7)
            have HSD : Hid (∀ w', New w7 w' → (fun w' => (w'.cell? ⟨X, 0, none⟩ = some (.slice FA s.tracks.length fc) ∧ w'.cell? ⟨X, 1, none⟩ = some (.int .i64 k)) ∧ (w'.cell? ⟨vb, vo + q * 7 + 2, none⟩ = some (.int .i64 tl) ∧ w'.cell? ⟨vb, vo + q * 7 + 3, none⟩ = some (.int .i64 tn))) w') := Lib.hid fun w' h => ⟨⟨(HX3.out.keep ((HN3.out.trans HN7.out).trans h)).cell rfl, (HX3.out.keep ((HN3.out.trans HN7.out).trans h)).cell rfl⟩, h.cellOf HC7.out.2.2.1, h.cellOf HC7.out.2.2.2.1⟩
            have HOT : Hid (∀ w', New w7 w' → _) := Lib.hid fun w' h => HO2.out w' ((HN3.out.trans HN7.out).trans h)
            dsimp only at HSD HOT
            clear mw7 nw7
            go_wp2_with fail
            refine region_plain (by kernel_rfl) (wpAny_of_held (S := (fun w' => (w'.cell? ⟨X, 0, none⟩ = some (.slice FA s.tracks.length fc) ∧ w'.cell? ⟨X, 1, none⟩ = some (.int .i64 k)) ∧ (w'.cell? ⟨vb, vo + q * 7 + 2, none⟩ = some (.int .i64 tl) ∧ w'.cell? ⟨vb, vo + q * 7 + 3, none⟩ = some (.int .i64 tn)))) _ _ _ _ ?_)
            change wpAnyH _ _ _ _ _ _ _ _ w7.drew
            have hS := HSD.out w7.drew (New.refl w7).drew
            refine wpAnyH_take (i := 0) (v := ?_) rfl (by kernel_rfl) (by kernel_rfl) (by kernel_rfl) (fun _ _ _ h => h) (Or.inl ⟨by rfl, fun w' hS' => ?_⟩) hS ?_
            rotate_left
            · obtain ⟨⟨s0, s1⟩, s2, s3⟩ := hS'
              go_simp
              try rfl
            try simp only [List.getElem_toArray, List.getElem_cons_zero, Act.put, List.setIfInBounds_toArray, List.set_cons_zero, List.set_cons_succ]
            refine wpAnyH_take (i := 1) (v := ?_) rfl (by kernel_rfl) (by kernel_rfl) (by kernel_rfl) (fun _ _ _ h => h) (Or.inl ⟨by rfl, fun w' hS' => ?_⟩) hS ?_
            rotate_left
            · obtain ⟨⟨s0, s1⟩, s2, s3⟩ := hS'
              go_simp
              try rfl
            try simp only [List.getElem_toArray, List.getElem_cons_zero, List.getElem_cons_succ, Act.put, List.setIfInBounds_toArray, List.set_cons_zero, List.set_cons_succ]
            refine wpAnyH_take (i := 2) (v := ?_) rfl (by kernel_rfl) (by kernel_rfl) (by kernel_rfl) (fun _ _ _ h => h) (Or.inl ⟨by rfl, fun w' hS' => ?_⟩) hS ?_
            rotate_left
            · obtain ⟨⟨s0, s1⟩, s2, s3⟩ := hS'
              go_simp
              try rfl
            try simp only [List.getElem_toArray, List.getElem_cons_zero, List.getElem_cons_succ, Act.put, List.setIfInBounds_toArray, List.set_cons_zero, List.set_cons_succ]
            refine wpAnyH_take (i := 3) (v := ?_) rfl (by kernel_rfl) (by kernel_rfl) (by kernel_rfl) (fun _ _ _ h => h) (Or.inl ⟨by rfl, fun w' hS' => ?_⟩) hS ?_
            rotate_left
            · obtain ⟨⟨s0, s1⟩, s2, s3⟩ := hS'
              go_simp
              try rfl
            try simp only [List.getElem_toArray, List.getElem_cons_zero, List.getElem_cons_succ, Act.put, List.setIfInBounds_toArray, List.set_cons_zero, List.set_cons_succ]
            refine wpAnyH_take (i := 4) (v := ?_) rfl (by kernel_rfl) (by kernel_rfl) (by kernel_rfl) (fun _ _ _ h => h) (Or.inl ⟨by rfl, fun w' hS' => ?_⟩) hS ?_
            rotate_left
            · obtain ⟨⟨s0, s1⟩, s2, s3⟩ := hS'
              go_simp
              try rfl
            try simp only [List.getElem_toArray, List.getElem_cons_zero, List.getElem_cons_succ, Act.put, List.setIfInBounds_toArray, List.set_cons_zero, List.set_cons_succ]
            refine wpAnyH_take (i := 5) (v := ?_) rfl (by kernel_rfl) (by kernel_rfl) (by kernel_rfl) (fun _ _ _ h => h) (Or.inl ⟨by rfl, fun w' hS' => ?_⟩) hS ?_
            rotate_left
            · obtain ⟨⟨s0, s1⟩, s2, s3⟩ := hS'
              go_simp
              try rfl
            try simp only [List.getElem_toArray, List.getElem_cons_zero, List.getElem_cons_succ, Act.put, List.setIfInBounds_toArray, List.set_cons_zero, List.set_cons_succ]
            clear hS
            refine wpAnyH_ready (rs := [6]) (by kernel_rfl) (by simp) ?_
            refine AllReadyH.cons rfl (fun K hK => ?_) AllReadyH.nil
            go_simp
            refine (HOT.out _ ((New.refl w7).drew)).mono ?_
            rintro e w8 ⟨rfl, mw8⟩
            have nw8 := ((New.refl w7).drew).trans mw8
            refine hK.out _ _ (HSD.out w8 nw8) (fun hS => ?_)
            clear hK K
            try simp only [List.getElem_toArray, List.getElem_cons_zero, List.getElem_cons_succ, Act.put, List.setIfInBounds_toArray, List.set_cons_zero, List.set_cons_succ]
            refine wpAnyH_take (i := 7) (v := ?_) rfl (by kernel_rfl) (by kernel_rfl) (by kernel_rfl) (fun _ _ _ h => h) (Or.inl ⟨by rfl, fun w' hS' => ?_⟩) hS ?_
            rotate_left
            · obtain ⟨⟨s0, s1⟩, s2, s3⟩ := hS'
              go_simp
              try rfl
            try simp only [List.getElem_toArray, List.getElem_cons_zero, List.getElem_cons_succ, Act.put, List.setIfInBounds_toArray, List.set_cons_zero, List.set_cons_succ]
            clear hS
            refine wpAnyH_done (by kernel_rfl) ?_ _
            unfold NormQ
            dsimp only [Exit.then]
            clear HSD HOT HO1 HO2
            have HN8 := Lib.hid (HN3.out.trans (HN7.out.trans nw8))
            have HA8 := Lib.hid (HA3.out.keep (HN7.out.trans nw8))
            have HB8 := Lib.hid (HB3.out.keep (HN7.out.trans nw8))
            have y4 := (HC7.out.keep nw8).2.2.2.2.1
            dsimp only at y4
            clear mw8 nw8 HC7 HCC HN7 HN3 HA3 HB3
            have va := HA8.out.cell (fnRow_get (f := d2) hp1)
            have vt := HA8.out.cell (fnRow_get (f := d2) hp2)
            have l1 := HW3.out.le pf hp1
            have l2 := HW3.out.lo pf hp1
            have ip1 : (pf : Int) < (k : Int) := by omega
            have ip2 : (pt : Int) < (k : Int) := by omega
            have hpm : p * m ≤ 25601 * 200000 := Nat.mul_le_mul (by omega) (by omega)
            have hw : IntKind.i64.wrap (d2 pf + mo) = d2 pf + mo := IntWalk.i64_in _ (by unfold FAR at l1; omega)
            have HYE : Hid (d2 pf < FAR → d2 pf + mo < d2 pt → RW E k src (p * m + (q + 1)) (upd d2 pt (d2 pf + mo)) ∧ Rn E src p (q + 1) (upd d2 pt (d2 pf + mo)) ∧ (k ≤ p → ¬Closes E)) := Lib.hid fun h1 h2 => by
              have hm := List.mem_of_getElem? HEQ.out
              refine ⟨HW3.out.lower HEO.out hm h1 h2, HR3.out.stepYes HEQ.out h2, fun h3 h4 => ?_⟩
              have := HR3.out.rest HW3.out HEO.out hsr h3 h4 hm h1
              dsimp only at this
              omega
            have HNO : Hid ((d2 pf < FAR → d2 pt ≤ d2 pf + mo) → RW E k src (p * m + (q + 1)) d2 ∧ Rn E src p (q + 1) d2 ∧ HotP E k p (q + 1) d2 hh) := Lib.hid fun h => by
              refine ⟨HW3.out.more (by omega), HR3.out.stepNo HEO.out (by omega) HEQ.out h, ?_⟩
              rcases HH3.out with ⟨h1, h2⟩ | h1
              · exact .inl ⟨h1, h2.step HEQ.out h⟩
              · exact .inr h1
            clear l1 l2 hpm HH3 HR3 HW3
            generalize hx : d2 pf = x at *
            generalize hy : d2 pt = y at *
            clear hx hy
            by_cases hf : x < FAR
            · have hf2 : decide (x < 1125899906842624) = true := by simpa [FAR] using hf
              by_cases hl : x + mo < y
              · have hl2 : decide (x + mo < y) = true := by simpa using hl
                have HYY := Lib.hid (HYE.out hf hl)
                clear HYE HNO hf hl
                go_wp2_with fail
                go_quiet (fail)
                dsimp only [Exit.then]
                have HNQ := Lib.hid ((New.refl w8).drewN nq)
                have HA9 := Lib.hid (HA8.out.keep HNQ.out)
                have HB9 := Lib.hid (HB8.out.keep HNQ.out)
                have HN9 := Lib.hid (HN8.out.trans HNQ.out)
                have z4 := HNQ.out.cellOf y4
                have za := HNQ.out.cellOf va
                have zt := HNQ.out.cellOf vt
                clear y4 va vt HA8 HB8 HN8 HNQ
                generalize w8.drewN nq = w9 at *
                have ft := HA9.out.free pt
                have hb2 := HB9.out.other hane pt (.int .i64 (x + mo))
                have vb2 := hb2.cell (fnRow_get (f := f2) hp2)
                have fb2 := hb2.free pt
                have HA10 := Lib.hid ((HA9.out.put pt (.int .i64 (x + mo))).other hane2 pt (.int .i64 (q : Int)))
                have HB10 := Lib.hid (hb2.put pt (.int .i64 (q : Int)))
                have HN10 := Lib.hid (((HN9.out.setCell (p := ⟨a, pt, none⟩) (by show w2.heap.size ≤ a; rw [HMA.out]; exact Nat.le_refl _) (.int .i64 (x + mo))).drew).setCell (p := ⟨a + 1, pt, none⟩) (by show w2.heap.size ≤ a + 1; rw [HMA.out]; omega) (.int .i64 (q : Int)))
                clear hb2 HA9 HB9 HN9
                generalize f2 pt = z at *
                go_wp2_with fail
                try simp only [List.append_eq, List.cons_append, List.nil_append]
                refine region_tailq 13 (by kernel_rfl) (by kernel_rfl) ?_
                simp only [List.take_succ_cons, List.take_zero]
                repeat (go_big_quiet_step (fail))
                refine wpQuiet_nil ?_
                simp only [List.drop_succ_cons, List.drop_zero]
                go_wp2_with fail
                clear z4 za zt ft vb2 fb2
                go_roundw
                case rel =>
                  refine ⟨q + 1, pt, upd d2 pt (x + mo), upd f2 pt q, by omega, rfl, by go_num, HN10.out, ?_, ?_, HYY.out.1, HYY.out.2.1, .inr ⟨by omega, HYY.out.2.2⟩⟩
                  · have h := HA10.out
                    rw [fnRow_set hp2] at h
                    exact h
                  · have h := HB10.out
                    rw [fnRow_set hp2] at h
                    exact h
                case measure => simp [intOf]; omega
              · have hl2 : decide (x + mo < y) = false := by simpa using hl
                have HYY := Lib.hid (HNO.out fun _ => by omega)
                clear HYE HNO hf hl
                go_wp2_with fail
                go_quiet (fail)
                dsimp only [Exit.then]
                have HNQ := Lib.hid ((New.refl w8).drewN nq)
                clear y4 va vt
                go_wp2_with fail
                go_roundw
                case rel => exact ⟨q + 1, hh, d2, f2, by omega, rfl, by go_num, HN8.out.trans HNQ.out, HA8.out.keep HNQ.out, HB8.out.keep HNQ.out, HYY.out.1, HYY.out.2.1, HYY.out.2.2⟩
                case measure => simp [intOf]; omega
            · have hf2 : decide (x < 1125899906842624) = false := by simpa [FAR] using hf
              have HYY := Lib.hid (HNO.out fun h => absurd h hf)
              clear HYE HNO hf
              go_wp2_with fail
              go_quiet (fail)
              dsimp only [Exit.then]
              have HNQ := Lib.hid ((New.refl w8).drewN nq)
              clear y4 va vt
              go_wp2_with fail
              go_roundw
              case rel => exact ⟨q + 1, hh, d2, f2, by omega, rfl, by go_num, HN8.out.trans HNQ.out, HA8.out.keep HNQ.out, HB8.out.keep HNQ.out, HYY.out.1, HYY.out.2.1, HYY.out.2.2⟩
              case measure => simp [intOf]; omega
          · obtain rfl : q = m := by omega
            rcases HH3.out with ⟨rfl, hcalm⟩ | ⟨hpos, hno⟩
            · have hall := hcalm.all (by rw [HEL.out]; exact Nat.le_refl _)
              obtain ⟨hc1, hc2⟩ := calm_min HW3.out HEO.out HRE.out hall
              have HC1 := Lib.hid hc1
              have HC2 := Lib.hid hc2
              clear hall hcalm hc1 hc2
              go_wp2_with fail
              refine bodyPost_ret (v := .tuple #[.slice (some ⟨a, 0, none⟩) k k, .slice (some ⟨a + 1, 0, none⟩) k k, .int .i64 (-1)]) (by simp [results, Tryd.results77]) rfl ?_
              exact ⟨a, a + 1, -1, d2, f2, by rw [HNN.out], HN30.out.trans HN3.out, by rw [HNN.out]; exact HA3.out, by rw [HNN.out]; exact HB3.out, .inl ⟨rfl, by rw [HEE.out]; exact HC1.out, by rw [HNN.out, HEE.out]; exact HC2.out⟩⟩
            · have hd0 : decide (hh < 0) = false := by simp; omega
              have HNO := Lib.hid hno
              have x1 := (HX3.out.keep HN3.out).cell (i := 1) rfl
              by_cases hpk : p = k
              · subst hpk
                have HNC := Lib.hid (HNO.out (Nat.le_refl _))
                go_wp2_with fail
                refine bodyPost_ret (v := .tuple #[.slice (some ⟨a, 0, none⟩) p p, .slice (some ⟨a + 1, 0, none⟩) p p, .int .i64 hh]) (by simp [results, Tryd.results77]) rfl ?_
                exact ⟨a, a + 1, hh, d2, f2, by rw [HNN.out], HN30.out.trans HN3.out, by rw [HNN.out]; exact HA3.out, by rw [HNN.out]; exact HB3.out, .inr ⟨hpos, by rw [HEE.out]; exact HNC.out⟩⟩
              · have hpk2 : ((p : Int) == (k : Int)) = false := by simp; omega
                have HW4 : Hid (RW E k src ((p + 1) * q) d2) := Lib.hid (by rw [Nat.succ_mul]; exact HW3.out)
                have HR4 := Lib.hid (HR3.out.next (by rw [HEL.out]; exact Nat.le_refl _))
                go_wp2_with fail
                go_roundw
                case rel => exact ⟨p + 1, d2, f2, by omega, by go_num, HN3.out, HA3.out, HB3.out, HW4.out, HR4.out⟩
                case measure => simp [intOf]; omega
end Go.Proofs.YtodmbcoobjcooaaDoor
