/-
  Places of call signs on days, the days on which they can change, and the span of days around a day with one place: plain facts. No program.
-/
import Derived.Test.YtkbdmdnahphkkaaGreatDoorTabMath
namespace Go.Proofs.YtkbdmdnahphkkaaGreatDoor
open Go.RowKit
/-- The place that a row tells. -/
def plc (r : Rw) : Int × Int × Int := (r.country, r.zone, r.cont)
/-- Where a call sign is on a day. -/
def atV (l : List Rw) (call s : Bytes) (d : Int) : Option (Int × Int × Int) := (rowOfV l call s d).map (fun i => plc (rowN l i))
theorem rowN_mem {l : List Rw} {i : Nat} (h : i < l.length) : rowN l i ∈ l := by
  unfold rowN
  rw [List.getD_eq_getElem?_getD, List.getElem?_eq_getElem h]
  exact List.getElem_mem h
theorem mem_rowN {l : List Rw} {r : Rw} (h : r ∈ l) : ∃ i, i < l.length ∧ rowN l i = r := by
  obtain ⟨i, hi, e⟩ := List.getElem_of_mem h
  exact ⟨i, hi, by unfold rowN; rw [List.getD_eq_getElem?_getD, List.getElem?_eq_getElem hi]; exact e⟩
theorem hit_congr {l : List Rw} {a b : Int} (h : ∀ r ∈ l, forceB a r = forceB b r) (t : Bytes) (wh : Bool) : hitN l t wh a l.length = hitN l t wh b l.length :=
  fst_congr (fun j hj => by rw [h _ (rowN_mem hj)])
theorem sg_congr {l : List Rw} {a b : Int} (h : ∀ r ∈ l, forceB a r = forceB b r) (s : Bytes) : ∀ n, sgN l s a l.length n = sgN l s b l.length n
  | 0 => rfl
  | n + 1 => by rw [sgN, sgN, hit_congr h, sg_congr h s n]
theorem rowOf_congr {l : List Rw} {a b : Int} (h : ∀ r ∈ l, forceB a r = forceB b r) (call s : Bytes) : rowOfV l call s a = rowOfV l call s b := by
  unfold rowOfV
  rw [hit_congr h, sg_congr h]
/-- A day on which a row begins, or is no longer, in force. -/
def isTurn (l : List Rw) (t : Int) : Prop := ∃ r ∈ l, t = r.frm ∨ t = r.til + 1
theorem at_const {l : List Rw} {call s : Bytes} {a b : Int} (hab : a ≤ b) (h : ∀ t, isTurn l t → a < t → t ≤ b → False) : atV l call s a = atV l call s b := by
  unfold atV
  rw [rowOf_congr (a := a) (b := b) ?_ call s]
  intro r hr
  have h1 := h r.frm ⟨r, hr, .inl rfl⟩
  have h2 := h (r.til + 1) ⟨r, hr, .inr rfl⟩
  unfold forceB withinB
  rw [Bool.eq_iff_iff]
  simp only [Bool.and_eq_true, decide_eq_true_eq]
  constructor
  · rintro ⟨p, q⟩
    exact ⟨by omega, by
      by_cases hq : b ≤ r.til
      · exact hq
      · exact (h2 (by omega) (by omega)).elim⟩
  · rintro ⟨p, q⟩
    exact ⟨by
      by_cases hq : r.frm ≤ a
      · exact hq
      · exact (h1 (by omega) p).elim, by omega⟩
theorem hit_off {l : List Rw} {d : Int} (h : ∀ r ∈ l, forceB d r = false) (t : Bytes) (wh : Bool) : hitN l t wh d l.length = none :=
  fst_none (fun j hj => by rw [h _ (rowN_mem hj)]; simp)
theorem sg_off {l : List Rw} {d : Int} (h : ∀ r ∈ l, forceB d r = false) (s : Bytes) : ∀ n, sgN l s d l.length n = none
  | 0 => rfl
  | n + 1 => by rw [sgN, hit_off h, sg_off h s n]
theorem at_off {l : List Rw} {d : Int} (h : ∀ r ∈ l, forceB d r = false) (call s : Bytes) : atV l call s d = none := by
  unfold atV rowOfV
  rw [hit_off h, sg_off h]
  rfl
theorem at_in {l : List Rw} {call s : Bytes} {d : Int} {p : Int × Int × Int} (h : atV l call s d = some p) : ∃ r ∈ l, forceB d r = true ∧ plc r = p := by
  unfold atV at h
  cases h2 : rowOfV l call s d with
  | none => rw [h2] at h; cases h
  | some i =>
    rw [h2] at h
    simp only [Option.map_some, Option.some.injEq] at h
    have hi := rowOfV_in h2
    refine ⟨rowN l i, rowN_mem hi, ?_, h⟩
    unfold rowOfV at h2
    cases h3 : hitN l call true d l.length with
    | some j => rw [h3] at h2; cases h2; exact (hit_in h3).2.2.2
    | none => rw [h3] at h2; exact (sg_in h2).2.2.2.1
/-- The days around a day on which P holds. -/
structure SpanV (P : Int → Prop) (day lo hi : Int) : Prop where
  le1 : lo ≤ day
  le2 : day ≤ hi
  all : ∀ d, lo ≤ d → d ≤ hi → P d
  low : ¬ P (lo - 1)
  high : ¬ P (hi + 1)
theorem span_one {P : Int → Prop} {day lo hi day' lo' hi' : Int} (h : SpanV P day lo hi) (h' : SpanV P day' lo' hi') (h1 : lo ≤ day') (h2 : day' ≤ hi) : lo = lo' ∧ hi = hi' := by
  have a1 := h.le1; have a2 := h.le2; have b1 := h'.le1; have b2 := h'.le2
  constructor
  · by_cases c : lo < lo'
    · exact (h'.low (h.all _ (by omega) (by omega))).elim
    · by_cases c2 : lo' < lo
      · exact (h.low (h'.all _ (by omega) (by omega))).elim
      · omega
  · by_cases c : hi < hi'
    · exact (h.high (h'.all _ (by omega) (by omega))).elim
    · by_cases c2 : hi' < hi
      · exact (h'.high (h.all _ (by omega) (by omega))).elim
      · omega
theorem SpanV.move {P : Int → Prop} {day day' lo hi : Int} (h : SpanV P day lo hi) (h1 : lo ≤ day') (h2 : day' ≤ hi) : SpanV P day' lo hi := ⟨h1, h2, h.all, h.low, h.high⟩
/-- Between a day of which P holds and a later one of which it does not there is a turn; and the other way round. -/
theorem turn_up {P : Int → Prop} : ∀ (n : Nat) (a : Int), ¬ P a → P (a + n) → ∃ x, a ≤ x ∧ x < a + n ∧ ¬ P x ∧ P (x + 1)
  | 0, a, h, h2 => by simp at h2; exact (h h2).elim
  | n + 1, a, h, h2 => by
    by_cases hp : P (a + 1)
    · exact ⟨a, by omega, by omega, h, hp⟩
    · obtain ⟨x, c1, c2, c3, c4⟩ := turn_up n (a + 1) hp (by rw [show a + 1 + (n : Int) = a + ((n + 1 : Nat) : Int) by omega]; exact h2)
      exact ⟨x, by omega, by omega, c3, c4⟩
/-- What the specification's loop knows of the span: ds are the turns that it has come to. -/
structure SpanI (P : Int → Prop) (D : Int → Prop) (day lo hi : Int) : Prop where
  lo0 : lo = 0 ∨ (0 < lo ∧ lo ≤ day ∧ ¬ P (lo - 1))
  hi0 : hi = 99999 ∨ (day ≤ hi ∧ hi < 99999 ∧ ¬ P (hi + 1))
  lo1 : ∀ d, D d → 0 < d → d ≤ day → ¬ P (d - 1) → d ≤ lo
  hi1 : ∀ d, D d → day < d → d ≤ 99999 → ¬ P d → hi ≤ d - 1
theorem SpanI.start (P : Int → Prop) (day : Int) : SpanI P (fun _ => False) day 0 99999 := ⟨.inl rfl, .inl rfl, fun _ h => h.elim, fun _ h => h.elim⟩
theorem SpanI.span {P : Int → Prop} {D : Int → Prop} {day lo hi : Int} (h : SpanI P D day lo hi) (hD : ∀ a b, a ≤ b → (P a ↔ ¬ P b) → ∃ d, D d ∧ a < d ∧ d ≤ b) (hp : P day) (h0 : 0 ≤ day) (h9 : day ≤ 99999) (hl : ¬ P (-1)) (hh : ¬ P 100000) : SpanV P day lo hi := by
  have e1 : lo ≤ day := by rcases h.lo0 with e | e <;> omega
  have e0 : 0 ≤ lo := by rcases h.lo0 with e | e <;> omega
  have e2 : day ≤ hi := by rcases h.hi0 with e | e <;> omega
  have e9 : hi ≤ 99999 := by rcases h.hi0 with e | e <;> omega
  refine ⟨e1, e2, ?_, ?_, ?_⟩
  · intro d h1 h2
    by_cases hc : P d
    · exact hc
    exfalso
    by_cases hle : d ≤ day
    · obtain ⟨x, c1, c2, c3, c4⟩ := turn_up (P := P) (day - d).toNat d hc (by rw [show d + ((day - d).toNat : Int) = day by omega]; exact hp)
      obtain ⟨t, t1, t2, t3⟩ := hD x (x + 1) (by omega) ⟨fun q => (c3 q).elim, fun q => (q c4).elim⟩
      have ht : t = x + 1 := by omega
      subst ht
      have := h.lo1 (x + 1) t1 (by omega) (by omega) (by rw [show x + 1 - 1 = x by omega]; exact c3)
      omega
    · obtain ⟨x, c1, c2, c3, c4⟩ := turn_up (P := fun z => ¬ P z) (d - day).toNat day (fun q => q hp) (by rw [show day + ((d - day).toNat : Int) = d by omega]; exact hc)
      have c3' : P x := Classical.not_not.1 c3
      obtain ⟨t, t1, t2, t3⟩ := hD x (x + 1) (by omega) ⟨fun _ => c4, fun _ => c3'⟩
      have ht : t = x + 1 := by omega
      subst ht
      have := h.hi1 (x + 1) t1 (by omega) (by omega) c4
      omega
  · rcases h.lo0 with e | e
    · rw [e]; exact hl
    · exact e.2.2
  · rcases h.hi0 with e | e
    · rw [e]; exact hh
    · exact e.2.2
theorem at_turn {l : List Rw} {call s : Bytes} {p : Int × Int × Int} (a b : Int) (hab : a ≤ b) (h : atV l call s a = some p ↔ ¬ atV l call s b = some p) : ∃ d, isTurn l d ∧ a < d ∧ d ≤ b := by
  by_cases hx : ∃ d, isTurn l d ∧ a < d ∧ d ≤ b
  · exact hx
  · exfalso
    rw [at_const (l := l) (call := call) (s := s) hab (fun t h1 h2 h3 => hx ⟨t, h1, h2, h3⟩)] at h
    by_cases hq : atV l call s b = some p
    · exact h.1 hq hq
    · exact hq (h.2 hq)
/-- The turns in a list: rising, and all of them. -/
structure TurnsV (l : List Rw) (ts : List Int) : Prop where
  rise : ∀ i j, i < j → j < ts.length → ts.getD i 0 < ts.getD j 0
  all : ∀ t, isTurn l t ↔ ∃ i, i < ts.length ∧ ts.getD i 0 = t
theorem TurnsV.gap {l : List Rw} {ts : List Int} (h : TurnsV l ts) {i : Nat} {t : Int} (hi : i < ts.length) (ht : isTurn l t) (h1 : ts.getD i 0 < t) : i + 1 < ts.length ∧ ts.getD (i + 1) 0 ≤ t := by
  obtain ⟨k, hk, rfl⟩ := (h.all t).1 ht
  have hik : i < k := by
    by_cases c : i < k
    · exact c
    · by_cases c2 : k = i
      · subst c2; omega
      · have := h.rise k i (by omega) hi; omega
  refine ⟨by omega, ?_⟩
  by_cases c : i + 1 = k
  · rw [c]; omega
  · have := h.rise (i + 1) k (by omega) hk; omega
theorem TurnsV.first {l : List Rw} {ts : List Int} (h : TurnsV l ts) {t : Int} (ht : isTurn l t) : ts.getD 0 0 ≤ t := by
  obtain ⟨k, hk, rfl⟩ := (h.all t).1 ht
  by_cases c : k = 0
  · rw [c]; omega
  · have := h.rise 0 k (by omega) hk; omega
theorem TurnsV.last {l : List Rw} {ts : List Int} (h : TurnsV l ts) {t : Int} (ht : isTurn l t) : t ≤ ts.getD (ts.length - 1) 0 := by
  obtain ⟨k, hk, rfl⟩ := (h.all t).1 ht
  by_cases c : k = ts.length - 1
  · rw [c]; omega
  · have := h.rise k (ts.length - 1) (by omega) (by omega); omega
/-- The place is the same from a turn to the day before the next one. -/
theorem TurnsV.at {l : List Rw} {ts : List Int} (h : TurnsV l ts) (call s : Bytes) {i : Nat} {d : Int} (hi : i < ts.length) (h1 : ts.getD i 0 ≤ d) (h2 : i + 1 < ts.length → d < ts.getD (i + 1) 0) : atV l call s (ts.getD i 0) = atV l call s d := by
  refine at_const h1 (fun t ht a b => ?_)
  obtain ⟨c1, c2⟩ := h.gap hi ht a
  have := h2 c1
  omega
theorem TurnsV.ahead {l : List Rw} {ts : List Int} (h : TurnsV l ts) (call s : Bytes) {d : Int} (hd : d < ts.getD 0 0) : atV l call s d = none := by
  refine at_off (fun r hr => ?_) call s
  have := h.first ⟨r, hr, .inl rfl⟩
  unfold forceB withinB
  rw [decide_eq_false (by omega)]
  rfl
theorem TurnsV.behind {l : List Rw} {ts : List Int} (h : TurnsV l ts) (call s : Bytes) {d : Int} (hd : ts.getD (ts.length - 1) 0 ≤ d) : atV l call s d = none := by
  refine at_off (fun r hr => ?_) call s
  have := h.last ⟨r, hr, .inr rfl⟩
  unfold forceB withinB
  rw [decide_eq_false (p := d ≤ r.til) (by omega)]
  simp

theorem clash_force {l : List Rw} {d : Int} {i k : Nat} (h : clashV l = none) (hi : i < l.length) (hk : k < l.length) (hfi : forceB d (rowN l i) = true) (hfk : forceB d (rowN l k) = true)
    (ht : (rowN l i).text = (rowN l k).text) (hw : (rowN l i).whole = (rowN l k).whole) : i = k := by
  have key : ∀ a b : Nat, a < b → b < l.length → forceB d (rowN l a) = true → forceB d (rowN l b) = true → (rowN l a).text = (rowN l b).text → (rowN l a).whole = (rowN l b).whole → False := by
    intro a b hab hb h1 h2 h3 h4
    have := clashV_none_iff.1 h a b hab hb
    unfold forceB withinB at h1 h2
    simp only [Bool.and_eq_true, decide_eq_true_eq] at h1 h2
    unfold clashB keyB at this
    rw [decide_eq_true h3.symm, h4, decide_eq_true (p := (rowN l b).frm ≤ (rowN l a).til) (by omega), decide_eq_true (p := (rowN l a).frm ≤ (rowN l b).til) (by omega)] at this
    simp at this
  rcases Nat.lt_trichotomy i k with c | c | c
  · exact (key i k c hk hfi hfk ht hw).elim
  · exact c
  · exact (key k i c hi hfk hfi ht.symm hw.symm).elim
/-- The row of a key that is in force is the same one in every table that has it, whatever else it has. -/
theorem hit_same {l m : List Rw} {t : Bytes} {wh : Bool} {d : Int} (hl : clashV l = none) (hm : clashV m = none) (h : ∀ r, keyB t wh r = true → forceB d r = true → (r ∈ l ↔ r ∈ m)) :
    (hitN l t wh d l.length).map (rowN l) = (hitN m t wh d m.length).map (rowN m) := by
  have one : ∀ {a b : List Rw}, clashV b = none → (∀ r, keyB t wh r = true → forceB d r = true → (r ∈ a → r ∈ b)) → ∀ {i}, hitN a t wh d a.length = some i → ∃ j, hitN b t wh d b.length = some j ∧ rowN b j = rowN a i := by
    intro a b hb hab i hi
    obtain ⟨h1, h2, h3, h4⟩ := hit_in hi
    have hk : keyB t wh (rowN a i) = true := by unfold keyB; simp [h2, h3]
    obtain ⟨j, hj, e⟩ := mem_rowN (hab _ hk h4 (rowN_mem h1))
    cases hq : hitN b t wh d b.length with
    | none =>
      have := fst_none_iff.1 hq j hj
      rw [e, hk, h4] at this
      cases this
    | some k =>
      obtain ⟨k1, k2, k3, k4⟩ := hit_in hq
      have : k = j := clash_force hb k1 hj k4 (by rw [e]; exact h4) (by rw [k2, e, h2]) (by rw [k3, e, h3])
      exact ⟨k, rfl, by rw [this, e]⟩
  cases hi : hitN l t wh d l.length with
  | some i =>
    obtain ⟨j, hj, e⟩ := one hm (fun r a b => (h r a b).1) hi
    rw [hj]
    simp [e]
  | none =>
    cases hj : hitN m t wh d m.length with
    | none => rfl
    | some j =>
      obtain ⟨i, hi2, _⟩ := one hl (fun r a b => (h r a b).2) hj
      rw [hi] at hi2
      cases hi2
theorem sg_same {l m : List Rw} {s : Bytes} {d : Int} (hl : clashV l = none) (hm : clashV m = none) : ∀ n, (∀ r, r.text.length ≤ n → r.whole = false → begB s r.text = true → forceB d r = true → (r ∈ l ↔ r ∈ m)) → 
    n ≤ s.length → (sgN l s d l.length n).map (rowN l) = (sgN m s d m.length n).map (rowN m)
  | 0, _, _ => rfl
  | n + 1, h, hn => by
    have h1 := hit_same (t := s.take (n + 1)) (wh := false) (d := d) hl hm (fun r a b => by
      unfold keyB at a
      simp at a
      refine h r (by rw [a.1]; exact List.length_take_le _ _) a.2 ?_ b
      unfold begB
      rw [a.1, List.length_take, Nat.min_eq_left hn]
      simp [hn])
    have ih := sg_same (n := n) hl hm (fun r a => h r (by omega)) (by omega)
    rw [sgN, sgN]
    cases a : hitN l (s.take (n + 1)) false d l.length <;> cases b : hitN m (s.take (n + 1)) false d m.length <;> rw [a, b] at h1 <;> simp at h1
    · exact ih
    · simp [h1]
theorem at_same {l m : List Rw} {call s : Bytes} {d : Int} (hl : clashV l = none) (hm : clashV m = none)
    (h : ∀ r, forceB d r = true → ((r.whole = true ∧ r.text = call) ∨ (r.whole = false ∧ begB s r.text = true)) → (r ∈ l ↔ r ∈ m)) : (rowOfV l call s d).map (rowN l) = (rowOfV m call s d).map (rowN m) := by
  have h1 := hit_same (t := call) (wh := true) (d := d) hl hm (fun r a b => by
    unfold keyB at a
    simp at a
    exact h r b (.inl ⟨a.2, a.1⟩))
  have h2 := sg_same (s := s) (d := d) hl hm s.length (fun r _ a b c => h r c (.inr ⟨a, b⟩)) (Nat.le_refl _)
  unfold rowOfV
  cases a : hitN l call true d l.length <;> cases b : hitN m call true d m.length <;> rw [a, b] at h1 <;> simp at h1
  · exact h2
  · simp [h1]
theorem at_row {l : List Rw} {call s : Bytes} {d : Int} : atV l call s d = ((rowOfV l call s d).map (rowN l)).map plc := by
  unfold atV
  rw [Option.map_map]
  rfl
/-- No two rows of a part of a table contradict each other if no two of the table do: the places in the table differ where the places in the part do. -/
theorem clash_part {l m : List Rw} (f : Nat → Nat) (hf : ∀ i, i < m.length → f i < l.length ∧ rowN m i = rowN l (f i)) (hinj : ∀ i k, i < k → k < m.length → f i ≠ f k) (h : clashV l = none) : clashV m = none := by
  refine clashV_none_iff.2 (fun i k hik hk => ?_)
  obtain ⟨a1, a2⟩ := hf i (by omega)
  obtain ⟨b1, b2⟩ := hf k hk
  have hne := hinj i k hik hk
  rw [a2, b2]
  rcases Nat.lt_or_gt_of_ne hne with c | c
  · exact clashV_none_iff.1 h _ _ c b1
  · have := clashV_none_iff.1 h _ _ c a1
    unfold clashB keyB at this ⊢
    rw [← this]
    have e1 : decide ((rowN l (f i)).text = (rowN l (f k)).text) = decide ((rowN l (f k)).text = (rowN l (f i)).text) := decide_eq_decide.2 ⟨Eq.symm, Eq.symm⟩
    rw [e1, Bool.beq_comm, Bool.and_comm (decide ((rowN l (f k)).frm ≤ _))]

end Go.Proofs.YtkbdmdnahphkkaaGreatDoor
