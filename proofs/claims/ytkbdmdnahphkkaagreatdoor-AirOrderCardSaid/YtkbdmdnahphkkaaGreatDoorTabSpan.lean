/-
  The span of days around a day on which a place stays the same, by the turns of a table: what the loops of Since know. Plain facts, no program.
-/
import Derived.Test.YtkbdmdnahphkkaaGreatDoorTabTurns
namespace Go.Proofs.YtkbdmdnahphkkaaGreatDoor
open Go.RowKit
/-- A row in force on a day begins at a turn and ends ahead of one. -/
theorem turns_around {l : List Rw} {ts : List Int} (h : TurnsV l ts) {call s : Bytes} {d : Int} {p : Int × Int × Int} (hp : atV l call s d = some p) {r : Nat} (h0 : ∀ k, k < r → ¬ d < ts.getD k 0) (h1 : ∀ k, r ≤ k → k < ts.length → d < ts.getD k 0) : 0 < r ∧ r < ts.length := by
  obtain ⟨x, hx, hf, _⟩ := at_in hp
  unfold forceB withinB at hf
  simp only [Bool.and_eq_true, decide_eq_true_eq] at hf
  obtain ⟨i, hi, ei⟩ := (h.all x.frm).1 ⟨x, hx, .inl rfl⟩
  obtain ⟨j, hj, ej⟩ := (h.all (x.til + 1)).1 ⟨x, hx, .inr rfl⟩
  constructor
  · by_cases c : 0 < r
    · exact c
    · have := h1 i (by omega) hi; omega
  · by_cases c : r < ts.length
    · exact c
    · have := h0 j (by omega); omega
/-- P holds from turn f to the day. -/
def downV (P : Int → Prop) (ts : List Int) (d : Int) (f : Nat) : Prop := ∀ x, ts.getD f 0 ≤ x → x ≤ d → P x
/-- P holds from the day to the one ahead of turn q. -/
def upV (P : Int → Prop) (ts : List Int) (d : Int) (q : Nat) : Prop := ∀ x, d ≤ x → x < ts.getD q 0 → P x
theorem down_start {l : List Rw} {ts : List Int} (h : TurnsV l ts) {call s : Bytes} {d : Int} {p : Int × Int × Int} (hp : atV l call s d = some p) {r : Nat} (hr : r < ts.length) (hr0 : 0 < r) (h1 : d < ts.getD r 0) (h0 : ¬ d < ts.getD (r - 1) 0) : downV (fun x => atV l call s x = some p) ts d (r - 1) := by
  intro x hx1 hx2
  have e : r - 1 + 1 = r := by omega
  have a1 := h.at call s (i := r - 1) (d := x) (by omega) hx1 (fun _ => by rw [e]; omega)
  have a2 := h.at call s (i := r - 1) (d := d) (by omega) (by omega) (fun _ => by rw [e]; omega)
  show atV l call s x = some p
  rw [← a1, a2, hp]
theorem up_start {l : List Rw} {ts : List Int} (h : TurnsV l ts) {call s : Bytes} {d : Int} {p : Int × Int × Int} (hp : atV l call s d = some p) {r : Nat} (hr : r < ts.length) (hr0 : 0 < r) (h0 : ¬ d < ts.getD (r - 1) 0) : upV (fun x => atV l call s x = some p) ts d r := by
  intro x hx1 hx2
  have e : r - 1 + 1 = r := by omega
  have a1 := h.at call s (i := r - 1) (d := x) (by omega) (by omega) (fun _ => by rw [e]; omega)
  have a2 := h.at call s (i := r - 1) (d := d) (by omega) (by omega) (fun _ => by rw [e]; omega)
  show atV l call s x = some p
  rw [← a1, a2, hp]
theorem down_step {l : List Rw} {ts : List Int} (h : TurnsV l ts) {call s : Bytes} {d : Int} {p : Int × Int × Int} {f : Nat} (hf : f < ts.length) (h0 : 0 < f) (hd : downV (fun x => atV l call s x = some p) ts d f) (hp : atV l call s (ts.getD (f - 1) 0) = some p) : downV (fun x => atV l call s x = some p) ts d (f - 1) := by
  intro x hx1 hx2
  have e : f - 1 + 1 = f := by omega
  by_cases hx : ts.getD f 0 ≤ x
  · exact hd x hx hx2
  · show atV l call s x = some p
    rw [← h.at call s (i := f - 1) (d := x) (by omega) hx1 (fun _ => by rw [e]; omega)]
    exact hp
theorem up_step {l : List Rw} {ts : List Int} (h : TurnsV l ts) {call s : Bytes} {d : Int} {p : Int × Int × Int} {q : Nat} (hq : q < ts.length) (hd : upV (fun x => atV l call s x = some p) ts d q) (hp : atV l call s (ts.getD q 0) = some p) : q + 1 < ts.length ∧ upV (fun x => atV l call s x = some p) ts d (q + 1) := by
  have hlt : q + 1 < ts.length := by
    by_cases c : q + 1 < ts.length
    · exact c
    · have e : q = ts.length - 1 := by omega
      rw [e, h.behind call s (Int.le_refl _)] at hp
      cases hp
  refine ⟨hlt, fun x hx1 hx2 => ?_⟩
  by_cases hx : x < ts.getD q 0
  · exact hd x hx1 hx
  · show atV l call s x = some p
    rw [← h.at call s (i := q) (d := x) hq (by omega) (fun _ => hx2)]
    exact hp
theorem down_end {l : List Rw} {ts : List Int} (h : TurnsV l ts) {call s : Bytes} {p : Int × Int × Int} {f : Nat} (hf : f < ts.length) (he : f = 0 ∨ (0 < f ∧ ¬ atV l call s (ts.getD (f - 1) 0) = some p)) : ¬ atV l call s (ts.getD f 0 - 1) = some p := by
  rcases he with rfl | ⟨h0, hn⟩
  · rw [h.ahead call s (by omega)]; simp
  · have e : f - 1 + 1 = f := by omega
    have hr := h.rise (f - 1) f (by omega) hf
    rw [← h.at call s (i := f - 1) (d := ts.getD f 0 - 1) (by omega) (by omega) (fun _ => by rw [e]; omega)]
    exact hn
theorem span_of {P : Int → Prop} {ts : List Int} {d : Int} {f q : Nat} (h1 : ts.getD f 0 ≤ d) (h2 : d < ts.getD q 0) (hd : downV P ts d f) (hu : upV P ts d q) (hl : ¬ P (ts.getD f 0 - 1)) (hh : ¬ P (ts.getD q 0)) : SpanV P d (ts.getD f 0) (ts.getD q 0 - 1) := by
  refine ⟨h1, by omega, fun x a b => ?_, hl, by rw [show ts.getD q 0 - 1 + 1 = ts.getD q 0 by omega]; exact hh⟩
  by_cases c : x ≤ d
  · exact hd x a c
  · exact hu x (by omega) (by omega)
theorem turn_range {l : List Rw} {ts : List Int} (h : TurnsV l ts) (hr : ∀ r ∈ l, 0 ≤ r.frm ∧ r.til ≤ 99999 ∧ r.frm ≤ r.til) {i : Nat} (hi : i < ts.length) : 0 ≤ ts.getD i 0 ∧ ts.getD i 0 ≤ 100000 := by
  obtain ⟨r, hm, h1⟩ := (h.all (ts.getD i 0)).2 ⟨i, hi, rfl⟩
  have := hr r hm
  rcases h1 with h1 | h1 <;> omega

end Go.Proofs.YtkbdmdnahphkkaaGreatDoor
