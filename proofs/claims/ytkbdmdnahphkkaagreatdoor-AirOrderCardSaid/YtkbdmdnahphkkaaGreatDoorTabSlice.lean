/-
  Slices of rows in memory, and validRows of the program, for every slice of rows. Condition: the texts are in memory.
-/
import Derived.Test.YtkbdmdnahphkkaaGreatDoorTabRows
namespace Go.Proofs.YtkbdmdnahphkkaaGreatDoor
open Go.RowKit
/-- A slice of rows in memory that reads as l. -/
def RowsAt (w : World) (A : Option Addr) (n : Nat) (l : List Rw) : Prop :=
  l.length = n ∧ (0 < n → ∃ b off, A = some ⟨b, off, none⟩ ∧ b < w.heap.size ∧ ∀ i (h : i < l.length), RowAt w b (off + i * 7) l[i])
theorem RowsAt.keep {w w' : World} {A : Option Addr} {n : Nat} {l : List Rw} (h : RowsAt w A n l) (k : New w w') : RowsAt w' A n l :=
  ⟨h.1, fun hn => by
    obtain ⟨b, off, e, hb, hc⟩ := h.2 hn
    exact ⟨b, off, e, Nat.lt_of_lt_of_le hb k.size, fun i hi => (hc i hi).keep k⟩⟩
theorem RowsAt.row {w w' : World} {A : Option Addr} {n k : Nat} {l : List Rw} (h : RowsAt w A n l) (hn : New w w') (hk : k < n) :
    ∃ (b off : Nat) (r : Rw), A = some ⟨b, off, none⟩ ∧ l[k]? = some r ∧ l.drop k = r :: l.drop (k + 1) ∧ RowAt w' b (off + k * 7) r := by
  obtain ⟨b, off, e, hb, hc⟩ := h.2 (by omega)
  have hl : k < l.length := by have := h.1; omega
  exact ⟨b, off, l[k], e, List.getElem?_eq_getElem hl, List.drop_eq_getElem_cons hl, (hc k hl).keep hn⟩
/-- All texts are in memory. -/
def TextsIn (l : List Rw) : Prop := ∀ r ∈ l, r.text.length ≤ 9223372036854775807
theorem air_badRow (r : Rw) (w : World) (hs : r.text.length ≤ 9223372036854775807) :
    Calls Tryz.prog 60 #[rowV r] w fun e w' => e = .returned (.bool (!rowB r)) ∧ New w w' := by
  have HR := Lib.hid (RowIn.new w r)
  have HN := Lib.hid ((New.refl w).alloc (.cells #[.string (B r.text), .int .i64 r.country, .int .i64 r.zone, .int .i64 r.cont, .int .i64 r.frm, .int .i64 r.til, .bool r.whole] 49))
  unfold rowV
  go_enter Tryz.func60, Tryz.ntmps60
  go_wp2_with fail
  refine (air_validRow r _ hs).mono ?_
  rintro e w1 ⟨rfl, h1⟩
  go_wp2_with fail
  go_ret
  exact ⟨rfl, HN.out.trans h1⟩
/-- The first row that is not valid, from number k on; -1: there is none. -/
def badAt : Nat → List Rw → Int
  | _, [] => -1
  | k, r :: l => if rowB r = false then k else badAt (k + 1) l
theorem badAt_all : ∀ (l : List Rw) (k : Nat), (0 ≤ badAt k l ↔ l.all rowB = false)
  | [], k => by simp [badAt]
  | r :: l, k => by
    have ih := badAt_all l (k + 1)
    rw [badAt, List.all_cons]
    cases h : rowB r
    · simp
    · simp [ih]
set_option maxHeartbeats 800000 in
theorem lib_IndexFunc (A : Option Addr) (n c : Nat) (l : List Rw) (w : World) (hl : RowsAt w A n l) (hn : n ≤ 9223372036854775807) (ht : TextsIn l) :
    Calls Tryz.prog 87 #[.slice A n c, .func (.func 60) #[] #[]] w fun e w' => e = .returned (.int .i64 (badAt 0 l)) ∧ New w w' := by
  have HL := Lib.hid hl
  have HT := Lib.hid ht
  clear hl ht
  go_enter Tryz.func87, Tryz.ntmps87
  go_wp2_with fail
  go_loopw [8] (fun x wr => ∃ k : Nat, k ≤ n ∧ x = .int .i64 k ∧ badAt 0 l = badAt k (l.drop k) ∧ New w wr) (fun x _ => n - (intOf x).toNat)
  case atStart => exact ⟨0, by omega, rfl, rfl, New.refl w⟩
  case round =>
    obtain ⟨k, hk, rfl, hb, hnew⟩ := hrel
    have HB := Lib.hid hb
    clear hb
    by_cases hlt : k < n
    · obtain ⟨b, off, r, rfl, hr, hd, hrow⟩ := HL.out.row hnew hlt
      obtain ⟨c0, c1, c2, c3, c4, c5, c6⟩ := hrow
      have htx := HT.out r (List.mem_of_getElem? hr)
      have HD := Lib.hid hd
      clear hr hd
      go_wp2_with fail
      refine (air_badRow r _ htx).mono ?_
      rintro e w1 ⟨rfl, h1⟩
      cases hv : rowB r with
      | true =>
        have HB2 : Hid (badAt 0 l = badAt (k + 1) (l.drop (k + 1))) := by
          have h := HB.out
          rw [HD.out, badAt, hv] at h
          exact Lib.hid h
        clear hv c0 c1 c2 c3 c4 c5 c6
        go_wp2_with fail
        exact ⟨⟨k + 1, by omega, rfl, HB2.out, hnew.trans h1⟩, by simp [intOf]; omega⟩
      | false =>
        have HB2 : Hid (badAt 0 l = (k : Int)) := by
          have h := HB.out
          rw [HD.out, badAt, hv] at h
          exact Lib.hid h
        clear hv c0 c1 c2 c3 c4 c5 c6
        go_wp2_with fail
        go_ret
        exact ⟨by rw [HB2.out]; rfl, hnew.trans h1⟩
    · have HB2 : Hid (badAt 0 l = -1) := by
        have h := HB.out
        rw [List.drop_eq_nil_of_le (by have := HL.out.1; omega)] at h
        exact Lib.hid h
      go_wp2_with fail
      go_ret
      exact ⟨by rw [HB2.out]; rfl, hnew⟩
theorem lib_ContainsFunc (A : Option Addr) (n c : Nat) (l : List Rw) (w : World) (hl : RowsAt w A n l) (hn : n ≤ 9223372036854775807) (ht : TextsIn l) :
    Calls Tryz.prog 59 #[.slice A n c, .func (.func 60) #[] #[]] w fun e w' => e = .returned (.bool (!l.all rowB)) ∧ New w w' := by
  have HA := Lib.hid (badAt_all l 0)
  have HL := Lib.hid hl
  have HT := Lib.hid ht
  clear hl ht
  go_enter Tryz.func59, Tryz.ntmps59
  go_wp2_with fail
  refine (lib_IndexFunc A n c l w HL.out hn HT.out).mono ?_
  rintro e w1 ⟨rfl, h1⟩
  cases hv : l.all rowB with
  | false =>
    have h0 := HA.out.2 hv
    have HV := Lib.hid hv
    clear hv
    generalize badAt 0 l = x at *
    go_wp2_with fail
    go_ret
    exact ⟨by rw [HV.out]; rfl, h1⟩
  | true =>
    have h0 : badAt 0 l < 0 := by
      by_cases h : 0 ≤ badAt 0 l
      · have := HA.out.1 h; rw [hv] at this; cases this
      · omega
    have h9 : decide (0 ≤ badAt 0 l) = false := decide_eq_false (by omega)
    have HV := Lib.hid hv
    clear hv h0
    generalize badAt 0 l = x at *
    go_wp2_with fail
    go_ret
    exact ⟨by rw [HV.out]; rfl, h1⟩
/-- Not too many rows, and all of them valid. -/
def rowsB (l : List Rw) : Bool := decide (l.length ≤ 400) && l.all rowB
theorem air_validRows (A : Option Addr) (n c : Nat) (l : List Rw) (w : World) (hl : RowsAt w A n l) (hn : n ≤ 9223372036854775807) (ht : TextsIn l) :
    Calls Tryz.prog 29 #[.slice A n c] w fun e w' => e = .returned (.bool (rowsB l)) ∧ New w w' := by
  have hlen := hl.1
  have HL := Lib.hid hl
  have HT := Lib.hid ht
  clear hl ht
  by_cases h4 : n ≤ 400
  · have HE : Hid (rowsB l = l.all rowB) := by
      have h : rowsB l = l.all rowB := by unfold rowsB; rw [hlen, decide_eq_true h4, Bool.true_and]
      exact Lib.hid h
    go_enter Tryz.func29, Tryz.ntmps29
    go_wp2_with fail
    refine (lib_ContainsFunc A n c l w HL.out hn HT.out).mono ?_
    rintro e w1 ⟨rfl, h1⟩
    generalize l.all rowB = v at *
    cases v
    all_goals
      go_wp2_with fail
      go_ret
      exact ⟨by rw [HE.out]; rfl, h1⟩
  · have HE : Hid (rowsB l = false) := by
      have h : rowsB l = false := by unfold rowsB; rw [hlen, decide_eq_false h4]; rfl
      exact Lib.hid h
    go_enter Tryz.func29, Tryz.ntmps29
    go_wp2_with fail
    go_ret
    exact ⟨by rw [HE.out]; rfl, New.refl w⟩

end Go.Proofs.YtkbdmdnahphkkaaGreatDoor
