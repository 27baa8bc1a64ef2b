/-
  The two closures of Since, and sort.Search with the second one. Conditions: what they capture lies in memory; at most 400 rows.
-/
import Derived.Test.YtkbdmdnahphkkaaGreatDoorTabTurn
namespace Go.Proofs.YtkbdmdnahphkkaaGreatDoor
open Go.RowKit
/-- A place in a block of its own. -/
def PlIn (w : World) (g : Nat) (p : Int × Int × Int) : Prop := w.heap[g]? = some (.cells #[.int .i64 p.1, .int .i64 p.2.1, .int .i64 p.2.2] 30 (0, 0))
theorem PlIn.keep {w w' : World} {g : Nat} {p : Int × Int × Int} (h : PlIn w g p) (k : New w w') : PlIn w' g p := heap_keep k h
def OneIn (w : World) (g : Nat) (v : Value) (t : TypeId) : Prop := w.heap[g]? = some (.cells #[v] t (0, 0))
theorem OneIn.keep {w w' : World} {g : Nat} {v : Value} {t : TypeId} (h : OneIn w g v t) (k : New w w') : OneIn w' g v t := heap_keep k h
theorem OneIn.cell {w : World} {g : Nat} {v : Value} {t : TypeId} (h : OneIn w g v t) : w.cell? ⟨g, 0, none⟩ = some v := by rw [cell_of_row _ _ 0 _ _ _ h]; rfl
theorem cmp3 (a b : Int × Int × Int) : a = b ∨ (¬ a = b ∧ ((a.1 == b.1) = false ∨ (a.2.1 == b.2.1) = false ∨ (a.2.2 == b.2.2) = false)) := by
  obtain ⟨a1, a2, a3⟩ := a
  obtain ⟨b1, b2, b3⟩ := b
  by_cases h1 : a1 = b1
  · by_cases h2 : a2 = b2
    · by_cases h3 : a3 = b3
      · exact .inl (by rw [h1, h2, h3])
      · exact .inr ⟨(fun h => h3 (by cases h; rfl)), .inr (.inr (by simpa using h3))⟩
    · exact .inr ⟨(fun h => h2 (by cases h; rfl)), .inr (.inl (by simpa using h2))⟩
  · exact .inr ⟨(fun h => h1 (by cases h; rfl)), .inl (by simpa using h1)⟩
set_option maxHeartbeats 2000000 in
theorem air_same (A : Option Addr) (n c base b gs gp : Nat) (l : List Rw) (call stem : Bytes) (d : Int) (p : Int × Int × Int) (w : World) (hl : RowsAt w A n l) (hm : MapAt w base b l n) (hn : n ≤ 400) (hc : call.length ≤ maxLen) (hs : stem.length ≤ maxLen)
    (hst : StIn w gs A n c b call stem) (hp : PlIn w gp p) :
    Calls Tryz.prog 40 #[.int .i64 d, .pointer (some ⟨gs, 0, none⟩), .pointer (some ⟨gp, 0, none⟩)] w fun e w' => e = .returned (.bool (decide (atV l call stem d = some p))) ∧ New w w' := by
  have HL := Lib.hid hl
  have HM := Lib.hid hm
  have HP := Lib.hid hp
  obtain ⟨s0, s1, s2, s3⟩ := hst.all
  clear hl hm hp hst
  go_enter Tryz.func40, Tryz.ntmps40
  go_wp2_with fail
  refine (air_place A n c base b l call stem d w HL.out HM.out hn hc hs).mono ?_
  rintro e w1 ⟨rfl, h1⟩
  clear s0 s1 s2 s3
  cases hr : atV l call stem d with
  | none =>
    have HR : Hid (decide (atV l call stem d = some p) = false) := Lib.hid (by rw [hr]; simp)
    clear hr
    rw [pl3_none]
    go_wp2_with fail
    go_ret
    exact ⟨by rw [← HR.out]; rfl, h1.alloc _⟩
  | some x =>
    obtain ⟨q0, q1, q2, -, -, -⟩ := three_all (pl_new w1 x.1 x.2.1 x.2.2)
    obtain ⟨p0, p1, p2, -, -, -⟩ := three_all (HP.out.keep (h1.alloc (.cells #[.int .i64 x.1, .int .i64 x.2.1, .int .i64 x.2.2] 30)))
    rw [pl3_some]
    rcases cmp3 x p with rfl | ⟨hne, he⟩
    · have HR : Hid (decide (atV l call stem d = some x) = true) := Lib.hid (by rw [hr]; simp)
      clear hr
      go_wp2_with fail
      go_ret
      exact ⟨by rw [← HR.out]; rfl, h1.alloc _⟩
    · have HR : Hid (decide (atV l call stem d = some p) = false) := Lib.hid (by rw [hr]; simpa using hne)
      clear hr hne
      rcases he with he | he | he
      all_goals
        go_wp2_with fail
        go_ret
        exact ⟨by rw [← HR.out]; rfl, h1.alloc _⟩
theorem air_over (i : Nat) (day : Int) (g m cap gt gd : Nat) (ts : List Int) (w : World) (hi : i < ts.length) (ht : TurnsAt w g ts) (hm : ts.length = m) (h1 : OneIn w gt (.slice (some ⟨g, 0, none⟩) m cap) 51) (h2 : OneIn w gd (.int .i64 day) 3) :
    Calls Tryz.prog 43 #[.int .i64 i, .pointer (some ⟨gt, 0, none⟩), .pointer (some ⟨gd, 0, none⟩)] w fun e w' => e = .returned (.bool (decide (day < ts.getD i 0))) ∧ New w w' := by
  have c1 := h1.cell
  have c2 := h2.cell
  have c3 := ht i hi
  have hq1 : (0 : Int) ≤ (i : Int) := by omega
  have hq2 : (i : Int) < (m : Int) := by omega
  clear h1 h2 ht
  generalize ts.getD i 0 = z at *
  go_enter Tryz.func43, Tryz.ntmps43
  go_wp2_with fail
  go_quiet (fail)
  go_wp2_with fail
  go_ret
  exact ⟨rfl, (New.refl w).drewN _⟩

end Go.Proofs.YtkbdmdnahphkkaaGreatDoor
