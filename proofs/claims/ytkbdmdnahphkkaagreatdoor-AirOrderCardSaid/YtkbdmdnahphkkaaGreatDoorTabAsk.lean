/-
  lookUp, RowOf, PlaceOf of the program. Conditions: the texts are in memory; the library's variable MaxLen is there.
-/
import Derived.Test.YtkbdmdnahphkkaaGreatDoorTabLook
import Derived.Test.YtkbdmdnahphkkaaGreatDoorCalls
import Derived.Test.YtkbdmdnahphkkaaGreatDoorDays
namespace Go.Proofs.YtkbdmdnahphkkaaGreatDoor
open Go.RowKit
/-- The error of a table, a call sign and a day. -/
def askV (l : List Rw) (o : Option P4) (d : Int) : Int :=
  if tabB l = false then 12 else match o with
  | none => 10
  | some _ => if withinB d 0 99999 = false then 1 else 0
theorem ask_tab {l : List Rw} {o : Option P4} {d : Int} (h : tabB l = false) : askV l o d = 12 := by unfold askV; rw [if_pos h]
theorem ask_call {l : List Rw} {o : Option P4} {d : Int} (h : tabB l = true) (h2 : o = none) : askV l o d = 10 := by unfold askV; rw [if_neg (by simp [h]), h2]
theorem ask_day {l : List Rw} {o : Option P4} {q : P4} {d : Int} (h : tabB l = true) (h2 : o = some q) (h3 : withinB d 0 99999 = false) : askV l o d = 1 := by
  unfold askV
  rw [if_neg (by simp [h]), h2]
  simp [h3]
theorem ask_ok {l : List Rw} {o : Option P4} {q : P4} {d : Int} (h : tabB l = true) (h2 : o = some q) (h3 : withinB d 0 99999 = true) : askV l o d = 0 := by
  unfold askV
  rw [if_neg (by simp [h]), h2]
  simp [h3]
/-- What rows without Whole are held against. -/
def stemV (q : P4) : Bytes := if q.area = [] then q.pre ++ q.suf else q.area
theorem stem_len {s : Bytes} {q : P4} (h : splitV s = some q) : (stemV q).length ≤ 8 := by
  have := splitV_len h
  unfold stemV
  split
  · rw [List.length_append]; omega
  · omega
def LookPost (A : Option Addr) (n c : Nat) (l : List Rw) (s : ByteArray) (d : Int) (w : World) (e : Ending) (w' : World) : Prop :=
  New w w' ∧ ((∃ x : Int, askV l (splitV (bs s)) d = x ∧ ¬ x = 0 ∧ e = .returned (.tuple #[.agg #[.slice none 0 0, .map none, .string (B []), .string (B [])], .int .i64 x])) ∨
    (∃ q base b, askV l (splitV (bs s)) d = 0 ∧ splitV (bs s) = some q ∧ tabB l = true ∧ withinB d 0 99999 = true ∧ e = .returned (.tuple #[.agg #[.slice A n c, .map (some b), .string s, .string (B (stemV q))], .int .i64 0]) ∧ MapAt w' base b l n))
theorem four_all {w : World} {g : Nat} {v0 v1 v2 v3 : Value} {t : TypeId} (h : w.heap[g]? = some (.cells #[v0, v1, v2, v3] t (0, 0))) :
    w.cell? ⟨g, 0, none⟩ = some v0 ∧ w.cell? ⟨g, 1, none⟩ = some v1 ∧ w.cell? ⟨g, 2, none⟩ = some v2 ∧ w.cell? ⟨g, 3, none⟩ = some v3 ∧ w.frozen? ⟨g, 0, none⟩ = false ∧ w.frozen? ⟨g, 1, none⟩ = false ∧ w.frozen? ⟨g, 2, none⟩ = false ∧ w.frozen? ⟨g, 3, none⟩ = false := by
  refine ⟨?_, ?_, ?_, ?_, ?_, ?_, ?_, ?_⟩
  · rw [cell_of_row _ _ 0 _ _ _ h]; rfl
  · rw [cell_of_row _ _ 1 _ _ _ h]; rfl
  · rw [cell_of_row _ _ 2 _ _ _ h]; rfl
  · rw [cell_of_row _ _ 3 _ _ _ h]; rfl
  all_goals simp [World.frozen?, h]
set_option maxHeartbeats 4000000 in
theorem air_lookUp (A : Option Addr) (n c : Nat) (l : List Rw) (s : ByteArray) (d : Int) (w : World) (hmx : HasMax w) (hl : RowsAt w A n l) (hn : n ≤ 9223372036854775807) (ht : TextsIn l) (hs : s.size ≤ 9223372036854775807) :
    Calls Tryz.prog 33 #[.slice A n c, .string s, .int .i64 d] w (LookPost A n c l s d w) := by
  have HL := Lib.hid hl
  have HT := Lib.hid ht
  have HMX := Lib.hid hmx
  have HN := Lib.hid ((New.refl w).alloc (.cells #[.slice none 0 0, .map none, .string ⟨#[]⟩, .string ⟨#[]⟩] 69))
  have HC := Lib.hid (heap_alloc_new w (.cells #[.slice none 0 0, .map none, .string ⟨#[]⟩, .string ⟨#[]⟩] 69))
  clear hl ht hmx
  go_enter Tryz.func33, Tryz.ntmps33
  go_wp2_with fail
  refine (air_openTable A n c l _ (HL.out.keep HN.out) hn HT.out).mono ?_
  rintro e w1 ⟨A', n', c', m, rfl, h1, hok⟩
  replace HN := Lib.hid (HN.out.trans h1)
  replace HC := Lib.hid (heap_keep h1 HC.out)
  have HOK := Lib.hid hok
  clear h1 hok
  cases hv : tabB l with
  | false =>
    have HV := Lib.hid hv
    clear hv
    have HA := Lib.hid (fun o => four_all (heap_keep ((New.refl w1).alloc o) HC.out))
    have r0 := fun o => (HA.out o).1
    have r1 := fun o => (HA.out o).2.1
    have r2 := fun o => (HA.out o).2.2.1
    have r3 := fun o => (HA.out o).2.2.2.1
    have f0 := fun o => (HA.out o).2.2.2.2.1
    have f1 := fun o => (HA.out o).2.2.2.2.2.1
    have f2 := fun o => (HA.out o).2.2.2.2.2.2.1
    have f3 := fun o => (HA.out o).2.2.2.2.2.2.2
    go_wp2_with fail
    refine bodyPost_ret (v := .tuple #[.agg #[.slice none 0 0, .map none, .string (B []), .string (B [])], .int .i64 12]) (by simp [results, Tryz.results33, go_sem, r0, r1, r2, r3]; rfl) rfl ⟨?_, .inl ⟨12, ask_tab HV.out, by decide, rfl⟩⟩
    exact ((((HN.out.alloc _).setCell (Nat.le_refl _) _).setCell (Nat.le_refl _) _).setCell (Nat.le_refl _) _).setCell (Nat.le_refl _) _
  | true =>
    obtain ⟨base, b, he, rfl, hm, hb⟩ := HOK.out hv
    injection he with he1 he2 he3
    subst he1 he2 he3
    have HV := Lib.hid hv
    have HM := Lib.hid hm
    have HBM : Hid (w.heap.size < b) := Lib.hid (by have h := hb; simp at h; omega)
    clear hv hm HOK hb
    go_wp2_with fail
    refine (air_Split s _ (HMX.out.keep (HN.out.alloc (.cells #[.slice A' n' c', .map (some b)] 67))) hs).mono ?_
    rintro e w2 ⟨rfl, h2⟩
    have HN2 := Lib.hid ((HN.out.alloc (.cells #[.slice A' n' c', .map (some b)] 67)).trans h2)
    have HC2 := Lib.hid (heap_keep (((New.refl w1).alloc (.cells #[.slice A' n' c', .map (some b)] 67)).trans h2) HC.out)
    have HTB := Lib.hid (heap_keep h2 (heap_alloc_new w1 (.cells #[.slice A' n' c', .map (some b)] 67)))
    replace HM := Lib.hid (HM.out.keep (((New.refl w1).alloc (.cells #[.slice A' n' c', .map (some b)] 67)).trans h2))
    have HLT : Hid (w.heap.size < w1.heap.size) := Lib.hid (Array.getElem?_eq_some_iff.1 HC.out).1
    clear h2 HC HN
    have HA := Lib.hid (fun o => four_all (heap_keep ((New.refl w2).alloc o) HC2.out))
    have r0 := fun o => (HA.out o).1
    have r1 := fun o => (HA.out o).2.1
    have r2 := fun o => (HA.out o).2.2.1
    have r3 := fun o => (HA.out o).2.2.2.1
    have f0 := fun o => (HA.out o).2.2.2.2.1
    have f1 := fun o => (HA.out o).2.2.2.2.2.1
    have f2 := fun o => (HA.out o).2.2.2.2.2.2.1
    have f3 := fun o => (HA.out o).2.2.2.2.2.2.2
    cases hq : splitV (bs s) with
    | none =>
      have HQ := Lib.hid hq
      clear hq
      simp only [p4V, p4E, partsV]
      go_wp2_with fail
      refine bodyPost_ret (v := .tuple #[.agg #[.slice none 0 0, .map none, .string (B []), .string (B [])], .int .i64 10]) (by simp [results, Tryz.results33, go_sem, r0, r1, r2, r3]; rfl) rfl ⟨?_, .inl ⟨10, ask_call HV.out HQ.out, by decide, rfl⟩⟩
      exact ((((HN2.out.alloc _).setCell (Nat.le_refl _) _).setCell (Nat.le_refl _) _).setCell (Nat.le_refl _) _).setCell (Nat.le_refl _) _
    | some q =>
      have HQ := Lib.hid hq
      have hlen := splitV_len hq
      clear hq
      simp only [p4V, p4E, partsV]
      go_wp2_with fail
      refine (air_validDay _ _).mono ?_
      rintro e w3 ⟨rfl, rfl⟩
      cases hd : withinB d 0 99999 with
      | false =>
        have HD := Lib.hid hd
        clear hd
        go_wp2_with fail
        refine bodyPost_ret (v := .tuple #[.agg #[.slice none 0 0, .map none, .string (B []), .string (B [])], .int .i64 1]) (by simp [results, Tryz.results33, go_sem, r0, r1, r2, r3]; rfl) rfl ⟨?_, .inl ⟨1, ask_day HV.out HQ.out HD.out, by decide, rfl⟩⟩
        exact ((((HN2.out.alloc _).setCell (Nat.le_refl _) _).setCell (Nat.le_refl _) _).setCell (Nat.le_refl _) _).setCell (Nat.le_refl _) _
      | true =>
        have HD := Lib.hid hd
        clear hd
        obtain ⟨t0, t1, -, -⟩ := two_all (heap_keep ((New.refl w2).alloc (.cells #[.string (B q.area), .string (B q.pre), .string (B q.suf), .string (B q.stroke)] 45)) HTB.out)
        have eA := B_empty q.area
        by_cases ha : q.area = []
        · have eA' : (B q.area).toList.isEmpty = true := by rw [eA, ha]; rfl
          have hq1 : ¬ 9223372036854775807 < (B q.pre).size + (B q.suf).size := by rw [B_size, B_size]; omega
          have HS : Hid (stemV q = q.pre ++ q.suf) := Lib.hid (by unfold stemV; rw [if_pos ha])
          clear eA ha
          go_wp2_with fail
          refine bodyPost_ret (v := .tuple #[.agg #[.slice A' n' c', .map (some b), .string s, .string (B (q.pre ++ q.suf))], .int .i64 0]) (by simp [results, Tryz.results33, go_sem, r0, r1, r2, r3, B_append]) rfl ⟨?_, .inr ⟨q, base, b, ask_ok HV.out HQ.out HD.out, HQ.out, HV.out, HD.out, by rw [HS.out], ?_⟩⟩
          · exact ((((HN2.out.alloc _).setCell (Nat.le_refl _) _).setCell (Nat.le_refl _) _).setCell (Nat.le_refl _) _).setCell (Nat.le_refl _) _
          · exact ((((HM.out.keep ((New.refl w2).alloc _)).set _ _ HBM.out).set _ _ HBM.out).set _ _ HBM.out).set _ _ HBM.out
        · have eA' : (B q.area).toList.isEmpty = false := by rw [eA]; simpa using ha
          have HS : Hid (stemV q = q.area) := Lib.hid (by unfold stemV; rw [if_neg ha])
          clear eA ha
          go_wp2_with fail
          refine bodyPost_ret (v := .tuple #[.agg #[.slice A' n' c', .map (some b), .string s, .string (B q.area)], .int .i64 0]) (by simp [results, Tryz.results33, go_sem, r0, r1, r2, r3]) rfl ⟨?_, .inr ⟨q, base, b, ask_ok HV.out HQ.out HD.out, HQ.out, HV.out, HD.out, by rw [HS.out], ?_⟩⟩
          · exact ((((HN2.out.alloc _).setCell (Nat.le_refl _) _).setCell (Nat.le_refl _) _).setCell (Nat.le_refl _) _).setCell (Nat.le_refl _) _
          · exact ((((HM.out.keep ((New.refl w2).alloc _)).set _ _ HBM.out).set _ _ HBM.out).set _ _ HBM.out).set _ _ HBM.out

end Go.Proofs.YtkbdmdnahphkkaaGreatDoor
