/-
  openTable, ValidTable, Overlap of the program. Conditions: the texts are in memory.
-/
import Derived.Test.YtkbdmdnahphkkaaGreatDoorTabClash
namespace Go.Proofs.YtkbdmdnahphkkaaGreatDoor
open Go.RowKit
/-- Whether a table is valid. -/
def tabB (l : List Rw) : Bool := rowsB l && (clashV l).isNone
theorem rowsB_len {l : List Rw} (h : rowsB l = true) : l.length ≤ 400 := by
  unfold rowsB at h
  simp at h
  exact h.1
def OpenPost (A : Option Addr) (n c : Nat) (l : List Rw) (w : World) (e : Ending) (w' : World) : Prop :=
  ∃ (A' : Option Addr) (n' c' : Nat) (m : Option Nat), e = .returned (.tuple #[.agg #[.slice A' n' c', .map m], .bool (tabB l)]) ∧ New w w' ∧ (tabB l = true → ∃ base b, Value.slice A' n' c' = .slice A n c ∧ m = some b ∧ MapAt w' base b l n ∧ w.heap.size ≤ b)
theorem cl_isNone (o : Option (Nat × Nat)) : (clV o = .tuple #[.int .i64 0, .int .i64 0, .bool false] ∧ o.isNone = true) ∨ ∃ i k : Nat, clV o = .tuple #[.int .i64 i, .int .i64 k, .bool true] ∧ o.isNone = false := by
  cases o with
  | none => exact .inl ⟨rfl, rfl⟩
  | some p => exact .inr ⟨p.1, p.2, rfl, rfl⟩
theorem two_all {w : World} {g : Nat} {v0 v1 : Value} {t : TypeId} (h : w.heap[g]? = some (.cells #[v0, v1] t (0, 0))) :
    w.cell? ⟨g, 0, none⟩ = some v0 ∧ w.cell? ⟨g, 1, none⟩ = some v1 ∧ w.frozen? ⟨g, 0, none⟩ = false ∧ w.frozen? ⟨g, 1, none⟩ = false := by
  refine ⟨?_, ?_, ?_, ?_⟩
  · rw [cell_of_row _ _ 0 _ _ _ h]; rfl
  · rw [cell_of_row _ _ 1 _ _ _ h]; rfl
  · simp [World.frozen?, h]
  · simp [World.frozen?, h]
theorem groups_beside {w w' : World} {base b n : Nat} {D : DataW Unit} {row : Option Nat} (h : w.ownsGroups Tryz.prog 112 base 3 .i64 b n D) (k : w.grownBy w' row) (hr : ∀ i, row = some i → i < b) :
    w'.ownsGroups Tryz.prog 112 base 3 .i64 b n D := by
  obtain ⟨es, clock, hb, F, hs, hD, hbb, hlen, hap⟩ := h
  have hblt : b < w.heap.size := (Array.getElem?_eq_some_iff.1 hb).1
  have ne : ∀ {v : Value} {zs : List Int}, w.ownsInts base 3 .i64 v zs → v.ownBlock = none ∨ v.ownBlock ≠ row := fun {v zs} ho => by
    cases hv : v.ownBlock with
    | none => exact .inl rfl
    | some g =>
      refine .inr (fun e => ?_)
      have h1 := (ho.1.lt g hv).1
      have h2 := hr g e.symm
      omega
  have hs2 : ∀ x ∈ es.toList, ∀ z, rowElem (H := Unit) w base 3 .i64 x.val = some z → rowElem w' base 3 .i64 x.val = some z := by
    intro x _ z hz
    obtain ⟨ys, ho, rfl⟩ := rowElem_inv hz
    exact rowElem_mk (ho.kept k (ne ho))
  obtain ⟨F2, hmap2, _⟩ := F.stay hs2
  refine ⟨es, clock, (k.block b hblt (fun e => by have := hr b e.symm; omega)).trans hb, F2, hs, by rw [hmap2]; exact hD, hbb, ?_, hap⟩
  intro x hx zs ho
  obtain ⟨y, hy⟩ := F.reads x hx
  obtain ⟨z, hz, _⟩ := WideElems.rd_val hy
  obtain ⟨ys, ho0, _⟩ := rowElem_inv hz
  rw [ho.unique (ho0.kept k (ne ho0))]
  exact hlen x hx ys ho0
theorem grown_set (w : World) (a : Addr) (u : Value) : w.grownBy (w.setCell a u) (some a.block) := by
  refine ⟨rfl, rfl, rfl, by simp [World.setCell], fun k hk hne => ?_⟩
  exact Below.heap_setCell w a u k (fun e => hne (by rw [e]))
theorem MapAt.set {w : World} {base b n : Nat} {l : List Rw} (h : MapAt w base b l n) (a : Addr) (u : Value) (hb : a.block < b) : MapAt (w.setCell a u) base b l n := by
  obtain ⟨D, h1, h2, h3⟩ := h
  exact ⟨D, groups_beside h1 (grown_set w a u) (fun i e => by cases e; exact hb), h2, h3⟩
set_option maxHeartbeats 2000000 in
theorem air_openTable (A : Option Addr) (n c : Nat) (l : List Rw) (w : World) (hl : RowsAt w A n l) (hn : n ≤ 9223372036854775807) (ht : TextsIn l) :
    Calls Tryz.prog 39 #[.slice A n c] w (OpenPost A n c l w) := by
  have HL := Lib.hid hl
  have HT := Lib.hid ht
  have HLN := Lib.hid hl.1
  have HTB : Hid (tabB l = (rowsB l && (clashV l).isNone)) := Lib.hid rfl
  have HN := Lib.hid ((New.refl w).alloc (.cells #[.slice none 0 0, .map none] 67))
  clear hl ht
  go_enter Tryz.func39, Tryz.ntmps39
  go_wp2_with fail
  refine (air_validRows A n c l _ (HL.out.keep HN.out) hn HT.out).mono ?_
  rintro e w1 ⟨rfl, h1⟩
  replace HN := Lib.hid (HN.out.trans h1)
  have hcell : (w.alloc (.cells #[.slice none 0 0, .map none] 67)).heap[w.heap.size]? = _ := heap_alloc_new w _
  have HC0 := Lib.hid (heap_keep h1 hcell)
  clear hcell h1
  cases hv : rowsB l with
  | false =>
    rw [hv] at HTB
    clear hv
    obtain ⟨r0, r1, f0, f1⟩ := two_all HC0.out
    go_wp2_with fail
    refine bodyPost_ret (v := .tuple #[.agg #[.slice none 0 0, .map none], .bool false]) (by simp [results, Tryz.results39, go_sem, r0, r1]) rfl ⟨_, _, _, _, by rw [HTB.out]; rfl, ?_, (fun h => by rw [HTB.out] at h; cases h)⟩
    exact (HN.out.setCell (Nat.le_refl _) _).setCell (Nat.le_refl _) _
  | true =>
    have h4 : n ≤ 400 := by have h := rowsB_len hv; rw [HLN.out] at h; exact h
    rw [hv, Bool.true_and] at HTB
    clear hv
    go_wp2_with fail
    refine (air_byKey A n c l w1 (HL.out.keep HN.out) h4 HT.out).mono ?_
    rintro e w2 ⟨rfl, h2, hm⟩
    have HN2 := Lib.hid (HN.out.trans h2)
    have HM := Lib.hid hm
    have HC2 := Lib.hid (heap_keep h2 HC0.out)
    have HLT : Hid (w.heap.size < w1.heap.size) := Lib.hid (Array.getElem?_eq_some_iff.1 HC0.out).1
    clear h2 hm HC0
    have HN3 := Lib.hid ((New.refl w2).alloc (.cells #[.slice A n c, .map (some w1.heap.size)] 67))
    have HC3 := Lib.hid (heap_alloc_new w2 (.cells #[.slice A n c, .map (some w1.heap.size)] 67))
    go_wp2_with fail
    refine (air_firstClash A n c _ _ l _ (HL.out.keep (HN2.out.trans HN3.out)) (HM.out.keep HN3.out) h4 HT.out).mono ?_
    rintro e w3 ⟨rfl, h3⟩
    have HN4 := Lib.hid (HN2.out.trans (HN3.out.trans h3))
    have HM4 := Lib.hid (HM.out.keep (HN3.out.trans h3))
    obtain ⟨r0, r1, f0, f1⟩ := two_all (heap_keep (HN3.out.trans h3) HC2.out)
    obtain ⟨q0, q1, _, _⟩ := two_all (heap_keep h3 HC3.out)
    clear h3
    rcases cl_isNone (clashV l) with ⟨hcl, hno⟩ | ⟨i, k, hcl, hno⟩
    · rw [hno] at HTB
      rw [hcl]
      clear hcl hno
      go_wp2_with fail
      refine bodyPost_ret (v := .tuple #[.agg #[.slice A n c, .map (some w1.heap.size)], .bool true]) (by simp [results, Tryz.results39, go_sem, r0, r1]) rfl ⟨_, _, _, _, by rw [HTB.out], ?_, fun _ => ⟨w1.heap.size + 1, w1.heap.size, rfl, rfl, ?_, Nat.le_of_lt HLT.out⟩⟩
      · exact (HN4.out.setCell (Nat.le_refl _) _).setCell (Nat.le_refl _) _
      · exact (HM4.out.set _ _ HLT.out).set _ _ HLT.out
    · rw [hno] at HTB
      rw [hcl]
      clear hcl hno
      go_wp2_with fail
      refine bodyPost_ret (v := .tuple #[.agg #[.slice A n c, .map (some w1.heap.size)], .bool false]) (by simp [results, Tryz.results39, go_sem, r0, r1]) rfl ⟨_, _, _, _, by rw [HTB.out], ?_, (fun h => by rw [HTB.out] at h; cases h)⟩
      exact (HN4.out.setCell (Nat.le_refl _) _).setCell (Nat.le_refl _) _

end Go.Proofs.YtkbdmdnahphkkaaGreatDoor
