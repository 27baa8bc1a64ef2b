/-
  Accept at the systems of the examples: its answers, as plain values. No condition.
  The systems of the examples, as the statements' package makes them. No condition.
  awake of the statements' package: it returns true in every world that has the variable beginning.
-/
import Derived.Test.YtodmbcoobjcooaaDoorCkAccept
import Derived.Test.YtodmbcoobjcooaaDoorCkSmp
import Derived.Test.YtodmbcoobjcooaaDoorCkSpanT
namespace Go.Proofs.YtodmbcoobjcooaaDoor
open Go Go.RowKit Go.Shelf
theorem aM_congr {m : Nat} {win : Int} {a b : Nat} {M N : Nat → Nat → Int} (ha : a < m) (hb : b < m) (h : ∀ i j, i < m → j < m → M i j = N i j) : okT win a b M = okT win a b N ∧ ∀ i j, i < m → j < m → aM m win a b M i j = aM m win a b N i j := by
  have e : okT win a b M = okT win a b N := by unfold okT; rw [h a b ha hb, h b a hb ha]
  have t : ∀ (a b : Nat) (P Q : Nat → Nat → Int), a < m → b < m → (∀ i j, i < m → j < m → P i j = Q i j) → ∀ i j, i < m → j < m → tM m win a b P i j = tM m win a b Q i j := fun a b P Q ha hb h i j hi hj => by
    unfold tM
    rw [h a b ha hb]
    split
    · exact h i j hi hj
    · rw [tgt_all m win a b P hi, tgt_all m win a b Q hi, h i j hi hj, h i a hi ha, h b j hb hj]
  refine ⟨e, fun i j hi hj => ?_⟩
  unfold aM
  rw [e]
  split
  · exact t b a _ _ hb ha (t a b M N ha hb h) i j hi hj
  · exact h i j hi hj
theorem foldM_congr {win : Int} {l : List Rf} {M N : Nat → Nat → Int} (h : ∀ i j, i < l.length → j < l.length → M i j = N i j) : ∀ L : List Ti, (∀ t ∈ L, t.a ∈ l ∧ t.b ∈ l) → ∀ i j, i < l.length → j < l.length → foldM win l L M i j = foldM win l L N i j := by
  intro L
  induction L generalizing M N with
  | nil => exact fun _ => h
  | cons t L ih =>
    intro hm
    have ht := hm t List.mem_cons_self
    exact ih (aM_congr (List.idxOf_lt_length_of_mem ht.1) (List.idxOf_lt_length_of_mem ht.2) h).2 (fun u hu => hm u (List.mem_cons_of_mem _ hu))
theorem okK_congr {win : Int} {all : List Ti} {M N : Nat → Nat → Int} (h : ∀ i j, i < (namesL all).length → j < (namesL all).length → M i j = N i j) {j : Nat} (hj : j < all.length) : okK win (namesL all) all M j = okK win (namesL all) all N j := by
  have hm : all[j]?.getD default ∈ all := by rw [getD_get hj]; exact List.getElem_mem _
  have h2 := namesL_has hm
  unfold okK
  exact (aM_congr (List.idxOf_lt_length_of_mem h2.1) (List.idxOf_lt_length_of_mem h2.2) (foldM_congr h _ (fun t ht => namesL_has (List.mem_of_mem_take ht)))).1
def smpL : List Ti := [{ a := ⟨0, 0⟩, b := ⟨1, 1⟩ }, { a := ⟨0, 0⟩, b := ⟨1, 0⟩ }]
theorem smp_names : namesL smpL = [⟨0, 0⟩, ⟨1, 1⟩, ⟨1, 0⟩] := by decide +kernel
def smpN (i j : Nat) : Int := (([[0, 71, 8], [-45, 0, -62], [18, 64, 0]] : List (List Int))[i]?.getD [])[j]?.getD 0
theorem smp_M {dd ds : Nat → Nat → Int} (h : DdD [tk0, tk1] (namesL smpL) (namesL smpL).length dd) (k : ∀ i, i < 2 → Dist (egs (oneT (([tk0, tk1] : List Tk)[i]?.getD default))) (nPl (oneT (([tk0, tk1] : List Tk)[i]?.getD default))) 0 22001 (ds i)) :
    ∀ i j, i < (namesL smpL).length → j < (namesL smpL).length → mM0 (namesL smpL) dd ds i j = smpN i j := by
  rw [smp_names] at h ⊢
  have a0 := smp_one0_1 (h 0 (by decide))
  have a1 := smp_one1_2 (h 1 (by decide))
  have a2 := smp_one1_1 (h 2 (by decide))
  have b0 := smp_one0 (k 0 (by decide))
  have b1 := smp_one1 (k 1 (by decide))
  intro i j hi hj
  have hi3 : i < 3 := hi
  have hj3 : j < 3 := hj
  rcases i with _ | _ | _ | i
  · rcases j with _ | _ | _ | j
    · simp [mM0, mostF, rowF, smpN, a0]
    · simp [mM0, mostF, rowF, smpN, a0, b1]
    · simp [mM0, mostF, rowF, smpN, a0, b1]
    · omega
  · rcases j with _ | _ | _ | j
    · simp [mM0, mostF, rowF, smpN, a1, b0]
    · simp [mM0, mostF, rowF, smpN, a1]
    · simp [mM0, mostF, rowF, smpN, a1]
    · omega
  · rcases j with _ | _ | _ | j
    · simp [mM0, mostF, rowF, smpN, a2, b0]
    · simp [mM0, mostF, rowF, smpN, a2]
    · simp [mM0, mostF, rowF, smpN, a2]
    · omega
  · omega
theorem smp_fold : ∀ k, k ≤ 2 → (∀ i j, i < 3 → j < 3 → -1000 ≤ foldM 2 (namesL smpL) (smpL.take k) smpN i j ∧ foldM 2 (namesL smpL) (smpL.take k) smpN i j ≤ 1000) ∧ ∀ i, i < 3 → foldM 2 (namesL smpL) (smpL.take k) smpN i i = 0 := by
  have h : (List.range 3).all (fun k => (List.range 3).all fun i => decide (foldM 2 (namesL smpL) (smpL.take k) smpN i i = 0) && (List.range 3).all fun j => decide (-1000 ≤ foldM 2 (namesL smpL) (smpL.take k) smpN i j) && decide (foldM 2 (namesL smpL) (smpL.take k) smpN i j ≤ 1000)) = true := by decide +kernel
  simp only [List.all_eq_true, List.mem_range, Bool.and_eq_true, decide_eq_true_eq] at h
  exact fun k hk => ⟨fun i j hi hj => (h k (by omega) i hi).2 j hj, fun i hi => (h k (by omega) i hi).1⟩
theorem smp_bds : BdsM [tk0, tk1] smpL 2 := fun dd ds h1 h2 k hk => by
  have hc := foldM_congr (win := 2) (smp_M h1 h2) (smpL.take k) (fun t ht => namesL_has (List.mem_of_mem_take ht))
  have hl : (namesL smpL).length = 3 := by rw [smp_names]; rfl
  have hf := smp_fold k hk
  refine ⟨fun i j hi hj => ?_, fun i hi => ?_⟩
  · rw [hc i j hi hj]
    have := hf.1 i j (by omega) (by omega)
    omega
  · rw [hc i i hi hi]
    exact hf.2 i (by omega)
theorem smp_ans {dd ds : Nat → Nat → Int} (h : DdD [tk0, tk1] (namesL smpL) (namesL smpL).length dd) (k : ∀ i, i < 2 → Dist (egs (oneT (([tk0, tk1] : List Tk)[i]?.getD default))) (nPl (oneT (([tk0, tk1] : List Tk)[i]?.getD default))) 0 22001 (ds i)) : ansK 2 (namesL smpL) smpL (mM0 (namesL smpL) dd ds) 0 2 = [false, true] := by
  have e0 := okK_congr (win := 2) (all := smpL) (smp_M h k) (j := 0) (by decide)
  have e1 := okK_congr (win := 2) (all := smpL) (smp_M h k) (j := 1) (by decide)
  have f0 : okK 2 (namesL smpL) smpL smpN 0 = false := by decide +kernel
  have f1 : okK 2 (namesL smpL) smpL smpN 1 = true := by decide +kernel
  show [okK 2 (namesL smpL) smpL _ (0 + 0), okK 2 (namesL smpL) smpL _ (0 + 1)] = _
  rw [Nat.zero_add, Nat.zero_add, e0, e1, f0, f1]
theorem smp_offer : offerE pairU smpL = 0 := by decide +kernel
theorem smp_lines : ∀ t ∈ smpL, LineT pairU.tracks t.a ∧ LineT pairU.tracks t.b := by
  intro t ht
  have h : t = { a := ⟨0, 0⟩, b := ⟨1, 1⟩ } ∨ t = { a := ⟨0, 0⟩, b := ⟨1, 0⟩ } := by simpa [smpL] using ht
  rcases h with rfl | rfl
  · exact ⟨⟨0, 0, rfl, rfl, by decide, by decide⟩, ⟨1, 1, rfl, rfl, by decide, by decide⟩⟩
  · exact ⟨⟨0, 0, rfl, rfl, by decide, by decide⟩, ⟨1, 0, rfl, rfl, by decide, by decide⟩⟩
theorem smp_sml : ∀ t ∈ smpL, Sml t.a ∧ Sml t.b := by
  intro t ht
  have h : t = { a := ⟨0, 0⟩, b := ⟨1, 1⟩ } ∨ t = { a := ⟨0, 0⟩, b := ⟨1, 0⟩ } := by simpa [smpL] using ht
  rcases h with rfl | rfl <;> (unfold Sml; decide)
end Go.Proofs.YtodmbcoobjcooaaDoor

namespace Go.Proofs.YtodmbcoobjcooaaDoor
open Go Go.RowKit Go.Shelf
attribute [local go_sem] Oper.semAt_some
theorem RowIs.ints2 {w : World} {g : Nat} {l : List Int} (h : RowIs w g 3 (l.map (Value.int .i64))) (hl : l.length ≤ 100) : IntsA w (some ⟨g, 0, none⟩) l := by
  refine ⟨by omega, fun _ => ⟨g, 0, rfl, h.lt, fun i hi => ?_⟩⟩
  rw [Nat.zero_add]
  exact h.cell (by rw [List.getElem?_map, List.getElem?_eq_getElem hi]; rfl)
theorem pair_tracks {w : World} {a b t : Nat} (h0 : RowIs w a 3 [.int .i64 100, .int .i64 160]) (h1 : RowIs w b 3 [.int .i64 95, .int .i64 158]) (h2 : RowIs w t 30 [.int .i64 10, .int .i64 0, .slice none 0 0, .slice (some ⟨a, 0, none⟩) 2 2, .int .i64 3, .int .i64 0, .slice none 0 0, .slice (some ⟨b, 0, none⟩) 2 2]) : TksA w (some ⟨t, 0, none⟩) [tk0, tk1] := by
  refine ⟨by simp, fun _ => ⟨t, 0, rfl, h2.lt, fun i hi => ?_⟩⟩
  have hi2 : i < 2 := hi
  rcases i with _ | _ | i
  · exact ⟨none, 0, _, 2, h2.cell rfl, h2.cell rfl, h2.cell rfl, h2.cell rfl, IntsA.nil _ _, RowIs.ints2 (l := [100, 160]) h0 (by simp)⟩
  · exact ⟨none, 0, _, 2, h2.cell rfl, h2.cell rfl, h2.cell rfl, h2.cell rfl, IntsA.nil _ _, RowIs.ints2 (l := [95, 158]) h1 (by simp)⟩
  · omega
set_option maxRecDepth 100000 in
set_option maxHeartbeats 4000000 in
theorem law_pairU (w : World) : Calls Tryd.prog 64 #[.bool false] w fun e w' => ∃ A, e = .returned (.agg #[.slice A 2 2, .slice none 0 0, .int .i64 2]) ∧ New w w' ∧ SysM w' A none pairU := by
  go_enter Tryd.func64, Tryd.ntmps64
  go_wp2_with fail
  generalize hw0 : w.alloc (.cells #[.slice (some ⟨w.heap.size + 1 + 1 + 1, 0, none⟩) 2 2, .slice none 0 0, .int .i64 2] 25) = w0
  have hs0 : w0.heap.size = w.heap.size + 1 := by rw [← hw0]; simp
  have n0 : New w w0 := by rw [← hw0]; exact (New.refl w).alloc _
  have r0 : RowIs w0 w.heap.size 25 [.slice (some ⟨w.heap.size + 1 + 1 + 1, 0, none⟩) 2 2, .slice none 0 0, .int .i64 2] := by rw [← hw0]; exact RowIs.new w _ _
  clear hw0
  generalize hw1 : w0.alloc (.cells #[.int .i64 100, .int .i64 160] 3) = w1
  have hs1 : w1.heap.size = w.heap.size + 1 + 1 := by rw [← hw1]; simp [hs0]
  have n1 : New w0 w1 := by rw [← hw1]; exact (New.refl w0).alloc _
  have r1 : RowIs w1 (w.heap.size + 1) 3 [.int .i64 100, .int .i64 160] := by rw [← hw1, ← hs0]; exact RowIs.new w0 _ _
  clear hw1
  generalize hw2 : w1.alloc (.cells #[.int .i64 95, .int .i64 158] 3) = w2
  have hs2 : w2.heap.size = w.heap.size + 1 + 1 + 1 := by rw [← hw2]; simp [hs1]
  have n2 : New w1 w2 := by rw [← hw2]; exact (New.refl w1).alloc _
  have r2 : RowIs w2 (w.heap.size + 1 + 1) 3 [.int .i64 95, .int .i64 158] := by rw [← hw2, ← hs1]; exact RowIs.new w1 _ _
  clear hw2
  generalize hw3 : w2.alloc (.cells #[.int .i64 10, .int .i64 0, .slice none 0 0, .slice (some ⟨w.heap.size + 1, 0, none⟩) 2 2, .int .i64 3, .int .i64 0, .slice none 0 0, .slice (some ⟨w.heap.size + 1 + 1, 0, none⟩) 2 2] 30) = w3
  have n3 : New w2 w3 := by rw [← hw3]; exact (New.refl w2).alloc _
  have r3 : RowIs w3 (w.heap.size + 1 + 1 + 1) 30 [.int .i64 10, .int .i64 0, .slice none 0 0, .slice (some ⟨w.heap.size + 1, 0, none⟩) 2 2, .int .i64 3, .int .i64 0, .slice none 0 0, .slice (some ⟨w.heap.size + 1 + 1, 0, none⟩) 2 2] := by rw [← hw3, ← hs2]; exact RowIs.new w2 _ _
  clear hw3
  generalize hw4 : w3.alloc (.cells #[.slice (some ⟨w.heap.size + 1 + 1 + 1, 0, none⟩) 2 2, .slice none 0 0, .int .i64 2] 25) = w4
  have n4 : New w3 w4 := by rw [← hw4]; exact (New.refl w3).alloc _
  clear hw4
  have q0 := r0.keep (n1.trans (n2.trans (n3.trans n4)))
  have z0 := q0.cell (i := 0) rfl
  have z1 := q0.cell (i := 1) rfl
  have z2 := q0.cell (i := 2) rfl
  refine bodyPost_ret (v := .agg #[.slice (some ⟨w.heap.size + 1 + 1 + 1, 0, none⟩) 2 2, .slice none 0 0, .int .i64 2]) (by simp [results, Tryd.results64]; go_simp) rfl ?_
  exact ⟨_, rfl, n0.trans (n1.trans (n2.trans (n3.trans n4))), pair_tracks (r1.keep (n2.trans (n3.trans n4))) (r2.keep (n3.trans n4)) (r3.keep n4), TisA.nil _ _⟩
theorem pair_tie {w : World} {t : Nat} (h : RowIs w t 79 [.int .i64 0, .int .i64 0, .int .i64 1, .int .i64 0]) : TisA w (some ⟨t, 0, none⟩) [{ a := ⟨0, 0⟩, b := ⟨1, 0⟩ }] := by
  refine ⟨by simp, fun _ => ⟨t, 0, rfl, h.lt, fun i hi => ?_⟩⟩
  have hi2 : i < 1 := hi
  obtain rfl : i = 0 := by omega
  exact ⟨h.cell rfl, h.cell rfl, h.cell rfl, h.cell rfl⟩
set_option maxRecDepth 100000 in
set_option maxHeartbeats 4000000 in
theorem law_pairT (w : World) : Calls Tryd.prog 64 #[.bool true] w fun e w' => ∃ A D, e = .returned (.agg #[.slice A 2 2, .slice D 1 1, .int .i64 2]) ∧ New w w' ∧ SysM w' A D pairT := by
  go_enter Tryd.func64, Tryd.ntmps64
  go_wp2_with fail
  generalize hw0 : w.alloc (.cells #[.slice (some ⟨w.heap.size + 1 + 1 + 1, 0, none⟩) 2 2, .slice (some ⟨w.heap.size + 1 + 1 + 1 + 1 + 1, 0, none⟩) 1 1, .int .i64 2] 25) = w0
  have hs0 : w0.heap.size = w.heap.size + 1 := by rw [← hw0]; simp
  have n0 : New w w0 := by rw [← hw0]; exact (New.refl w).alloc _
  have r0 : RowIs w0 w.heap.size 25 [.slice (some ⟨w.heap.size + 1 + 1 + 1, 0, none⟩) 2 2, .slice (some ⟨w.heap.size + 1 + 1 + 1 + 1 + 1, 0, none⟩) 1 1, .int .i64 2] := by rw [← hw0]; exact RowIs.new w _ _
  clear hw0
  generalize hw1 : w0.alloc (.cells #[.int .i64 100, .int .i64 160] 3) = w1
  have hs1 : w1.heap.size = w.heap.size + 1 + 1 := by rw [← hw1]; simp [hs0]
  have n1 : New w0 w1 := by rw [← hw1]; exact (New.refl w0).alloc _
  have r1 : RowIs w1 (w.heap.size + 1) 3 [.int .i64 100, .int .i64 160] := by rw [← hw1, ← hs0]; exact RowIs.new w0 _ _
  clear hw1
  generalize hw2 : w1.alloc (.cells #[.int .i64 95, .int .i64 158] 3) = w2
  have hs2 : w2.heap.size = w.heap.size + 1 + 1 + 1 := by rw [← hw2]; simp [hs1]
  have n2 : New w1 w2 := by rw [← hw2]; exact (New.refl w1).alloc _
  have r2 : RowIs w2 (w.heap.size + 1 + 1) 3 [.int .i64 95, .int .i64 158] := by rw [← hw2, ← hs1]; exact RowIs.new w1 _ _
  clear hw2
  generalize hw3 : w2.alloc (.cells #[.int .i64 10, .int .i64 0, .slice none 0 0, .slice (some ⟨w.heap.size + 1, 0, none⟩) 2 2, .int .i64 3, .int .i64 0, .slice none 0 0, .slice (some ⟨w.heap.size + 1 + 1, 0, none⟩) 2 2] 30) = w3
  have hs3 : w3.heap.size = w.heap.size + 1 + 1 + 1 + 1 := by rw [← hw3]; simp [hs2]
  have n3 : New w2 w3 := by rw [← hw3]; exact (New.refl w2).alloc _
  have r3 : RowIs w3 (w.heap.size + 1 + 1 + 1) 30 [.int .i64 10, .int .i64 0, .slice none 0 0, .slice (some ⟨w.heap.size + 1, 0, none⟩) 2 2, .int .i64 3, .int .i64 0, .slice none 0 0, .slice (some ⟨w.heap.size + 1 + 1, 0, none⟩) 2 2] := by rw [← hw3, ← hs2]; exact RowIs.new w2 _ _
  clear hw3
  generalize hw4 : w3.alloc (.cells #[.slice (some ⟨w.heap.size + 1 + 1 + 1, 0, none⟩) 2 2, .slice (some ⟨w.heap.size + 1 + 1 + 1 + 1 + 1, 0, none⟩) 1 1, .int .i64 2] 25) = w4
  have hs4 : w4.heap.size = w.heap.size + 1 + 1 + 1 + 1 + 1 := by rw [← hw4]; simp [hs3]
  have n45 : New w3 w4 := by rw [← hw4]; exact (New.refl w3).alloc _
  clear hw4
  generalize hw5 : w4.alloc (.cells #[.int .i64 0, .int .i64 0, .int .i64 1, .int .i64 0] 79) = w5
  have n5 : New w4 w5 := by rw [← hw5]; exact (New.refl w4).alloc _
  have n4 : New w3 w5 := n45.trans n5
  have r5 : RowIs w5 (w.heap.size + 1 + 1 + 1 + 1 + 1) 79 [.int .i64 0, .int .i64 0, .int .i64 1, .int .i64 0] := by rw [← hw5, ← hs4]; exact RowIs.new w4 _ _
  clear hw5
  have q0 := r0.keep (n1.trans (n2.trans (n3.trans n4)))
  have z0 := q0.cell (i := 0) rfl
  have z1 := q0.cell (i := 1) rfl
  have z2 := q0.cell (i := 2) rfl
  refine bodyPost_ret (v := .agg #[.slice (some ⟨w.heap.size + 1 + 1 + 1, 0, none⟩) 2 2, .slice (some ⟨w.heap.size + 1 + 1 + 1 + 1 + 1, 0, none⟩) 1 1, .int .i64 2]) (by simp [results, Tryd.results64]; go_simp) rfl ?_
  exact ⟨_, _, rfl, n0.trans (n1.trans (n2.trans (n3.trans n4))), pair_tracks (r1.keep (n2.trans (n3.trans n4))) (r2.keep (n3.trans n4)) (r3.keep n4), pair_tie r5⟩
end Go.Proofs.YtodmbcoobjcooaaDoor

namespace Go.Proofs.YtodmbcoobjcooaaDoor
open Go Go.RowKit Go.Shelf
attribute [local go_sem] Oper.semAt_some
theorem times_cells {W : World} {base : Nat} {V : Value} {dd db : Nat → Int} (h : AllIn W base V (rowsK pairT dd db 2)) (hd : dd 1 = 100 ∧ dd 2 = 161 ∧ db 1 = -90 ∧ db 2 = -150) :
    ∃ gb cap gr cr, V = .slice (some ⟨gb, 0, none⟩) 2 cap ∧ W.cell? ⟨gb, 0, none⟩ = some (.slice (some ⟨gr, 0, none⟩) 2 cr) ∧ (W.cell? ⟨gr, 0, none⟩ = some (.int .i64 90) ∧ W.cell? ⟨gr, 1, none⟩ = some (.int .i64 100)) ∧ W.cell? ⟨gr, 2, none⟩ = some (.int .i64 150) ∧ W.cell? ⟨gr, 3, none⟩ = some (.int .i64 161) := by
  obtain ⟨outs, h1, h2⟩ := h
  have e0 : (rowsK pairT dd db 2)[0]?.getD [] = [(90, 100), (150, 161)] := by
    show rowK pairT dd db 0 2 = _
    show [(-db 1, dd 1), (-db 2, dd 2)] = _
    rw [hd.1, hd.2.1, hd.2.2.1, hd.2.2.2]
    rfl
  obtain ⟨v, h3, h4⟩ := h2 0 (by rw [rowsK_len]; omega)
  rw [e0] at h4
  rw [rowsK_len] at h1
  obtain ⟨gb, cap, rfl, -, -, hc⟩ := owns_at h1 (by omega)
  rcases h4.2 with ⟨_, h5⟩ | ⟨g, cap2, cur, rfl, hb, hh, h5⟩
  · simp at h5
  · exact ⟨gb, cap, g, cap2, rfl, by rw [(hc 0 (by omega)).1]; exact h3, ⟨h4.cellAt 0 (by decide), h4.cellAt 1 (by decide)⟩, h4.cellAt 2 (by decide), h4.cellAt 3 (by decide)⟩
theorem smp_tis {w : World} {t : Nat} (h : RowIs w t 79 [.int .i64 0, .int .i64 0, .int .i64 1, .int .i64 1, .int .i64 0, .int .i64 0, .int .i64 1, .int .i64 0]) : TisA w (some ⟨t, 0, none⟩) smpL ∧ TisAt w (.slice (some ⟨t, 0, none⟩) 2 2) smpL := by
  refine ⟨⟨by simp [smpL], fun _ => ⟨t, 0, rfl, h.lt, fun i hi => ?_⟩⟩, .inr ⟨t, 0, 2, rfl, fun i x hx => ?_⟩⟩
  · have hi2 : i < 2 := hi
    rcases i with _ | _ | i
    · exact ⟨h.cell rfl, h.cell rfl, h.cell rfl, h.cell rfl⟩
    · exact ⟨h.cell rfl, h.cell rfl, h.cell rfl, h.cell rfl⟩
    · omega
  · rw [Nat.zero_add]
    exact h.cell hx
set_option maxRecDepth 100000 in
set_option maxHeartbeats 4000000 in
theorem law_awake (w : World) (hbeg : BegA w) : Calls Tryd.prog 15 #[] w fun e w' => e = .returned (.bool true) ∧ New w w' := by
  have HBG := Lib.hid hbeg
  have HPT : Hid (∀ w', _) := Lib.hid law_pairT
  have HPU : Hid (∀ w', _) := Lib.hid law_pairU
  have HTI : Hid (∀ w' A D, New w w' → SysM w' A D pairT → Calls Tryd.prog 28 #[.agg #[.slice A 2 2, .slice D 1 1, .int .i64 2]] w' fun e w'' => ∃ V base dd db, e = .returned (.tuple #[V, .int .i64 0]) ∧ New w' w'' ∧ AllIn w'' base V (rowsK pairT dd db 2) ∧ Dist (egs pairT) (nPl pairT) 0 22001 dd ∧ Dist (turnE (egs pairT)) (nPl pairT) 0 22001 db) := Lib.hid fun w' A D hn hM => ck_Times pairT ok_pairT A D 2 1 w' hM ⟨hn.cellOf HBG.out.1, hn.cellOf HBG.out.2⟩ closes_pairT
  have HOF : Hid (∀ w' A D, New w w' → SysM w' A D pairT → Calls Tryd.prog 38 #[.agg #[.slice A 2 2, .slice D 1 1, .int .i64 2], .agg #[.int .i64 0, .int .i64 0]] w' fun e w'' => e = .returned (.tuple #[.agg #[.int .i64 0, .int .i64 10], .int .i64 0]) ∧ New w' w'') := Lib.hid fun w' A D hn hM => by
    refine Calls.mono (ck_Offset pairT ok_pairT A D 2 1 w' hM ⟨hn.cellOf HBG.out.1, hn.cellOf HBG.out.2⟩ closes_pairT 0 0 (by decide) (by decide)) ?_
    rintro e w'' ⟨dd, db, rfl, h1, h2, h3⟩
    obtain ⟨a1, -, a3, -⟩ := smp_T h2 h3
    have e1 : plc pairT ⟨((0 : Nat) : Int), ((0 : Nat) : Int)⟩ = 1 := by decide +kernel
    have e2 : tmAt (tkAt pairT 0) 0 = 100 := by decide +kernel
    rw [e1, e2, a1, a3]
    exact ⟨rfl, h1⟩
  have HAC : Hid (∀ w' A L, New w w' → SysM w' A none pairU → TisA w' (some L) smpL → TisAt w' (.slice (some L) 2 2) smpL → Calls Tryd.prog 54 #[.agg #[.slice A 2 2, .slice none 0 0, .int .i64 2], .slice (some L) 2 2] w' fun e w'' => ∃ V, e = .returned (.tuple #[V, .int .i64 0]) ∧ New w' w'' ∧ w''.ownsRow w'.heap.size 4 1 V 2 [.bool false, .bool true]) := Lib.hid fun w' A L hn hM hL hLa => by
    refine Calls.mono (ck_Accept pairU ok_pairU closes_pairU A none (some L) 2 0 2 smpL smpL w' rfl hM hL (.inl ⟨rfl, rfl⟩) hLa smp_offer (by decide) (by decide) ⟨hn.cellOf HBG.out.1, hn.cellOf HBG.out.2⟩ smp_lines smp_sml smp_bds) ?_
    rintro e w'' ⟨V, dd, ds, rfl, h1, h2, h3, h4⟩
    have e1 : ansK pairU.window (namesL smpL) smpL (mM0 (namesL smpL) dd ds) pairU.ties.length smpL.length = [false, true] := smp_ans h3 h4
    rw [e1] at h2
    exact ⟨V, rfl, h1, h2⟩
  have HBF : Hid (∀ w' A, New w w' → SysM w' A none pairU → Calls Tryd.prog 46 #[.agg #[.slice A 2 2, .slice none 0 0, .int .i64 2], .agg #[.int .i64 1, .int .i64 0], .agg #[.int .i64 0, .int .i64 1]] w' fun e w'' => e = .returned (.tuple #[.bool true, .int .i64 0]) ∧ New w' w'') := Lib.hid fun w' A hn hM => by
    refine Calls.mono (ck_Before pairU ok_pairU A none 2 0 w' hM ⟨hn.cellOf HBG.out.1, hn.cellOf HBG.out.2⟩ closes_pairU ⟨1, 0⟩ ⟨0, 1⟩ (by decide +kernel) (by decide +kernel)) ?_
    rintro e w'' ⟨db, rfl, h1, h2⟩
    have e1 : plc pairU ⟨1, 0⟩ = 3 := by decide +kernel
    have e2 : plc pairU ⟨0, 1⟩ = 2 := by decide +kernel
    rw [e1] at h2
    rw [e2, smp_U h2]
    exact ⟨rfl, h1⟩
  clear hbeg
  go_enter Tryd.func15, Tryd.ntmps15
  go_wp2_with fail
  refine (HPT.out _).mono ?_
  rintro e w1 ⟨A1, D1, rfl, n1, hM1⟩
  have HN1 := Lib.hid n1
  have HM1 := Lib.hid hM1
  clear n1 hM1
  go_wp2_with fail
  refine (HTI.out _ _ _ HN1.out HM1.out).mono ?_
  rintro e w2 ⟨V2, base2, dd2, db2, rfl, n2, ha2, hd2, hb2⟩
  obtain ⟨gb, cap, gr, cr, rfl, q0, ⟨q1, q2⟩, q3, q4⟩ := times_cells ha2 (smp_T hd2 hb2)
  have HN2 := Lib.hid (HN1.out.trans n2)
  have HQ : Hid (w2.cell? ⟨gb, 0, none⟩ = some (.slice (some ⟨gr, 0, none⟩) 2 cr) ∧ (w2.cell? ⟨gr, 0, none⟩ = some (.int .i64 90) ∧ w2.cell? ⟨gr, 1, none⟩ = some (.int .i64 100)) ∧ w2.cell? ⟨gr, 2, none⟩ = some (.int .i64 150) ∧ w2.cell? ⟨gr, 3, none⟩ = some (.int .i64 161)) := Lib.hid ⟨q0, ⟨q1, q2⟩, q3, q4⟩
  clear n2 ha2 hd2 hb2 q0 q1 q2 q3 q4
  go_wp2_with fail
  refine (HPT.out _).mono ?_
  rintro e w3 ⟨A3, D3, rfl, n3, hM3⟩
  have HN3 := Lib.hid (HN2.out.trans n3)
  have HN23 := Lib.hid n3
  have HM3 := Lib.hid hM3
  clear n3 hM3
  go_wp2_with fail
  refine (HOF.out _ _ _ HN3.out HM3.out).mono ?_
  rintro e w4 ⟨rfl, n4⟩
  have HN4 := Lib.hid (HN3.out.trans n4)
  have HN24 := Lib.hid (HN23.out.trans n4)
  clear n4
  go_wp2_with fail
  have hX := RowIs.new w4 55 [.int .i64 0, .int .i64 10]
  have k4 := (New.refl w4).alloc (.cells #[.int .i64 0, .int .i64 10] 55)
  refine (HPU.out _).mono ?_
  rintro e w5 ⟨A5, rfl, n5, hM5⟩
  have HX := Lib.hid (hX.keep n5)
  have HN5 := Lib.hid (HN4.out.trans (k4.trans n5))
  have HN25 := Lib.hid (HN24.out.trans (k4.trans n5))
  have HM5 := Lib.hid hM5
  clear hX k4 n5 hM5
  go_wp2_with fail
  have k5 := (New.refl w5).alloc (.cells #[.int .i64 0, .int .i64 0, .int .i64 1, .int .i64 1, .int .i64 0, .int .i64 0, .int .i64 1, .int .i64 0] 79)
  have hT := RowIs.new w5 79 [.int .i64 0, .int .i64 0, .int .i64 1, .int .i64 1, .int .i64 0, .int .i64 0, .int .i64 1, .int .i64 0]
  refine (HAC.out _ _ _ (HN5.out.trans k5) (HM5.out.keep k5) (smp_tis hT).1 (smp_tis hT).2).mono ?_
  rintro e w6 ⟨V6, rfl, n6, ho6⟩
  obtain ⟨gv, cv, rfl, -, -, hv⟩ := owns_at ho6 (by omega)
  have HV := Lib.hid (And.intro ((hv 0 (by omega)).1) ((hv 1 (by omega)).1))
  have HN6 := Lib.hid (HN5.out.trans (k5.trans n6))
  have HN26 := Lib.hid (HN25.out.trans (k5.trans n6))
  have HX6 := Lib.hid (HX.out.keep (k5.trans n6))
  clear k5 hT n6 ho6 hv HX
  go_wp2_with fail
  refine (HPU.out _).mono ?_
  rintro e w7 ⟨A7, rfl, n7, hM7⟩
  have HN7 := Lib.hid (HN6.out.trans n7)
  have HN67 := Lib.hid n7
  have HM7 := Lib.hid hM7
  clear n7 hM7
  go_wp2_with fail
  refine (HBF.out _ _ HN7.out HM7.out).mono ?_
  rintro e w8 ⟨rfl, n8⟩
  have HN8 := Lib.hid (HN7.out.trans n8)
  have HN68 := Lib.hid (HN67.out.trans n8)
  have n28 := HN26.out.trans HN68.out
  obtain ⟨q0, ⟨q1, q2⟩, q3, q4⟩ := HQ.out
  have p0 := n28.cellOf q0
  have p1 := n28.cellOf q1
  have p2 := n28.cellOf q2
  have p3 := n28.cellOf q3
  have p4 := n28.cellOf q4
  have x0 := (HX6.out.keep HN68.out).cell (i := 0) rfl
  have x1 := (HX6.out.keep HN68.out).cell (i := 1) rfl
  have v0 := HN68.out.cellOf HV.out.1
  have v1 := HN68.out.cellOf HV.out.2
  clear q0 q1 q2 q3 q4 n28 n8
  go_wp2_with fail
  go_ret
  exact ⟨rfl, HN8.out⟩
end Go.Proofs.YtodmbcoobjcooaaDoor
