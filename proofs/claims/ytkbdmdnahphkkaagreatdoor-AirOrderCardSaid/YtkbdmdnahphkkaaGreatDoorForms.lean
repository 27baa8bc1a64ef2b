/-
  The four forms of a call sign: what each of the program's functions for them answers. No condition but that the words are in memory.
-/
import Derived.Test.YtkbdmdnahphkkaaGreatDoorReads
import Derived.Test.YtkbdmdnahphkkaaGreatDoorRegion
namespace Go.Proofs.YtkbdmdnahphkkaaGreatDoor
open Go.RowKit
open Go.Sort
theorem lt_of_cell {w : World} {b i : Nat} {v : Value} (h : w.cell? ⟨b, i, none⟩ = some v) : b < w.heap.size := World.block_lt_of_cell? w _ h
theorem cell_alloc {w : World} {b i : Nat} {v : Value} (h : w.cell? ⟨b, i, none⟩ = some v) (o : Obj) : (w.alloc o).cell? ⟨b, i, none⟩ = some v :=
  (World.cell?_alloc_lt w o ⟨b, i, none⟩ (World.block_lt_of_cell? w _ h)).trans h
theorem New.cellOf {w w' : World} (h : New w w') {b i : Nat} {v : Value} (hc : w.cell? ⟨b, i, none⟩ = some v) : w'.cell? ⟨b, i, none⟩ = some v := (h.cell (p := ⟨b, i, none⟩) (lt_of_cell hc)).trans hc
theorem frozen_regrown {w : World} {b i : Nat} {x : Bool} (hb : b < w.heap.size) (h : w.frozen? ⟨b, i, none⟩ = x) (d : Nat) (os : Array Obj) : (grow (redrawn w d) os).frozen? ⟨b, i, none⟩ = x := by
  rw [(below_regrown w d os).frozen (p := ⟨b, i, none⟩) hb]; exact h
/-- The four cells behind the store. -/
theorem wSet_cells {w : World} {r : Nat} {a p q t : ByteArray} (h : PartsIn w r a p q t) (v0 v1 v2 v3 : Value) :
    (wSet w r v0 v1 v2 v3 true).cell? ⟨r, 0, none⟩ = some v0 ∧ (wSet w r v0 v1 v2 v3 true).cell? ⟨r, 1, none⟩ = some v1 ∧ (wSet w r v0 v1 v2 v3 true).cell? ⟨r, 2, none⟩ = some v2 ∧ (wSet w r v0 v1 v2 v3 true).cell? ⟨r, 3, none⟩ = some v3 := by
  unfold PartsIn at h
  have e : (wSet w r v0 v1 v2 v3 true).heap[r]? = some (.cells #[v0, v1, v2, v3] 45 (0, 0)) := by
    simp [wSet, World.setCell, Array.getElem?_modify, h]
  refine ⟨?_, ?_, ?_, ?_⟩
  · rw [cell_of_row _ r 0 _ _ _ e]; rfl
  · rw [cell_of_row _ r 1 _ _ _ e]; rfl
  · rw [cell_of_row _ r 2 _ _ _ e]; rfl
  · rw [cell_of_row _ r 3 _ _ _ e]; rfl
theorem after_store {w wa w3 : World} {r : Nat} {a p q t : ByteArray} {v0 v1 v2 v3 : Value} (h0 : New w wa) (hr : w.heap.size ≤ r) (hp : PartsIn wa r a p q t)
    (h3 : Below (wSet wa r v0 v1 v2 v3 true).heap.size (wSet wa r v0 v1 v2 v3 true) w3) :
    New w w3 ∧ w3.cell? ⟨r, 0, none⟩ = some v0 ∧ w3.cell? ⟨r, 1, none⟩ = some v1 ∧ w3.cell? ⟨r, 2, none⟩ = some v2 ∧ w3.cell? ⟨r, 3, none⟩ = some v3 := by
  obtain ⟨c0, c1, c2, c3⟩ := wSet_cells hp v0 v1 v2 v3
  have hn : New (wSet wa r v0 v1 v2 v3 true) w3 := h3
  have hw : New w (wSet wa r v0 v1 v2 v3 true) := (((h0.setCell hr _).setCell hr _).setCell hr _).setCell hr _
  exact ⟨hw.trans hn, hn.cellOf c0, hn.cellOf c1, hn.cellOf c2, hn.cellOf c3⟩
/-- The store of a value of four cells into the result's block, run in any world of the family before. -/
theorem store_facts {wa : World} {r : Nat} {a p q t : ByteArray} (h : PartsIn wa r a p q t) :
    (∀ d os, (grow (redrawn wa d) os).cell? ⟨r, 0, none⟩ = some (.string a)) ∧ (∀ d os, (grow (redrawn wa d) os).cell? ⟨r, 1, none⟩ = some (.string p)) ∧ (∀ d os, (grow (redrawn wa d) os).cell? ⟨r, 2, none⟩ = some (.string q)) ∧ (∀ d os, (grow (redrawn wa d) os).cell? ⟨r, 3, none⟩ = some (.string t)) ∧
    (∀ i d os, (grow (redrawn wa d) os).frozen? ⟨r, i, none⟩ = false) := by
  obtain ⟨r0, r1, r2, r3, f0, f1, f2, f3⟩ := h.all
  refine ⟨cell_regrown r0, cell_regrown r1, cell_regrown r2, cell_regrown r3, fun i d os => ?_⟩
  rw [(below_regrown wa d os).frozen (p := ⟨r, i, none⟩) h.lt]
  unfold PartsIn at h
  simp [World.frozen?, h]
set_option maxHeartbeats 1000000 in
theorem forms1 (b c : Nat) (x : ByteArray) (w : World) (hx : w.cell? ⟨b, 0, none⟩ = some (.string x)) (hs : x.size ≤ 9223372036854775807) :
    Calls Tryz.prog 73 #[.slice (some ⟨b, 0, none⟩) 1 c] w fun e w' => e = .returned (.tuple #[partsV [] ((bs x).take (cutB (bs x))) ((bs x).drop (cutB (bs x))) [], .bool (baseB (bs x))]) ∧ New w w' := by
  have hx1 := cell_alloc hx
  go_enter Tryz.func73, Tryz.ntmps73
  go_wp2_with fail
  refine (air_readBase x _ hs).mono ?_
  rintro e w1 ⟨rfl, h1⟩
  unfold partsV
  have hP := ((PartsIn.new w ⟨#[]⟩ ⟨#[]⟩ ⟨#[]⟩ ⟨#[]⟩).keep h1).all
  obtain ⟨r0, r1, r2, r3, f0, f1, f2, f3⟩ := hP
  go_wp2
  refine bodyPost_ret (v := .tuple #[partsV [] ((bs x).take (cutB (bs x))) ((bs x).drop (cutB (bs x))) [], .bool (baseB (bs x))]) (by simp [partsV, results, Tryz.results73, go_sem, r0, r1, r2, r3]) rfl ⟨rfl, ?_⟩
  exact ((((((New.refl w).alloc _).trans h1).setCell (Nat.le_refl _) _).setCell (Nat.le_refl _) _).setCell (Nat.le_refl _) _).setCell (Nat.le_refl _) _
theorem partsV_eq (a p q r : Bytes) : partsV a p q r = .agg #[.string (B a), .string (B p), .string (B q), .string (B r)] := rfl
set_option maxHeartbeats 2000000 in
theorem forms2 (b c : Nat) (x y : ByteArray) (w : World) (hx : w.cell? ⟨b, 0, none⟩ = some (.string x)) (hy : w.cell? ⟨b, 1, none⟩ = some (.string y)) (hs : x.size ≤ 9223372036854775807) (hs2 : y.size ≤ 9223372036854775807) :
    Calls Tryz.prog 75 #[.slice (some ⟨b, 0, none⟩) 2 c] w fun e w' => e = .returned (.tuple #[partsV (bs x) ((bs y).take (cutB (bs y))) ((bs y).drop (cutB (bs y))) [], .bool (baseB (bs y) && areaB (bs x) && decide ((bs x).length < (bs y).length))]) ∧ New w w' := by
  have hbw := lt_of_cell hx
  have hx1 := cell_alloc hx
  have hy1 := cell_alloc hy
  have hsx := bs_size x
  have hsy := bs_size y
  go_enter Tryz.func75, Tryz.ntmps75
  go_wp2_with fail
  refine (air_readBase y _ hs2).mono ?_
  rintro e w1 ⟨rfl, h1⟩
  have hPV : Hid (partsV (bs x) ((bs y).take (cutB (bs y))) ((bs y).drop (cutB (bs y))) [] = .agg #[.string x, .string (B ((bs y).take (cutB (bs y)))), .string (B ((bs y).drop (cutB (bs y)))), .string (B [])]) := by unfold partsV; rw [B_bs]; rfl
  unfold partsV
  generalize B ((bs y).take (cutB (bs y))) = p at *
  generalize B ((bs y).drop (cutB (bs y))) = q at *
  have P0 := (PartsIn.new w ⟨#[]⟩ ⟨#[]⟩ ⟨#[]⟩ ⟨#[]⟩).keep h1
  have n1 : New w w1 := ((New.refl w).alloc _).trans h1
  have x0 := n1.cellOf hx
  have x1 := n1.cellOf hy
  have x0' := cell_alloc x0
  have x1' := cell_alloc x1
  have hr1 : w.heap.size ≠ w1.heap.size := Nat.ne_of_lt P0.lt
  have hrb : w.heap.size ≠ b := by omega
  have H1 := Lib.hid (PartsIn.new w1 x p q (B []))
  have H2 := Lib.hid (P0.keep ((New.refl w1).alloc (.cells #[.string x, .string p, .string q, .string (B [])] 45)))
  have HX := Lib.hid (x0' (.cells #[.string x, .string p, .string q, .string (B [])] 45))
  have HY := Lib.hid (x1' (.cells #[.string x, .string p, .string q, .string (B [])] 45))
  have HN := Lib.hid (n1.alloc (.cells #[.string x, .string p, .string q, .string (B [])] 45))
  clear P0
  have cA := Lib.hid (fun w => air_isArea x w hs)
  have hcase : Hid (baseB (bs y) = false) ∨ Hid (baseB (bs y) = true ∧ areaB (bs x) = false) ∨ (Hid (baseB (bs y) = true ∧ areaB (bs x) = true) ∧ ((x.size : Int) < (y.size : Int))) ∨ (Hid (baseB (bs y) = true ∧ areaB (bs x) = true) ∧ ¬ ((x.size : Int) < (y.size : Int))) := by
    unfold Hid
    cases baseB (bs y) <;> cases areaB (bs x) <;> simp <;> omega
  rcases hcase with hb | hb | ⟨hb, hlt⟩ | ⟨hb, hlt⟩
  · have HR : Hid ((baseB (bs y) && areaB (bs x) && decide ((bs x).length < (bs y).length)) = false) := by rw [hb.out]; rfl
    rw [hb.out]
    go_wp2_with fail
    clear x0 x1 x0' x1' hx hy hx1 hy1
    generalize w1.alloc (.cells #[.string x, .string p, .string q, .string (B [])] 45) = wa at *
    obtain ⟨g0, g1, g2, g3, -, -, -, -⟩ := H1.out.all
    have k0 := both_cell (v0 := .string x) (v1 := .string p) (v2 := .string q) (v3 := .string (B [])) g0 hr1
    have k1 := both_cell (v0 := .string x) (v1 := .string p) (v2 := .string q) (v3 := .string (B [])) g1 hr1
    have k2 := both_cell (v0 := .string x) (v1 := .string p) (v2 := .string q) (v3 := .string (B [])) g2 hr1
    have k3 := both_cell (v0 := .string x) (v1 := .string p) (v2 := .string q) (v3 := .string (B [])) g3 hr1
    have kx := both_cell (v0 := .string x) (v1 := .string p) (v2 := .string q) (v3 := .string (B [])) HX.out hrb
    have ky := both_cell (v0 := .string x) (v1 := .string p) (v2 := .string q) (v3 := .string (B [])) HY.out hrb
    clear g0 g1 g2 g3
    refine wp_region_store 19 (wSet wa w.heap.size (.string x) (.string p) (.string q) (.string (B []))) rfl (by kernel_rfl) (by kernel_rfl) ?_
    repeat (first
      | (refine wpBoth_plain ?_ ?_ (fun K hK => ?_); rfl; rfl; go_simp; first | (refine hK _ ?_; clear hK K) | (apply Exists.intro; refine ⟨⟨fun d os => ?_, fun d os => ?_⟩, hK _ ?_⟩; exact regrown_new (cA.out _); exact regrown_new (cA.out _); clear hK K))
      | (refine wpBoth_skip ?_ ?_ ?_; rfl; (focus (simp [Region.wanted, yielded]; done)); simp only [Act.put, List.setIfInBounds_toArray, List.set_cons_zero, List.set_cons_succ])
      | (refine wpBoth_want ?_ ?_ (fun K hK => ?_); rfl; (focus (simp [Region.wanted, yielded]; done)); go_simp; first | (refine hK _ ?_; clear hK K) | (apply Exists.intro; refine ⟨⟨fun d os => ?_, fun d os => ?_⟩, hK _ ?_⟩; exact regrown_new (cA.out _); exact regrown_new (cA.out _); clear hK K)))
    clear k0 k1 k2 k3 kx ky
    obtain ⟨q0, q1, q2, q3, qf⟩ := store_facts H2.out
    refine wpBoth_at ?_ ?_ (fun d os => ?_) ?_
    · rfl
    · rfl
    ·
      rw [← set4_regrown _ _ _ _ H2.out.lt]
      show (execOp _ _).run _ (grow (redrawn wa d) os) = _
      go_simp
    clear q0 q1 q2 q3 qf
    repeat (refine wpBoth_plain ?_ ?_ (fun K hK => ?_); rfl; rfl; go_simp; refine hK _ ?_; clear hK K)
    refine wpBoth_nil ?_
    intro w3 h3
    obtain ⟨n3, c0, c1, c2, c3⟩ := after_store HN.out (Nat.le_refl _) H2.out h3
    go_wp2
    refine bodyPost_ret (v := .tuple #[.agg #[.string x, .string p, .string q, .string (B [])], .bool (baseB (bs y) && areaB (bs x) && decide ((bs x).length < (bs y).length))]) (by rw [HR.out]; first | (simp [results, Tryz.results75, go_sem, c0, c1, c2, c3]; done) | (simp [results, Tryz.results75, go_sem, c0, c1, c2, c3]; omega)) rfl ⟨by rw [hPV.out], n3⟩
  · have HR : Hid ((baseB (bs y) && areaB (bs x) && decide ((bs x).length < (bs y).length)) = false) := by rw [hb.out.1, hb.out.2]; rfl
    rw [hb.out.1]
    rw [hb.out.2] at cA
    go_wp2_with fail
    clear x0 x1 x0' x1' hx hy hx1 hy1
    generalize w1.alloc (.cells #[.string x, .string p, .string q, .string (B [])] 45) = wa at *
    obtain ⟨g0, g1, g2, g3, -, -, -, -⟩ := H1.out.all
    have k0 := both_cell (v0 := .string x) (v1 := .string p) (v2 := .string q) (v3 := .string (B [])) g0 hr1
    have k1 := both_cell (v0 := .string x) (v1 := .string p) (v2 := .string q) (v3 := .string (B [])) g1 hr1
    have k2 := both_cell (v0 := .string x) (v1 := .string p) (v2 := .string q) (v3 := .string (B [])) g2 hr1
    have k3 := both_cell (v0 := .string x) (v1 := .string p) (v2 := .string q) (v3 := .string (B [])) g3 hr1
    have kx := both_cell (v0 := .string x) (v1 := .string p) (v2 := .string q) (v3 := .string (B [])) HX.out hrb
    have ky := both_cell (v0 := .string x) (v1 := .string p) (v2 := .string q) (v3 := .string (B [])) HY.out hrb
    clear g0 g1 g2 g3
    refine wp_region_store 19 (wSet wa w.heap.size (.string x) (.string p) (.string q) (.string (B []))) rfl (by kernel_rfl) (by kernel_rfl) ?_
    repeat (first
      | (refine wpBoth_plain ?_ ?_ (fun K hK => ?_); rfl; rfl; go_simp; first | (refine hK _ ?_; clear hK K) | (apply Exists.intro; refine ⟨⟨fun d os => ?_, fun d os => ?_⟩, hK _ ?_⟩; exact regrown_new (cA.out _); exact regrown_new (cA.out _); clear hK K))
      | (refine wpBoth_skip ?_ ?_ ?_; rfl; (focus (simp [Region.wanted, yielded]; done)); simp only [Act.put, List.setIfInBounds_toArray, List.set_cons_zero, List.set_cons_succ])
      | (refine wpBoth_want ?_ ?_ (fun K hK => ?_); rfl; (focus (simp [Region.wanted, yielded]; done)); go_simp; first | (refine hK _ ?_; clear hK K) | (apply Exists.intro; refine ⟨⟨fun d os => ?_, fun d os => ?_⟩, hK _ ?_⟩; exact regrown_new (cA.out _); exact regrown_new (cA.out _); clear hK K)))
    clear k0 k1 k2 k3 kx ky
    obtain ⟨q0, q1, q2, q3, qf⟩ := store_facts H2.out
    refine wpBoth_at ?_ ?_ (fun d os => ?_) ?_
    · rfl
    · rfl
    ·
      rw [← set4_regrown _ _ _ _ H2.out.lt]
      show (execOp _ _).run _ (grow (redrawn wa d) os) = _
      go_simp
    clear q0 q1 q2 q3 qf
    repeat (refine wpBoth_plain ?_ ?_ (fun K hK => ?_); rfl; rfl; go_simp; refine hK _ ?_; clear hK K)
    refine wpBoth_nil ?_
    intro w3 h3
    obtain ⟨n3, c0, c1, c2, c3⟩ := after_store HN.out (Nat.le_refl _) H2.out h3
    go_wp2
    refine bodyPost_ret (v := .tuple #[.agg #[.string x, .string p, .string q, .string (B [])], .bool (baseB (bs y) && areaB (bs x) && decide ((bs x).length < (bs y).length))]) (by rw [HR.out]; first | (simp [results, Tryz.results75, go_sem, c0, c1, c2, c3]; done) | (simp [results, Tryz.results75, go_sem, c0, c1, c2, c3]; omega)) rfl ⟨by rw [hPV.out], n3⟩
  · have HR : Hid ((baseB (bs y) && areaB (bs x) && decide ((bs x).length < (bs y).length)) = true) := by rw [hb.out.1, hb.out.2, decide_eq_true (by omega)]; rfl
    rw [hb.out.1]
    rw [hb.out.2] at cA
    go_wp2_with fail
    clear x0 x1 x0' x1' hx hy hx1 hy1
    generalize w1.alloc (.cells #[.string x, .string p, .string q, .string (B [])] 45) = wa at *
    obtain ⟨g0, g1, g2, g3, -, -, -, -⟩ := H1.out.all
    have k0 := both_cell (v0 := .string x) (v1 := .string p) (v2 := .string q) (v3 := .string (B [])) g0 hr1
    have k1 := both_cell (v0 := .string x) (v1 := .string p) (v2 := .string q) (v3 := .string (B [])) g1 hr1
    have k2 := both_cell (v0 := .string x) (v1 := .string p) (v2 := .string q) (v3 := .string (B [])) g2 hr1
    have k3 := both_cell (v0 := .string x) (v1 := .string p) (v2 := .string q) (v3 := .string (B [])) g3 hr1
    have kx := both_cell (v0 := .string x) (v1 := .string p) (v2 := .string q) (v3 := .string (B [])) HX.out hrb
    have ky := both_cell (v0 := .string x) (v1 := .string p) (v2 := .string q) (v3 := .string (B [])) HY.out hrb
    clear g0 g1 g2 g3
    refine wp_region_store 19 (wSet wa w.heap.size (.string x) (.string p) (.string q) (.string (B []))) rfl (by kernel_rfl) (by kernel_rfl) ?_
    repeat (first
      | (refine wpBoth_plain ?_ ?_ (fun K hK => ?_); rfl; rfl; go_simp; first | (refine hK _ ?_; clear hK K) | (apply Exists.intro; refine ⟨⟨fun d os => ?_, fun d os => ?_⟩, hK _ ?_⟩; exact regrown_new (cA.out _); exact regrown_new (cA.out _); clear hK K))
      | (refine wpBoth_skip ?_ ?_ ?_; rfl; (focus (simp [Region.wanted, yielded]; done)); simp only [Act.put, List.setIfInBounds_toArray, List.set_cons_zero, List.set_cons_succ])
      | (refine wpBoth_want ?_ ?_ (fun K hK => ?_); rfl; (focus (simp [Region.wanted, yielded]; done)); go_simp; first | (refine hK _ ?_; clear hK K) | (apply Exists.intro; refine ⟨⟨fun d os => ?_, fun d os => ?_⟩, hK _ ?_⟩; exact regrown_new (cA.out _); exact regrown_new (cA.out _); clear hK K)))
    clear k0 k1 k2 k3 kx ky
    obtain ⟨q0, q1, q2, q3, qf⟩ := store_facts H2.out
    refine wpBoth_at ?_ ?_ (fun d os => ?_) ?_
    · rfl
    · rfl
    ·
      rw [← set4_regrown _ _ _ _ H2.out.lt]
      show (execOp _ _).run _ (grow (redrawn wa d) os) = _
      go_simp
    clear q0 q1 q2 q3 qf
    repeat (refine wpBoth_plain ?_ ?_ (fun K hK => ?_); rfl; rfl; go_simp; refine hK _ ?_; clear hK K)
    refine wpBoth_nil ?_
    intro w3 h3
    obtain ⟨n3, c0, c1, c2, c3⟩ := after_store HN.out (Nat.le_refl _) H2.out h3
    go_wp2
    refine bodyPost_ret (v := .tuple #[.agg #[.string x, .string p, .string q, .string (B [])], .bool (baseB (bs y) && areaB (bs x) && decide ((bs x).length < (bs y).length))]) (by rw [HR.out]; first | (simp [results, Tryz.results75, go_sem, c0, c1, c2, c3]; done) | (simp [results, Tryz.results75, go_sem, c0, c1, c2, c3]; omega)) rfl ⟨by rw [hPV.out], n3⟩
  · have HR : Hid ((baseB (bs y) && areaB (bs x) && decide ((bs x).length < (bs y).length)) = false) := by rw [hb.out.1, hb.out.2, decide_eq_false (by have := hlt; omega : ¬ (bs x).length < (bs y).length)]; rfl
    rw [hb.out.1]
    rw [hb.out.2] at cA
    go_wp2_with fail
    clear x0 x1 x0' x1' hx hy hx1 hy1
    generalize w1.alloc (.cells #[.string x, .string p, .string q, .string (B [])] 45) = wa at *
    obtain ⟨g0, g1, g2, g3, -, -, -, -⟩ := H1.out.all
    have k0 := both_cell (v0 := .string x) (v1 := .string p) (v2 := .string q) (v3 := .string (B [])) g0 hr1
    have k1 := both_cell (v0 := .string x) (v1 := .string p) (v2 := .string q) (v3 := .string (B [])) g1 hr1
    have k2 := both_cell (v0 := .string x) (v1 := .string p) (v2 := .string q) (v3 := .string (B [])) g2 hr1
    have k3 := both_cell (v0 := .string x) (v1 := .string p) (v2 := .string q) (v3 := .string (B [])) g3 hr1
    have kx := both_cell (v0 := .string x) (v1 := .string p) (v2 := .string q) (v3 := .string (B [])) HX.out hrb
    have ky := both_cell (v0 := .string x) (v1 := .string p) (v2 := .string q) (v3 := .string (B [])) HY.out hrb
    clear g0 g1 g2 g3
    refine wp_region_store 19 (wSet wa w.heap.size (.string x) (.string p) (.string q) (.string (B []))) rfl (by kernel_rfl) (by kernel_rfl) ?_
    repeat (first
      | (refine wpBoth_plain ?_ ?_ (fun K hK => ?_); rfl; rfl; go_simp; first | (refine hK _ ?_; clear hK K) | (apply Exists.intro; refine ⟨⟨fun d os => ?_, fun d os => ?_⟩, hK _ ?_⟩; exact regrown_new (cA.out _); exact regrown_new (cA.out _); clear hK K))
      | (refine wpBoth_skip ?_ ?_ ?_; rfl; (focus (simp [Region.wanted, yielded]; done)); simp only [Act.put, List.setIfInBounds_toArray, List.set_cons_zero, List.set_cons_succ])
      | (refine wpBoth_want ?_ ?_ (fun K hK => ?_); rfl; (focus (simp [Region.wanted, yielded]; done)); go_simp; first | (refine hK _ ?_; clear hK K) | (apply Exists.intro; refine ⟨⟨fun d os => ?_, fun d os => ?_⟩, hK _ ?_⟩; exact regrown_new (cA.out _); exact regrown_new (cA.out _); clear hK K)))
    clear k0 k1 k2 k3 kx ky
    obtain ⟨q0, q1, q2, q3, qf⟩ := store_facts H2.out
    refine wpBoth_at ?_ ?_ (fun d os => ?_) ?_
    · rfl
    · rfl
    ·
      rw [← set4_regrown _ _ _ _ H2.out.lt]
      show (execOp _ _).run _ (grow (redrawn wa d) os) = _
      go_simp
    clear q0 q1 q2 q3 qf
    repeat (refine wpBoth_plain ?_ ?_ (fun K hK => ?_); rfl; rfl; go_simp; refine hK _ ?_; clear hK K)
    refine wpBoth_nil ?_
    intro w3 h3
    obtain ⟨n3, c0, c1, c2, c3⟩ := after_store HN.out (Nat.le_refl _) H2.out h3
    go_wp2
    refine bodyPost_ret (v := .tuple #[.agg #[.string x, .string p, .string q, .string (B [])], .bool (baseB (bs y) && areaB (bs x) && decide ((bs x).length < (bs y).length))]) (by rw [HR.out]; first | (simp [results, Tryz.results75, go_sem, c0, c1, c2, c3]; done) | (simp [results, Tryz.results75, go_sem, c0, c1, c2, c3]; omega)) rfl ⟨by rw [hPV.out], n3⟩
set_option maxHeartbeats 2000000 in
theorem forms3 (b c : Nat) (x y : ByteArray) (w : World) (hx : w.cell? ⟨b, 0, none⟩ = some (.string x)) (hy : w.cell? ⟨b, 1, none⟩ = some (.string y)) (hs : x.size ≤ 9223372036854775807) (hs2 : y.size ≤ 9223372036854775807) :
    Calls Tryz.prog 77 #[.slice (some ⟨b, 0, none⟩) 2 c] w fun e w' => e = .returned (.tuple #[partsV [] ((bs x).take (cutB (bs x))) ((bs x).drop (cutB (bs x))) (bs y), .bool (baseB (bs x) && strokeB (bs y))]) ∧ New w w' := by
  have hbw := lt_of_cell hx
  have hx1 := cell_alloc hx
  have hy1 := cell_alloc hy
  have hsx := bs_size x
  have hsy := bs_size y
  go_enter Tryz.func77, Tryz.ntmps77
  go_wp2_with fail
  refine (air_readBase x _ hs).mono ?_
  rintro e w1 ⟨rfl, h1⟩
  have hPV : Hid (partsV [] ((bs x).take (cutB (bs x))) ((bs x).drop (cutB (bs x))) (bs y) = .agg #[.string (B []), .string (B ((bs x).take (cutB (bs x)))), .string (B ((bs x).drop (cutB (bs x)))), .string y]) := by unfold partsV; rw [B_bs]; rfl
  unfold partsV
  generalize B ((bs x).take (cutB (bs x))) = p at *
  generalize B ((bs x).drop (cutB (bs x))) = q at *
  have P0 := (PartsIn.new w ⟨#[]⟩ ⟨#[]⟩ ⟨#[]⟩ ⟨#[]⟩).keep h1
  have n1 : New w w1 := ((New.refl w).alloc _).trans h1
  have x0 := n1.cellOf hx
  have x1 := n1.cellOf hy
  have x0' := cell_alloc x0
  have x1' := cell_alloc x1
  have hr1 : w.heap.size ≠ w1.heap.size := Nat.ne_of_lt P0.lt
  have hrb : w.heap.size ≠ b := by omega
  have H1 := Lib.hid (PartsIn.new w1 (B []) p q y)
  have H2 := Lib.hid (P0.keep ((New.refl w1).alloc (.cells #[.string (B []), .string p, .string q, .string y] 45)))
  have HX := Lib.hid (x0' (.cells #[.string (B []), .string p, .string q, .string y] 45))
  have HY := Lib.hid (x1' (.cells #[.string (B []), .string p, .string q, .string y] 45))
  have HN := Lib.hid (n1.alloc (.cells #[.string (B []), .string p, .string q, .string y] 45))
  clear P0
  have cA := Lib.hid (fun w => air_isStroke y w hs2)
  have hcase : Hid (baseB (bs x) = false) ∨ Hid (baseB (bs x) = true ∧ strokeB (bs y) = false) ∨ Hid (baseB (bs x) = true ∧ strokeB (bs y) = true) := by
    unfold Hid
    cases baseB (bs x) <;> cases strokeB (bs y) <;> simp
  rcases hcase with hb | hb | hb
  · have HR : Hid ((baseB (bs x) && strokeB (bs y)) = false) := by rw [hb.out]; rfl
    rw [hb.out]
    go_wp2_with fail
    clear x0 x1 x0' x1' hx hy hx1 hy1
    generalize w1.alloc (.cells #[.string (B []), .string p, .string q, .string y] 45) = wa at *
    obtain ⟨g0, g1, g2, g3, -, -, -, -⟩ := H1.out.all
    have k0 := both_cell (v0 := .string (B [])) (v1 := .string p) (v2 := .string q) (v3 := .string y) g0 hr1
    have k1 := both_cell (v0 := .string (B [])) (v1 := .string p) (v2 := .string q) (v3 := .string y) g1 hr1
    have k2 := both_cell (v0 := .string (B [])) (v1 := .string p) (v2 := .string q) (v3 := .string y) g2 hr1
    have k3 := both_cell (v0 := .string (B [])) (v1 := .string p) (v2 := .string q) (v3 := .string y) g3 hr1
    have kx := both_cell (v0 := .string (B [])) (v1 := .string p) (v2 := .string q) (v3 := .string y) HX.out hrb
    have ky := both_cell (v0 := .string (B [])) (v1 := .string p) (v2 := .string q) (v3 := .string y) HY.out hrb
    clear g0 g1 g2 g3
    refine wp_region_store 8 (wSet wa w.heap.size (.string (B [])) (.string p) (.string q) (.string y)) rfl (by kernel_rfl) (by kernel_rfl) ?_
    repeat (first
      | (refine wpBoth_plain ?_ ?_ (fun K hK => ?_); rfl; rfl; go_simp; first | (refine hK _ ?_; clear hK K) | (apply Exists.intro; refine ⟨⟨fun d os => ?_, fun d os => ?_⟩, hK _ ?_⟩; exact regrown_new (cA.out _); exact regrown_new (cA.out _); clear hK K))
      | (refine wpBoth_skip ?_ ?_ ?_; rfl; (focus (simp [Region.wanted, yielded]; done)); simp only [Act.put, List.setIfInBounds_toArray, List.set_cons_zero, List.set_cons_succ])
      | (refine wpBoth_want ?_ ?_ (fun K hK => ?_); rfl; (focus (simp [Region.wanted, yielded]; done)); go_simp; first | (refine hK _ ?_; clear hK K) | (apply Exists.intro; refine ⟨⟨fun d os => ?_, fun d os => ?_⟩, hK _ ?_⟩; exact regrown_new (cA.out _); exact regrown_new (cA.out _); clear hK K)))
    clear k0 k1 k2 k3 kx ky
    obtain ⟨q0, q1, q2, q3, qf⟩ := store_facts H2.out
    refine wpBoth_at ?_ ?_ (fun d os => ?_) ?_
    · rfl
    · rfl
    ·
      rw [← set4_regrown _ _ _ _ H2.out.lt]
      show (execOp _ _).run _ (grow (redrawn wa d) os) = _
      go_simp
    clear q0 q1 q2 q3 qf
    repeat (refine wpBoth_plain ?_ ?_ (fun K hK => ?_); rfl; rfl; go_simp; refine hK _ ?_; clear hK K)
    refine wpBoth_nil ?_
    intro w3 h3
    obtain ⟨n3, c0, c1, c2, c3⟩ := after_store HN.out (Nat.le_refl _) H2.out h3
    go_wp2
    refine bodyPost_ret (v := .tuple #[.agg #[.string (B []), .string p, .string q, .string y], .bool (baseB (bs x) && strokeB (bs y))]) (by rw [HR.out]; simp [results, Tryz.results77, go_sem, c0, c1, c2, c3]) rfl ⟨by rw [hPV.out], n3⟩
  · have HR : Hid ((baseB (bs x) && strokeB (bs y)) = false) := by rw [hb.out.1, hb.out.2]; rfl
    rw [hb.out.1]
    rw [hb.out.2] at cA
    go_wp2_with fail
    clear x0 x1 x0' x1' hx hy hx1 hy1
    generalize w1.alloc (.cells #[.string (B []), .string p, .string q, .string y] 45) = wa at *
    obtain ⟨g0, g1, g2, g3, -, -, -, -⟩ := H1.out.all
    have k0 := both_cell (v0 := .string (B [])) (v1 := .string p) (v2 := .string q) (v3 := .string y) g0 hr1
    have k1 := both_cell (v0 := .string (B [])) (v1 := .string p) (v2 := .string q) (v3 := .string y) g1 hr1
    have k2 := both_cell (v0 := .string (B [])) (v1 := .string p) (v2 := .string q) (v3 := .string y) g2 hr1
    have k3 := both_cell (v0 := .string (B [])) (v1 := .string p) (v2 := .string q) (v3 := .string y) g3 hr1
    have kx := both_cell (v0 := .string (B [])) (v1 := .string p) (v2 := .string q) (v3 := .string y) HX.out hrb
    have ky := both_cell (v0 := .string (B [])) (v1 := .string p) (v2 := .string q) (v3 := .string y) HY.out hrb
    clear g0 g1 g2 g3
    refine wp_region_store 8 (wSet wa w.heap.size (.string (B [])) (.string p) (.string q) (.string y)) rfl (by kernel_rfl) (by kernel_rfl) ?_
    repeat (first
      | (refine wpBoth_plain ?_ ?_ (fun K hK => ?_); rfl; rfl; go_simp; first | (refine hK _ ?_; clear hK K) | (apply Exists.intro; refine ⟨⟨fun d os => ?_, fun d os => ?_⟩, hK _ ?_⟩; exact regrown_new (cA.out _); exact regrown_new (cA.out _); clear hK K))
      | (refine wpBoth_skip ?_ ?_ ?_; rfl; (focus (simp [Region.wanted, yielded]; done)); simp only [Act.put, List.setIfInBounds_toArray, List.set_cons_zero, List.set_cons_succ])
      | (refine wpBoth_want ?_ ?_ (fun K hK => ?_); rfl; (focus (simp [Region.wanted, yielded]; done)); go_simp; first | (refine hK _ ?_; clear hK K) | (apply Exists.intro; refine ⟨⟨fun d os => ?_, fun d os => ?_⟩, hK _ ?_⟩; exact regrown_new (cA.out _); exact regrown_new (cA.out _); clear hK K)))
    clear k0 k1 k2 k3 kx ky
    obtain ⟨q0, q1, q2, q3, qf⟩ := store_facts H2.out
    refine wpBoth_at ?_ ?_ (fun d os => ?_) ?_
    · rfl
    · rfl
    ·
      rw [← set4_regrown _ _ _ _ H2.out.lt]
      show (execOp _ _).run _ (grow (redrawn wa d) os) = _
      go_simp
    clear q0 q1 q2 q3 qf
    repeat (refine wpBoth_plain ?_ ?_ (fun K hK => ?_); rfl; rfl; go_simp; refine hK _ ?_; clear hK K)
    refine wpBoth_nil ?_
    intro w3 h3
    obtain ⟨n3, c0, c1, c2, c3⟩ := after_store HN.out (Nat.le_refl _) H2.out h3
    go_wp2
    refine bodyPost_ret (v := .tuple #[.agg #[.string (B []), .string p, .string q, .string y], .bool (baseB (bs x) && strokeB (bs y))]) (by rw [HR.out]; simp [results, Tryz.results77, go_sem, c0, c1, c2, c3]) rfl ⟨by rw [hPV.out], n3⟩
  · have HR : Hid ((baseB (bs x) && strokeB (bs y)) = true) := by rw [hb.out.1, hb.out.2]; rfl
    rw [hb.out.1]
    rw [hb.out.2] at cA
    go_wp2_with fail
    clear x0 x1 x0' x1' hx hy hx1 hy1
    generalize w1.alloc (.cells #[.string (B []), .string p, .string q, .string y] 45) = wa at *
    obtain ⟨g0, g1, g2, g3, -, -, -, -⟩ := H1.out.all
    have k0 := both_cell (v0 := .string (B [])) (v1 := .string p) (v2 := .string q) (v3 := .string y) g0 hr1
    have k1 := both_cell (v0 := .string (B [])) (v1 := .string p) (v2 := .string q) (v3 := .string y) g1 hr1
    have k2 := both_cell (v0 := .string (B [])) (v1 := .string p) (v2 := .string q) (v3 := .string y) g2 hr1
    have k3 := both_cell (v0 := .string (B [])) (v1 := .string p) (v2 := .string q) (v3 := .string y) g3 hr1
    have kx := both_cell (v0 := .string (B [])) (v1 := .string p) (v2 := .string q) (v3 := .string y) HX.out hrb
    have ky := both_cell (v0 := .string (B [])) (v1 := .string p) (v2 := .string q) (v3 := .string y) HY.out hrb
    clear g0 g1 g2 g3
    refine wp_region_store 8 (wSet wa w.heap.size (.string (B [])) (.string p) (.string q) (.string y)) rfl (by kernel_rfl) (by kernel_rfl) ?_
    repeat (first
      | (refine wpBoth_plain ?_ ?_ (fun K hK => ?_); rfl; rfl; go_simp; first | (refine hK _ ?_; clear hK K) | (apply Exists.intro; refine ⟨⟨fun d os => ?_, fun d os => ?_⟩, hK _ ?_⟩; exact regrown_new (cA.out _); exact regrown_new (cA.out _); clear hK K))
      | (refine wpBoth_skip ?_ ?_ ?_; rfl; (focus (simp [Region.wanted, yielded]; done)); simp only [Act.put, List.setIfInBounds_toArray, List.set_cons_zero, List.set_cons_succ])
      | (refine wpBoth_want ?_ ?_ (fun K hK => ?_); rfl; (focus (simp [Region.wanted, yielded]; done)); go_simp; first | (refine hK _ ?_; clear hK K) | (apply Exists.intro; refine ⟨⟨fun d os => ?_, fun d os => ?_⟩, hK _ ?_⟩; exact regrown_new (cA.out _); exact regrown_new (cA.out _); clear hK K)))
    clear k0 k1 k2 k3 kx ky
    obtain ⟨q0, q1, q2, q3, qf⟩ := store_facts H2.out
    refine wpBoth_at ?_ ?_ (fun d os => ?_) ?_
    · rfl
    · rfl
    ·
      rw [← set4_regrown _ _ _ _ H2.out.lt]
      show (execOp _ _).run _ (grow (redrawn wa d) os) = _
      go_simp
    clear q0 q1 q2 q3 qf
    repeat (refine wpBoth_plain ?_ ?_ (fun K hK => ?_); rfl; rfl; go_simp; refine hK _ ?_; clear hK K)
    refine wpBoth_nil ?_
    intro w3 h3
    obtain ⟨n3, c0, c1, c2, c3⟩ := after_store HN.out (Nat.le_refl _) H2.out h3
    go_wp2
    refine bodyPost_ret (v := .tuple #[.agg #[.string (B []), .string p, .string q, .string y], .bool (baseB (bs x) && strokeB (bs y))]) (by rw [HR.out]; simp [results, Tryz.results77, go_sem, c0, c1, c2, c3]) rfl ⟨by rw [hPV.out], n3⟩
set_option maxHeartbeats 2000000 in
theorem forms4 (b c : Nat) (z x y : ByteArray) (w : World) (hz : w.cell? ⟨b, 0, none⟩ = some (.string z)) (hx : w.cell? ⟨b, 1, none⟩ = some (.string x)) (hy : w.cell? ⟨b, 2, none⟩ = some (.string y)) (hs0 : z.size ≤ 9223372036854775807) (hs : x.size ≤ 9223372036854775807) (hs2 : y.size ≤ 9223372036854775807) :
    Calls Tryz.prog 79 #[.slice (some ⟨b, 0, none⟩) 3 c] w fun e w' => e = .returned (.tuple #[partsV (bs z) ((bs x).take (cutB (bs x))) ((bs x).drop (cutB (bs x))) (bs y), .bool (baseB (bs x) && areaB (bs z) && strokeB (bs y))]) ∧ New w w' := by
  have hbw := lt_of_cell hx
  have hx1 := cell_alloc hx
  have hy1 := cell_alloc hy
  have hz1 := cell_alloc hz
  have hsx := bs_size x
  have hsy := bs_size y
  go_enter Tryz.func79, Tryz.ntmps79
  go_wp2_with fail
  refine (air_readBase x _ hs).mono ?_
  rintro e w1 ⟨rfl, h1⟩
  have hPV : Hid (partsV (bs z) ((bs x).take (cutB (bs x))) ((bs x).drop (cutB (bs x))) (bs y) = .agg #[.string z, .string (B ((bs x).take (cutB (bs x)))), .string (B ((bs x).drop (cutB (bs x)))), .string y]) := by unfold partsV; rw [B_bs, B_bs]; rfl
  unfold partsV
  generalize B ((bs x).take (cutB (bs x))) = p at *
  generalize B ((bs x).drop (cutB (bs x))) = q at *
  have P0 := (PartsIn.new w ⟨#[]⟩ ⟨#[]⟩ ⟨#[]⟩ ⟨#[]⟩).keep h1
  have n1 : New w w1 := ((New.refl w).alloc _).trans h1
  have x0 := n1.cellOf hx
  have x1 := n1.cellOf hy
  have x2 := n1.cellOf hz
  have x0' := cell_alloc x0
  have x1' := cell_alloc x1
  have x2' := cell_alloc x2
  have hr1 : w.heap.size ≠ w1.heap.size := Nat.ne_of_lt P0.lt
  have hrb : w.heap.size ≠ b := by omega
  have H1 : Hid (PartsIn (w1.alloc (.cells #[.string z, .string p, .string q, .string y] 45)).drew w1.heap.size z p q y) := PartsIn.new w1 z p q y
  have H2 : Hid (PartsIn (w1.alloc (.cells #[.string z, .string p, .string q, .string y] 45)).drew w.heap.size ⟨#[]⟩ ⟨#[]⟩ ⟨#[]⟩ ⟨#[]⟩) := P0.keep ((New.refl w1).alloc (.cells #[.string z, .string p, .string q, .string y] 45)).drew
  have HX : Hid ((w1.alloc (.cells #[.string z, .string p, .string q, .string y] 45)).drew.cell? ⟨b, 1, none⟩ = some (.string x)) := x0' (.cells #[.string z, .string p, .string q, .string y] 45)
  have HZ : Hid ((w1.alloc (.cells #[.string z, .string p, .string q, .string y] 45)).drew.cell? ⟨b, 0, none⟩ = some (.string z)) := x2' (.cells #[.string z, .string p, .string q, .string y] 45)
  have HY : Hid ((w1.alloc (.cells #[.string z, .string p, .string q, .string y] 45)).drew.cell? ⟨b, 2, none⟩ = some (.string y)) := x1' (.cells #[.string z, .string p, .string q, .string y] 45)
  have HN := Lib.hid (n1.alloc (.cells #[.string z, .string p, .string q, .string y] 45)).drew
  clear P0
  have cA := Lib.hid (fun w => air_isArea z w hs0)
  have cS := Lib.hid (fun w => air_isStroke y w hs2)
  have hcase : Hid (baseB (bs x) = false) ∨ Hid (baseB (bs x) = true ∧ areaB (bs z) = false) ∨ Hid (baseB (bs x) = true ∧ areaB (bs z) = true ∧ strokeB (bs y) = false) ∨ Hid (baseB (bs x) = true ∧ areaB (bs z) = true ∧ strokeB (bs y) = true) := by
    unfold Hid
    cases baseB (bs x) <;> cases strokeB (bs y) <;> cases areaB (bs z) <;> simp
  rcases hcase with hb | hb | hb | hb
  · have HR : Hid ((baseB (bs x) && areaB (bs z) && strokeB (bs y)) = false) := by rw [hb.out]; rfl
    rw [hb.out]
    go_wp2_with fail
    go_region
    go_wp2_with fail
    clear x0 x1 x2 x0' x1' x2' hx hy hz hx1 hy1 hz1
    generalize (w1.alloc (.cells #[.string z, .string p, .string q, .string y] 45)).drew = wa at *
    obtain ⟨g0, g1, g2, g3, -, -, -, -⟩ := H1.out.all
    have k0 := both_cell (v0 := .string z) (v1 := .string p) (v2 := .string q) (v3 := .string y) g0 hr1
    have k1 := both_cell (v0 := .string z) (v1 := .string p) (v2 := .string q) (v3 := .string y) g1 hr1
    have k2 := both_cell (v0 := .string z) (v1 := .string p) (v2 := .string q) (v3 := .string y) g2 hr1
    have k3 := both_cell (v0 := .string z) (v1 := .string p) (v2 := .string q) (v3 := .string y) g3 hr1
    have kx := both_cell (v0 := .string z) (v1 := .string p) (v2 := .string q) (v3 := .string y) HX.out hrb
    have ky := both_cell (v0 := .string z) (v1 := .string p) (v2 := .string q) (v3 := .string y) HY.out hrb
    have kz := both_cell (v0 := .string z) (v1 := .string p) (v2 := .string q) (v3 := .string y) HZ.out hrb
    clear g0 g1 g2 g3
    refine wp_region_store 14 (wSet wa w.heap.size (.string z) (.string p) (.string q) (.string y)) rfl (by kernel_rfl) (by kernel_rfl) ?_
    repeat (first
      | (refine wpBoth_plain ?_ ?_ (fun K hK => ?_); rfl; rfl; go_simp; first | (refine hK _ ?_; clear hK K) | (apply Exists.intro; refine ⟨⟨fun d os => ?_, fun d os => ?_⟩, hK _ ?_⟩; (first | exact regrown_new (cA.out _) | exact regrown_new (cS.out _)); (first | exact regrown_new (cA.out _) | exact regrown_new (cS.out _)); clear hK K))
      | (refine wpBoth_skip ?_ ?_ ?_; rfl; (focus (simp [Region.wanted, yielded]; done)); simp only [Act.put, List.setIfInBounds_toArray, List.set_cons_zero, List.set_cons_succ])
      | (refine wpBoth_want ?_ ?_ (fun K hK => ?_); rfl; (focus (simp [Region.wanted, yielded]; done)); go_simp; first | (refine hK _ ?_; clear hK K) | (apply Exists.intro; refine ⟨⟨fun d os => ?_, fun d os => ?_⟩, hK _ ?_⟩; (first | exact regrown_new (cA.out _) | exact regrown_new (cS.out _)); (first | exact regrown_new (cA.out _) | exact regrown_new (cS.out _)); clear hK K)))
    clear k0 k1 k2 k3 kx ky kz
    obtain ⟨q0, q1, q2, q3, qf⟩ := store_facts H2.out
    refine wpBoth_at ?_ ?_ (fun d os => ?_) ?_
    · rfl
    · rfl
    ·
      rw [← set4_regrown _ _ _ _ H2.out.lt]
      show (execOp _ _).run _ (grow (redrawn wa d) os) = _
      go_simp
    clear q0 q1 q2 q3 qf
    repeat (refine wpBoth_plain ?_ ?_ (fun K hK => ?_); rfl; rfl; go_simp; refine hK _ ?_; clear hK K)
    refine wpBoth_nil ?_
    intro w3 h3
    obtain ⟨n3, c0, c1, c2, c3⟩ := after_store HN.out (Nat.le_refl _) H2.out h3
    go_wp2
    refine bodyPost_ret (v := .tuple #[.agg #[.string z, .string p, .string q, .string y], .bool (baseB (bs x) && areaB (bs z) && strokeB (bs y))]) (by rw [HR.out]; simp [results, Tryz.results79, go_sem, c0, c1, c2, c3]) rfl ⟨by rw [hPV.out], n3⟩
  · have HR : Hid ((baseB (bs x) && areaB (bs z) && strokeB (bs y)) = false) := by rw [hb.out.1, hb.out.2]; rfl
    rw [hb.out.1]
    rw [hb.out.2] at cA
    go_wp2_with fail
    go_region
    go_wp2_with fail
    clear x0 x1 x2 x0' x1' x2' hx hy hz hx1 hy1 hz1
    generalize (w1.alloc (.cells #[.string z, .string p, .string q, .string y] 45)).drew = wa at *
    obtain ⟨g0, g1, g2, g3, -, -, -, -⟩ := H1.out.all
    have k0 := both_cell (v0 := .string z) (v1 := .string p) (v2 := .string q) (v3 := .string y) g0 hr1
    have k1 := both_cell (v0 := .string z) (v1 := .string p) (v2 := .string q) (v3 := .string y) g1 hr1
    have k2 := both_cell (v0 := .string z) (v1 := .string p) (v2 := .string q) (v3 := .string y) g2 hr1
    have k3 := both_cell (v0 := .string z) (v1 := .string p) (v2 := .string q) (v3 := .string y) g3 hr1
    have kx := both_cell (v0 := .string z) (v1 := .string p) (v2 := .string q) (v3 := .string y) HX.out hrb
    have ky := both_cell (v0 := .string z) (v1 := .string p) (v2 := .string q) (v3 := .string y) HY.out hrb
    have kz := both_cell (v0 := .string z) (v1 := .string p) (v2 := .string q) (v3 := .string y) HZ.out hrb
    clear g0 g1 g2 g3
    refine wp_region_store 14 (wSet wa w.heap.size (.string z) (.string p) (.string q) (.string y)) rfl (by kernel_rfl) (by kernel_rfl) ?_
    repeat (first
      | (refine wpBoth_plain ?_ ?_ (fun K hK => ?_); rfl; rfl; go_simp; first | (refine hK _ ?_; clear hK K) | (apply Exists.intro; refine ⟨⟨fun d os => ?_, fun d os => ?_⟩, hK _ ?_⟩; (first | exact regrown_new (cA.out _) | exact regrown_new (cS.out _)); (first | exact regrown_new (cA.out _) | exact regrown_new (cS.out _)); clear hK K))
      | (refine wpBoth_skip ?_ ?_ ?_; rfl; (focus (simp [Region.wanted, yielded]; done)); simp only [Act.put, List.setIfInBounds_toArray, List.set_cons_zero, List.set_cons_succ])
      | (refine wpBoth_want ?_ ?_ (fun K hK => ?_); rfl; (focus (simp [Region.wanted, yielded]; done)); go_simp; first | (refine hK _ ?_; clear hK K) | (apply Exists.intro; refine ⟨⟨fun d os => ?_, fun d os => ?_⟩, hK _ ?_⟩; (first | exact regrown_new (cA.out _) | exact regrown_new (cS.out _)); (first | exact regrown_new (cA.out _) | exact regrown_new (cS.out _)); clear hK K)))
    clear k0 k1 k2 k3 kx ky kz
    obtain ⟨q0, q1, q2, q3, qf⟩ := store_facts H2.out
    refine wpBoth_at ?_ ?_ (fun d os => ?_) ?_
    · rfl
    · rfl
    ·
      rw [← set4_regrown _ _ _ _ H2.out.lt]
      show (execOp _ _).run _ (grow (redrawn wa d) os) = _
      go_simp
    clear q0 q1 q2 q3 qf
    repeat (refine wpBoth_plain ?_ ?_ (fun K hK => ?_); rfl; rfl; go_simp; refine hK _ ?_; clear hK K)
    refine wpBoth_nil ?_
    intro w3 h3
    obtain ⟨n3, c0, c1, c2, c3⟩ := after_store HN.out (Nat.le_refl _) H2.out h3
    go_wp2
    refine bodyPost_ret (v := .tuple #[.agg #[.string z, .string p, .string q, .string y], .bool (baseB (bs x) && areaB (bs z) && strokeB (bs y))]) (by rw [HR.out]; simp [results, Tryz.results79, go_sem, c0, c1, c2, c3]) rfl ⟨by rw [hPV.out], n3⟩
  · have HR : Hid ((baseB (bs x) && areaB (bs z) && strokeB (bs y)) = false) := by rw [hb.out.1, hb.out.2.1, hb.out.2.2]; rfl
    rw [hb.out.1]
    rw [hb.out.2.1] at cA
    rw [hb.out.2.2] at cS
    go_wp2_with fail
    go_region
    go_wp2_with fail
    clear x0 x1 x2 x0' x1' x2' hx hy hz hx1 hy1 hz1
    generalize (w1.alloc (.cells #[.string z, .string p, .string q, .string y] 45)).drew = wa at *
    obtain ⟨g0, g1, g2, g3, -, -, -, -⟩ := H1.out.all
    have k0 := both_cell (v0 := .string z) (v1 := .string p) (v2 := .string q) (v3 := .string y) g0 hr1
    have k1 := both_cell (v0 := .string z) (v1 := .string p) (v2 := .string q) (v3 := .string y) g1 hr1
    have k2 := both_cell (v0 := .string z) (v1 := .string p) (v2 := .string q) (v3 := .string y) g2 hr1
    have k3 := both_cell (v0 := .string z) (v1 := .string p) (v2 := .string q) (v3 := .string y) g3 hr1
    have kx := both_cell (v0 := .string z) (v1 := .string p) (v2 := .string q) (v3 := .string y) HX.out hrb
    have ky := both_cell (v0 := .string z) (v1 := .string p) (v2 := .string q) (v3 := .string y) HY.out hrb
    have kz := both_cell (v0 := .string z) (v1 := .string p) (v2 := .string q) (v3 := .string y) HZ.out hrb
    clear g0 g1 g2 g3
    refine wp_region_store 14 (wSet wa w.heap.size (.string z) (.string p) (.string q) (.string y)) rfl (by kernel_rfl) (by kernel_rfl) ?_
    repeat (first
      | (refine wpBoth_plain ?_ ?_ (fun K hK => ?_); rfl; rfl; go_simp; first | (refine hK _ ?_; clear hK K) | (apply Exists.intro; refine ⟨⟨fun d os => ?_, fun d os => ?_⟩, hK _ ?_⟩; (first | exact regrown_new (cA.out _) | exact regrown_new (cS.out _)); (first | exact regrown_new (cA.out _) | exact regrown_new (cS.out _)); clear hK K))
      | (refine wpBoth_skip ?_ ?_ ?_; rfl; (focus (simp [Region.wanted, yielded]; done)); simp only [Act.put, List.setIfInBounds_toArray, List.set_cons_zero, List.set_cons_succ])
      | (refine wpBoth_want ?_ ?_ (fun K hK => ?_); rfl; (focus (simp [Region.wanted, yielded]; done)); go_simp; first | (refine hK _ ?_; clear hK K) | (apply Exists.intro; refine ⟨⟨fun d os => ?_, fun d os => ?_⟩, hK _ ?_⟩; (first | exact regrown_new (cA.out _) | exact regrown_new (cS.out _)); (first | exact regrown_new (cA.out _) | exact regrown_new (cS.out _)); clear hK K)))
    clear k0 k1 k2 k3 kx ky kz
    obtain ⟨q0, q1, q2, q3, qf⟩ := store_facts H2.out
    refine wpBoth_at ?_ ?_ (fun d os => ?_) ?_
    · rfl
    · rfl
    ·
      rw [← set4_regrown _ _ _ _ H2.out.lt]
      show (execOp _ _).run _ (grow (redrawn wa d) os) = _
      go_simp
    clear q0 q1 q2 q3 qf
    repeat (refine wpBoth_plain ?_ ?_ (fun K hK => ?_); rfl; rfl; go_simp; refine hK _ ?_; clear hK K)
    refine wpBoth_nil ?_
    intro w3 h3
    obtain ⟨n3, c0, c1, c2, c3⟩ := after_store HN.out (Nat.le_refl _) H2.out h3
    go_wp2
    refine bodyPost_ret (v := .tuple #[.agg #[.string z, .string p, .string q, .string y], .bool (baseB (bs x) && areaB (bs z) && strokeB (bs y))]) (by rw [HR.out]; simp [results, Tryz.results79, go_sem, c0, c1, c2, c3]) rfl ⟨by rw [hPV.out], n3⟩
  · have HR : Hid ((baseB (bs x) && areaB (bs z) && strokeB (bs y)) = true) := by rw [hb.out.1, hb.out.2.1, hb.out.2.2]; rfl
    rw [hb.out.1]
    rw [hb.out.2.1] at cA
    rw [hb.out.2.2] at cS
    go_wp2_with fail
    go_region
    go_wp2_with fail
    clear x0 x1 x2 x0' x1' x2' hx hy hz hx1 hy1 hz1
    generalize (w1.alloc (.cells #[.string z, .string p, .string q, .string y] 45)).drew = wa at *
    obtain ⟨g0, g1, g2, g3, -, -, -, -⟩ := H1.out.all
    have k0 := both_cell (v0 := .string z) (v1 := .string p) (v2 := .string q) (v3 := .string y) g0 hr1
    have k1 := both_cell (v0 := .string z) (v1 := .string p) (v2 := .string q) (v3 := .string y) g1 hr1
    have k2 := both_cell (v0 := .string z) (v1 := .string p) (v2 := .string q) (v3 := .string y) g2 hr1
    have k3 := both_cell (v0 := .string z) (v1 := .string p) (v2 := .string q) (v3 := .string y) g3 hr1
    have kx := both_cell (v0 := .string z) (v1 := .string p) (v2 := .string q) (v3 := .string y) HX.out hrb
    have ky := both_cell (v0 := .string z) (v1 := .string p) (v2 := .string q) (v3 := .string y) HY.out hrb
    have kz := both_cell (v0 := .string z) (v1 := .string p) (v2 := .string q) (v3 := .string y) HZ.out hrb
    clear g0 g1 g2 g3
    refine wp_region_store 14 (wSet wa w.heap.size (.string z) (.string p) (.string q) (.string y)) rfl (by kernel_rfl) (by kernel_rfl) ?_
    repeat (first
      | (refine wpBoth_plain ?_ ?_ (fun K hK => ?_); rfl; rfl; go_simp; first | (refine hK _ ?_; clear hK K) | (apply Exists.intro; refine ⟨⟨fun d os => ?_, fun d os => ?_⟩, hK _ ?_⟩; (first | exact regrown_new (cA.out _) | exact regrown_new (cS.out _)); (first | exact regrown_new (cA.out _) | exact regrown_new (cS.out _)); clear hK K))
      | (refine wpBoth_skip ?_ ?_ ?_; rfl; (focus (simp [Region.wanted, yielded]; done)); simp only [Act.put, List.setIfInBounds_toArray, List.set_cons_zero, List.set_cons_succ])
      | (refine wpBoth_want ?_ ?_ (fun K hK => ?_); rfl; (focus (simp [Region.wanted, yielded]; done)); go_simp; first | (refine hK _ ?_; clear hK K) | (apply Exists.intro; refine ⟨⟨fun d os => ?_, fun d os => ?_⟩, hK _ ?_⟩; (first | exact regrown_new (cA.out _) | exact regrown_new (cS.out _)); (first | exact regrown_new (cA.out _) | exact regrown_new (cS.out _)); clear hK K)))
    clear k0 k1 k2 k3 kx ky kz
    obtain ⟨q0, q1, q2, q3, qf⟩ := store_facts H2.out
    refine wpBoth_at ?_ ?_ (fun d os => ?_) ?_
    · rfl
    · rfl
    ·
      rw [← set4_regrown _ _ _ _ H2.out.lt]
      show (execOp _ _).run _ (grow (redrawn wa d) os) = _
      go_simp
    clear q0 q1 q2 q3 qf
    repeat (refine wpBoth_plain ?_ ?_ (fun K hK => ?_); rfl; rfl; go_simp; refine hK _ ?_; clear hK K)
    refine wpBoth_nil ?_
    intro w3 h3
    obtain ⟨n3, c0, c1, c2, c3⟩ := after_store HN.out (Nat.le_refl _) H2.out h3
    go_wp2
    refine bodyPost_ret (v := .tuple #[.agg #[.string z, .string p, .string q, .string y], .bool (baseB (bs x) && areaB (bs z) && strokeB (bs y))]) (by rw [HR.out]; simp [results, Tryz.results79, go_sem, c0, c1, c2, c3]) rfl ⟨by rw [hPV.out], n3⟩

end Go.Proofs.YtkbdmdnahphkkaaGreatDoor
