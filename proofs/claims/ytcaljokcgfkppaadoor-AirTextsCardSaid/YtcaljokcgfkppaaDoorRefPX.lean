/-
  ParseExchange of the specification, for all layouts. Condition: texts of at most 100000 bytes.
-/
import Derived.Test.YtcaljokcgfkppaaDoorRefEx
namespace Go.Proofs.YtcaljokcgfkppaaDoor
open Go.RowKit
def exO : Option (Int × Int × Int) → Value
  | some t => exV t.1 t.2.1 t.2.2
  | none => exV 0 0 0
def exE : Option (Int × Int × Int) → Int
  | some _ => 0
  | none => 1
/-- Three numbers in a block of their own. -/
def Ex3 (w : World) (g : Nat) (a b c : Int) : Prop := w.heap[g]? = some (.cells #[.int .i64 a, .int .i64 b, .int .i64 c] 45 (0, 0))
theorem Ex3.keep {w w' : World} {g : Nat} {a b c : Int} (h : Ex3 w g a b c) (k : New w w') : Ex3 w' g a b c := heap_keep k h
theorem Ex3.new (w : World) (a b c : Int) : Ex3 (w.alloc (.cells #[.int .i64 a, .int .i64 b, .int .i64 c] 45)) w.heap.size a b c := heap_alloc_new w _
theorem Ex3.cells {w : World} {g : Nat} {a b c : Int} (h : Ex3 w g a b c) :
    w.cell? ⟨g, 0, none⟩ = some (.int .i64 a) ∧ w.cell? ⟨g, 1, none⟩ = some (.int .i64 b) ∧ w.cell? ⟨g, 2, none⟩ = some (.int .i64 c) ∧ w.frozen? ⟨g, 0, none⟩ = false ∧ w.frozen? ⟨g, 1, none⟩ = false ∧ w.frozen? ⟨g, 2, none⟩ = false := by
  unfold Ex3 at h
  refine ⟨?_, ?_, ?_, ?_, ?_, ?_⟩
  · rw [cell_of_row _ _ 0 _ _ _ h]; rfl
  · rw [cell_of_row _ _ 1 _ _ _ h]; rfl
  · rw [cell_of_row _ _ 2 _ _ _ h]; rfl
  all_goals simp [World.frozen?, h]
def Lay3 (w : World) (g : Nat) (r s z : Bool) : Prop := w.heap[g]? = some (.cells #[.bool r, .bool s, .bool z] 43 (0, 0))
theorem Lay3.keep {w w' : World} {g : Nat} {r s z : Bool} (h : Lay3 w g r s z) (k : New w w') : Lay3 w' g r s z := heap_keep k h
theorem Lay3.cells {w : World} {g : Nat} {r s z : Bool} (h : Lay3 w g r s z) : w.cell? ⟨g, 0, none⟩ = some (.bool r) ∧ w.cell? ⟨g, 1, none⟩ = some (.bool s) ∧ w.cell? ⟨g, 2, none⟩ = some (.bool z) := by
  unfold Lay3 at h
  refine ⟨?_, ?_, ?_⟩
  · rw [cell_of_row _ _ 0 _ _ _ h]; rfl
  · rw [cell_of_row _ _ 1 _ _ _ h]; rfl
  · rw [cell_of_row _ _ 2 _ _ _ h]; rfl
/-- A store of three numbers into the result's block. -/
theorem ex_store {w wa : World} {r : Nat} {a b c x y t : Int} (h0 : New w wa) (hr : w.heap.size ≤ r) (hp : Ex3 wa r a b c) :
    New w (((wa.setCell ⟨r, 0, none⟩ (.int .i64 x)).setCell ⟨r, 1, none⟩ (.int .i64 y)).setCell ⟨r, 2, none⟩ (.int .i64 t)) ∧ Ex3 (((wa.setCell ⟨r, 0, none⟩ (.int .i64 x)).setCell ⟨r, 1, none⟩ (.int .i64 y)).setCell ⟨r, 2, none⟩ (.int .i64 t)) r x y t := by
  refine ⟨((h0.setCell hr _).setCell hr _).setCell hr _, ?_⟩
  unfold Ex3 at hp ⊢
  simp [World.setCell, Array.getElem?_modify, hp]
set_option maxHeartbeats 2000000 in
theorem ref_PX_fff (s : ByteArray) (w : World) (hs : s.size ≤ 100000) :
    Calls Tryd.prog 33 #[layV false false false, .string s] w fun e w' => e = .returned (.tuple #[exO (parseXR false false false (bs s)), .int .i64 (exE (parseXR false false false (bs s)))]) ∧ New w w' := by
  have hz := bs_size s
  have HA := Lib.hid (((New.refl w).alloc (.cells #[.bool false, .bool false, .bool false] 43)).alloc (.cells #[.int .i64 0, .int .i64 0, .int .i64 0] 45))
  have HX := Lib.hid (ExAt.new w false false false 0 0 0)
  unfold layV
  by_cases h100 : 100 < s.size
  · have HE : Hid (parseXR false false false (bs s) = none) := by
      have h : parseXR false false false (bs s) = none := by unfold parseXR; rw [if_pos (by omega)]
      exact Lib.hid h
    go_enter Tryd.func33, Tryd.ntmps33
    go_wp2_with fail
    refine bodyPost_ret (v := .tuple #[exV 0 0 0, .int .i64 1]) (by simp [results, Tryd.results33, go_sem, exV]) rfl ⟨by rw [HE.out]; rfl, HA.out⟩
  · have HQ : Hid (parseXR false false false (bs s) = backX false false false (bs s) (takeR false (piecesL 32 (bs s))).1 (takeR false (takeR false (piecesL 32 (bs s))).2).1 (takeR false (takeR false (takeR false (piecesL 32 (bs s))).2).2).1) := by
      have h : parseXR false false false (bs s) = backX false false false (bs s) (takeR false (piecesL 32 (bs s))).1 (takeR false (takeR false (piecesL 32 (bs s))).2).1 (takeR false (takeR false (takeR false (piecesL 32 (bs s))).2).2).1 := by unfold parseXR; rw [if_neg (by omega)]
      exact Lib.hid h
    go_enter Tryd.func33, Tryd.ntmps33
    go_wp2_with fail
    refine (ref_split s _ hs).mono ?_
    rintro e w1 ⟨v, rfl, hst⟩
    obtain ⟨g, cap, rfl, hg1, hg2, hcap, hcell⟩ := hst.open' (pieces_len 32 (bs s)).2.1
    have HN := Lib.hid (HA.out.trans hst.2)
    have HXX := HX.out.keep hst.2
    have HL1 : Hid (Lay3 w1 w.heap.size false false false) := Lib.hid HXX.1
    have HR1 : Hid (Ex3 w1 (w.heap.size + 1) 0 0 0) := Lib.hid HXX.2
    have hpl := (pieces_len 32 (bs s)).1
    have hpz := (pieces_len 32 (bs s)).2.2
    rw [hz] at hpl hpz
    clear hst HXX HX HA
    have HNE := Lib.hid (pieces_len 32 (bs s)).2.1
    generalize piecesL 32 (bs s) = ws at *
    obtain ⟨l0, l1, l2⟩ := HL1.out.cells
    have k0 := fun o => cell_alloc l0 o
    have k1 := fun o => cell_alloc l1 o
    have k2 := fun o => cell_alloc l2 o
    clear l0 l1 l2
    skip
    have HE : Hid (parseXR false false false (bs s) = backX false false false (bs s) 0 0 0) := HQ
    clear hcell hpz HQ HNE hpl
    have HY := Lib.hid (Ex3.new w1 0 0 0)
    have HN1 := Lib.hid ((New.refl w1).alloc (.cells #[.int .i64 0, .int .i64 0, .int .i64 0] 45))
    go_wp2_with fail
    refine (ref_PrintExchange false false false 0 0 0 _).mono ?_
    rintro e w2 ⟨rfl, h2⟩
    have HY2 := Lib.hid (HY.out.keep h2)
    have HR2 := Lib.hid (HR1.out.keep (HN1.out.trans h2))
    have HN2 := Lib.hid (HN.out.trans (HN1.out.trans h2))
    clear h2 HY HN1
    clear k0 k1 k2
    obtain ⟨y0, y1, y2, -, -, -⟩ := HY2.out.cells
    obtain ⟨r0, r1, r2, f0, f1, f2⟩ := HR2.out.cells
    cases hp : printX false false false 0 0 0 with
    | none =>
      have HE2 : Hid (parseXR false false false (bs s) = none) := by
        have h := HE.out
        unfold backX at h
        rw [hp] at h
        exact Lib.hid h
      clear hp
      simp only [errV, textV]
      go_wp2_with fail
      clear y0 y1 y2 r0 r1 r2 f0 f1 f2
      obtain ⟨n3, hc⟩ := ex_store (x := 0) (y := 0) (t := 0) HN2.out (Nat.le_succ _) HR2.out
      obtain ⟨c0, c1, c2, -, -, -⟩ := hc.cells
      refine bodyPost_ret (v := .tuple #[exV 0 0 0, .int .i64 1]) (by simp [results, Tryd.results33, go_sem, exV, c0, c1, c2]) rfl ⟨by rw [HE2.out]; rfl, n3⟩
    | some l =>
      simp only [errV, textV]
      by_cases hl : l = bs s
      · have HE2 : Hid (parseXR false false false (bs s) = some (0, 0, 0)) := by
          have h := HE.out
          unfold backX at h
          rw [hp, hl, if_pos rfl] at h
          exact Lib.hid h
        have hB : B l = s := by rw [hl, B_bs]
        clear hp hl
        rw [hB]
        clear hB
        go_wp2_with fail
        clear y0 y1 y2 r0 r1 r2 f0 f1 f2
        obtain ⟨n3, hc⟩ := ex_store (x := 0) (y := 0) (t := 0) HN2.out (Nat.le_succ _) HR2.out
        obtain ⟨c0, c1, c2, -, -, -⟩ := hc.cells
        refine bodyPost_ret (v := .tuple #[exV 0 0 0, .int .i64 0]) (by simp [results, Tryd.results33, go_sem, exV, c0, c1, c2]) rfl ⟨by rw [HE2.out]; rfl, n3⟩
      · have HE2 : Hid (parseXR false false false (bs s) = none) := by
          have h := HE.out
          unfold backX at h
          rw [hp, if_neg (by intro e; injection e with e; exact hl e)] at h
          exact Lib.hid h
        have hB : ((B l).toList == s.toList) = false := by
          rw [Lib.toList_data, Lib.toList_data, beq_eq_false_iff_ne]
          intro h
          exact hl h
        clear hp hl
        go_wp2_with fail
        clear y0 y1 y2 r0 r1 r2 f0 f1 f2
        obtain ⟨n3, hc⟩ := ex_store (x := 0) (y := 0) (t := 0) HN2.out (Nat.le_succ _) HR2.out
        obtain ⟨c0, c1, c2, -, -, -⟩ := hc.cells
        refine bodyPost_ret (v := .tuple #[exV 0 0 0, .int .i64 1]) (by simp [results, Tryd.results33, go_sem, exV, c0, c1, c2]) rfl ⟨by rw [HE2.out]; rfl, n3⟩
set_option maxHeartbeats 2000000 in
theorem ref_PX_fft (s : ByteArray) (w : World) (hs : s.size ≤ 100000) :
    Calls Tryd.prog 33 #[layV false false true, .string s] w fun e w' => e = .returned (.tuple #[exO (parseXR false false true (bs s)), .int .i64 (exE (parseXR false false true (bs s)))]) ∧ New w w' := by
  have hz := bs_size s
  have HA := Lib.hid (((New.refl w).alloc (.cells #[.bool false, .bool false, .bool true] 43)).alloc (.cells #[.int .i64 0, .int .i64 0, .int .i64 0] 45))
  have HX := Lib.hid (ExAt.new w false false true 0 0 0)
  unfold layV
  by_cases h100 : 100 < s.size
  · have HE : Hid (parseXR false false true (bs s) = none) := by
      have h : parseXR false false true (bs s) = none := by unfold parseXR; rw [if_pos (by omega)]
      exact Lib.hid h
    go_enter Tryd.func33, Tryd.ntmps33
    go_wp2_with fail
    refine bodyPost_ret (v := .tuple #[exV 0 0 0, .int .i64 1]) (by simp [results, Tryd.results33, go_sem, exV]) rfl ⟨by rw [HE.out]; rfl, HA.out⟩
  · have HQ : Hid (parseXR false false true (bs s) = backX false false true (bs s) (takeR false (piecesL 32 (bs s))).1 (takeR false (takeR false (piecesL 32 (bs s))).2).1 (takeR true (takeR false (takeR false (piecesL 32 (bs s))).2).2).1) := by
      have h : parseXR false false true (bs s) = backX false false true (bs s) (takeR false (piecesL 32 (bs s))).1 (takeR false (takeR false (piecesL 32 (bs s))).2).1 (takeR true (takeR false (takeR false (piecesL 32 (bs s))).2).2).1 := by unfold parseXR; rw [if_neg (by omega)]
      exact Lib.hid h
    go_enter Tryd.func33, Tryd.ntmps33
    go_wp2_with fail
    refine (ref_split s _ hs).mono ?_
    rintro e w1 ⟨v, rfl, hst⟩
    obtain ⟨g, cap, rfl, hg1, hg2, hcap, hcell⟩ := hst.open' (pieces_len 32 (bs s)).2.1
    have HN := Lib.hid (HA.out.trans hst.2)
    have HXX := HX.out.keep hst.2
    have HL1 : Hid (Lay3 w1 w.heap.size false false true) := Lib.hid HXX.1
    have HR1 : Hid (Ex3 w1 (w.heap.size + 1) 0 0 0) := Lib.hid HXX.2
    have hpl := (pieces_len 32 (bs s)).1
    have hpz := (pieces_len 32 (bs s)).2.2
    rw [hz] at hpl hpz
    clear hst HXX HX HA
    have HNE := Lib.hid (pieces_len 32 (bs s)).2.1
    generalize piecesL 32 (bs s) = ws at *
    obtain ⟨l0, l1, l2⟩ := HL1.out.cells
    have k0 := fun o => cell_alloc l0 o
    have k1 := fun o => cell_alloc l1 o
    have k2 := fun o => cell_alloc l2 o
    clear l0 l1 l2
    match ws with
    | [] => exact absurd rfl HNE.out
    | x :: ps =>
      have c0 := hcell 0 x rfl
      have hx := hpz x (by simp)
      have HE : Hid (parseXR false false true (bs s) = backX false false true (bs s) 0 0 (numI (numR x))) := HQ
      have hlen : (x :: ps).length = ps.length + 1 := rfl
      rw [hlen] at hcap hpl ⊢
      clear hcell hpz HQ HNE hlen
      generalize ps.length = m at *
      simp only [strV] at c0
      have d0 := fun o => cell_alloc c0 o
      go_wp2_with fail
      refine (ref_number (B x) _ (by rw [B_size]; omega)).mono ?_
      rintro e w2 ⟨rfl, rfl⟩
      rw [bs_B]
      clear c0 d0
      generalize numI (numR x) = n2 at *
      have HY := Lib.hid (Ex3.new w1 0 0 n2)
      have HN1 := Lib.hid ((New.refl w1).alloc (.cells #[.int .i64 0, .int .i64 0, .int .i64 n2] 45))
      go_wp2_with fail
      refine (ref_PrintExchange false false true 0 0 n2 _).mono ?_
      rintro e w2 ⟨rfl, h2⟩
      have HY2 := Lib.hid (HY.out.keep h2)
      have HR2 := Lib.hid (HR1.out.keep (HN1.out.trans h2))
      have HN2 := Lib.hid (HN.out.trans (HN1.out.trans h2))
      clear h2 HY HN1
      clear k0 k1 k2
      obtain ⟨y0, y1, y2, -, -, -⟩ := HY2.out.cells
      obtain ⟨r0, r1, r2, f0, f1, f2⟩ := HR2.out.cells
      cases hp : printX false false true 0 0 n2 with
      | none =>
        have HE2 : Hid (parseXR false false true (bs s) = none) := by
          have h := HE.out
          unfold backX at h
          rw [hp] at h
          exact Lib.hid h
        clear hp
        simp only [errV, textV]
        go_wp2_with fail
        clear y0 y1 y2 r0 r1 r2 f0 f1 f2
        obtain ⟨n3, hc⟩ := ex_store (x := 0) (y := 0) (t := 0) HN2.out (Nat.le_succ _) HR2.out
        obtain ⟨c0, c1, c2, -, -, -⟩ := hc.cells
        refine bodyPost_ret (v := .tuple #[exV 0 0 0, .int .i64 1]) (by simp [results, Tryd.results33, go_sem, exV, c0, c1, c2]) rfl ⟨by rw [HE2.out]; rfl, n3⟩
      | some l =>
        simp only [errV, textV]
        by_cases hl : l = bs s
        · have HE2 : Hid (parseXR false false true (bs s) = some (0, 0, n2)) := by
            have h := HE.out
            unfold backX at h
            rw [hp, hl, if_pos rfl] at h
            exact Lib.hid h
          have hB : B l = s := by rw [hl, B_bs]
          clear hp hl
          rw [hB]
          clear hB
          go_wp2_with fail
          clear y0 y1 y2 r0 r1 r2 f0 f1 f2
          obtain ⟨n3, hc⟩ := ex_store (x := 0) (y := 0) (t := n2) HN2.out (Nat.le_succ _) HR2.out
          obtain ⟨c0, c1, c2, -, -, -⟩ := hc.cells
          refine bodyPost_ret (v := .tuple #[exV 0 0 n2, .int .i64 0]) (by simp [results, Tryd.results33, go_sem, exV, c0, c1, c2]) rfl ⟨by rw [HE2.out]; rfl, n3⟩
        · have HE2 : Hid (parseXR false false true (bs s) = none) := by
            have h := HE.out
            unfold backX at h
            rw [hp, if_neg (by intro e; injection e with e; exact hl e)] at h
            exact Lib.hid h
          have hB : ((B l).toList == s.toList) = false := by
            rw [Lib.toList_data, Lib.toList_data, beq_eq_false_iff_ne]
            intro h
            exact hl h
          clear hp hl
          go_wp2_with fail
          clear y0 y1 y2 r0 r1 r2 f0 f1 f2
          obtain ⟨n3, hc⟩ := ex_store (x := 0) (y := 0) (t := 0) HN2.out (Nat.le_succ _) HR2.out
          obtain ⟨c0, c1, c2, -, -, -⟩ := hc.cells
          refine bodyPost_ret (v := .tuple #[exV 0 0 0, .int .i64 1]) (by simp [results, Tryd.results33, go_sem, exV, c0, c1, c2]) rfl ⟨by rw [HE2.out]; rfl, n3⟩
set_option maxHeartbeats 2000000 in
theorem ref_PX_ftf (s : ByteArray) (w : World) (hs : s.size ≤ 100000) :
    Calls Tryd.prog 33 #[layV false true false, .string s] w fun e w' => e = .returned (.tuple #[exO (parseXR false true false (bs s)), .int .i64 (exE (parseXR false true false (bs s)))]) ∧ New w w' := by
  have hz := bs_size s
  have HA := Lib.hid (((New.refl w).alloc (.cells #[.bool false, .bool true, .bool false] 43)).alloc (.cells #[.int .i64 0, .int .i64 0, .int .i64 0] 45))
  have HX := Lib.hid (ExAt.new w false true false 0 0 0)
  unfold layV
  by_cases h100 : 100 < s.size
  · have HE : Hid (parseXR false true false (bs s) = none) := by
      have h : parseXR false true false (bs s) = none := by unfold parseXR; rw [if_pos (by omega)]
      exact Lib.hid h
    go_enter Tryd.func33, Tryd.ntmps33
    go_wp2_with fail
    refine bodyPost_ret (v := .tuple #[exV 0 0 0, .int .i64 1]) (by simp [results, Tryd.results33, go_sem, exV]) rfl ⟨by rw [HE.out]; rfl, HA.out⟩
  · have HQ : Hid (parseXR false true false (bs s) = backX false true false (bs s) (takeR false (piecesL 32 (bs s))).1 (takeR true (takeR false (piecesL 32 (bs s))).2).1 (takeR false (takeR true (takeR false (piecesL 32 (bs s))).2).2).1) := by
      have h : parseXR false true false (bs s) = backX false true false (bs s) (takeR false (piecesL 32 (bs s))).1 (takeR true (takeR false (piecesL 32 (bs s))).2).1 (takeR false (takeR true (takeR false (piecesL 32 (bs s))).2).2).1 := by unfold parseXR; rw [if_neg (by omega)]
      exact Lib.hid h
    go_enter Tryd.func33, Tryd.ntmps33
    go_wp2_with fail
    refine (ref_split s _ hs).mono ?_
    rintro e w1 ⟨v, rfl, hst⟩
    obtain ⟨g, cap, rfl, hg1, hg2, hcap, hcell⟩ := hst.open' (pieces_len 32 (bs s)).2.1
    have HN := Lib.hid (HA.out.trans hst.2)
    have HXX := HX.out.keep hst.2
    have HL1 : Hid (Lay3 w1 w.heap.size false true false) := Lib.hid HXX.1
    have HR1 : Hid (Ex3 w1 (w.heap.size + 1) 0 0 0) := Lib.hid HXX.2
    have hpl := (pieces_len 32 (bs s)).1
    have hpz := (pieces_len 32 (bs s)).2.2
    rw [hz] at hpl hpz
    clear hst HXX HX HA
    have HNE := Lib.hid (pieces_len 32 (bs s)).2.1
    generalize piecesL 32 (bs s) = ws at *
    obtain ⟨l0, l1, l2⟩ := HL1.out.cells
    have k0 := fun o => cell_alloc l0 o
    have k1 := fun o => cell_alloc l1 o
    have k2 := fun o => cell_alloc l2 o
    clear l0 l1 l2
    match ws with
    | [] => exact absurd rfl HNE.out
    | x :: ps =>
      have c0 := hcell 0 x rfl
      have hx := hpz x (by simp)
      have HE : Hid (parseXR false true false (bs s) = backX false true false (bs s) 0 (numI (numR x)) 0) := HQ
      have hlen : (x :: ps).length = ps.length + 1 := rfl
      rw [hlen] at hcap hpl ⊢
      clear hcell hpz HQ HNE hlen
      generalize ps.length = m at *
      simp only [strV] at c0
      have d0 := fun o => cell_alloc c0 o
      go_wp2_with fail
      refine (ref_number (B x) _ (by rw [B_size]; omega)).mono ?_
      rintro e w2 ⟨rfl, rfl⟩
      rw [bs_B]
      clear c0 d0
      generalize numI (numR x) = n1 at *
      have HY := Lib.hid (Ex3.new w1 0 n1 0)
      have HN1 := Lib.hid ((New.refl w1).alloc (.cells #[.int .i64 0, .int .i64 n1, .int .i64 0] 45))
      go_wp2_with fail
      refine (ref_PrintExchange false true false 0 n1 0 _).mono ?_
      rintro e w2 ⟨rfl, h2⟩
      have HY2 := Lib.hid (HY.out.keep h2)
      have HR2 := Lib.hid (HR1.out.keep (HN1.out.trans h2))
      have HN2 := Lib.hid (HN.out.trans (HN1.out.trans h2))
      clear h2 HY HN1
      clear k0 k1 k2
      obtain ⟨y0, y1, y2, -, -, -⟩ := HY2.out.cells
      obtain ⟨r0, r1, r2, f0, f1, f2⟩ := HR2.out.cells
      cases hp : printX false true false 0 n1 0 with
      | none =>
        have HE2 : Hid (parseXR false true false (bs s) = none) := by
          have h := HE.out
          unfold backX at h
          rw [hp] at h
          exact Lib.hid h
        clear hp
        simp only [errV, textV]
        go_wp2_with fail
        clear y0 y1 y2 r0 r1 r2 f0 f1 f2
        obtain ⟨n3, hc⟩ := ex_store (x := 0) (y := 0) (t := 0) HN2.out (Nat.le_succ _) HR2.out
        obtain ⟨c0, c1, c2, -, -, -⟩ := hc.cells
        refine bodyPost_ret (v := .tuple #[exV 0 0 0, .int .i64 1]) (by simp [results, Tryd.results33, go_sem, exV, c0, c1, c2]) rfl ⟨by rw [HE2.out]; rfl, n3⟩
      | some l =>
        simp only [errV, textV]
        by_cases hl : l = bs s
        · have HE2 : Hid (parseXR false true false (bs s) = some (0, n1, 0)) := by
            have h := HE.out
            unfold backX at h
            rw [hp, hl, if_pos rfl] at h
            exact Lib.hid h
          have hB : B l = s := by rw [hl, B_bs]
          clear hp hl
          rw [hB]
          clear hB
          go_wp2_with fail
          clear y0 y1 y2 r0 r1 r2 f0 f1 f2
          obtain ⟨n3, hc⟩ := ex_store (x := 0) (y := n1) (t := 0) HN2.out (Nat.le_succ _) HR2.out
          obtain ⟨c0, c1, c2, -, -, -⟩ := hc.cells
          refine bodyPost_ret (v := .tuple #[exV 0 n1 0, .int .i64 0]) (by simp [results, Tryd.results33, go_sem, exV, c0, c1, c2]) rfl ⟨by rw [HE2.out]; rfl, n3⟩
        · have HE2 : Hid (parseXR false true false (bs s) = none) := by
            have h := HE.out
            unfold backX at h
            rw [hp, if_neg (by intro e; injection e with e; exact hl e)] at h
            exact Lib.hid h
          have hB : ((B l).toList == s.toList) = false := by
            rw [Lib.toList_data, Lib.toList_data, beq_eq_false_iff_ne]
            intro h
            exact hl h
          clear hp hl
          go_wp2_with fail
          clear y0 y1 y2 r0 r1 r2 f0 f1 f2
          obtain ⟨n3, hc⟩ := ex_store (x := 0) (y := 0) (t := 0) HN2.out (Nat.le_succ _) HR2.out
          obtain ⟨c0, c1, c2, -, -, -⟩ := hc.cells
          refine bodyPost_ret (v := .tuple #[exV 0 0 0, .int .i64 1]) (by simp [results, Tryd.results33, go_sem, exV, c0, c1, c2]) rfl ⟨by rw [HE2.out]; rfl, n3⟩
set_option maxHeartbeats 2000000 in
theorem ref_PX_ftt (s : ByteArray) (w : World) (hs : s.size ≤ 100000) :
    Calls Tryd.prog 33 #[layV false true true, .string s] w fun e w' => e = .returned (.tuple #[exO (parseXR false true true (bs s)), .int .i64 (exE (parseXR false true true (bs s)))]) ∧ New w w' := by
  have hz := bs_size s
  have HA := Lib.hid (((New.refl w).alloc (.cells #[.bool false, .bool true, .bool true] 43)).alloc (.cells #[.int .i64 0, .int .i64 0, .int .i64 0] 45))
  have HX := Lib.hid (ExAt.new w false true true 0 0 0)
  unfold layV
  by_cases h100 : 100 < s.size
  · have HE : Hid (parseXR false true true (bs s) = none) := by
      have h : parseXR false true true (bs s) = none := by unfold parseXR; rw [if_pos (by omega)]
      exact Lib.hid h
    go_enter Tryd.func33, Tryd.ntmps33
    go_wp2_with fail
    refine bodyPost_ret (v := .tuple #[exV 0 0 0, .int .i64 1]) (by simp [results, Tryd.results33, go_sem, exV]) rfl ⟨by rw [HE.out]; rfl, HA.out⟩
  · have HQ : Hid (parseXR false true true (bs s) = backX false true true (bs s) (takeR false (piecesL 32 (bs s))).1 (takeR true (takeR false (piecesL 32 (bs s))).2).1 (takeR true (takeR true (takeR false (piecesL 32 (bs s))).2).2).1) := by
      have h : parseXR false true true (bs s) = backX false true true (bs s) (takeR false (piecesL 32 (bs s))).1 (takeR true (takeR false (piecesL 32 (bs s))).2).1 (takeR true (takeR true (takeR false (piecesL 32 (bs s))).2).2).1 := by unfold parseXR; rw [if_neg (by omega)]
      exact Lib.hid h
    go_enter Tryd.func33, Tryd.ntmps33
    go_wp2_with fail
    refine (ref_split s _ hs).mono ?_
    rintro e w1 ⟨v, rfl, hst⟩
    obtain ⟨g, cap, rfl, hg1, hg2, hcap, hcell⟩ := hst.open' (pieces_len 32 (bs s)).2.1
    have HN := Lib.hid (HA.out.trans hst.2)
    have HXX := HX.out.keep hst.2
    have HL1 : Hid (Lay3 w1 w.heap.size false true true) := Lib.hid HXX.1
    have HR1 : Hid (Ex3 w1 (w.heap.size + 1) 0 0 0) := Lib.hid HXX.2
    have hpl := (pieces_len 32 (bs s)).1
    have hpz := (pieces_len 32 (bs s)).2.2
    rw [hz] at hpl hpz
    clear hst HXX HX HA
    have HNE := Lib.hid (pieces_len 32 (bs s)).2.1
    generalize piecesL 32 (bs s) = ws at *
    obtain ⟨l0, l1, l2⟩ := HL1.out.cells
    have k0 := fun o => cell_alloc l0 o
    have k1 := fun o => cell_alloc l1 o
    have k2 := fun o => cell_alloc l2 o
    clear l0 l1 l2
    match ws with
    | [] => exact absurd rfl HNE.out
    | [x] =>
      have c0 := hcell 0 x rfl
      have hx := hpz x (by simp)
      have HE : Hid (parseXR false true true (bs s) = backX false true true (bs s) 0 (numI (numR x)) 0) := HQ
      clear hcell hpz HQ HNE
      simp only [strV] at c0
      have d0 := fun o => cell_alloc c0 o
      go_wp2_with fail
      refine (ref_number (B x) _ (by rw [B_size]; omega)).mono ?_
      rintro e w2 ⟨rfl, rfl⟩
      rw [bs_B]
      clear c0 d0
      generalize numI (numR x) = n1 at *
      have HY := Lib.hid (Ex3.new w1 0 n1 0)
      have HN1 := Lib.hid ((New.refl w1).alloc (.cells #[.int .i64 0, .int .i64 n1, .int .i64 0] 45))
      go_wp2_with fail
      refine (ref_PrintExchange false true true 0 n1 0 _).mono ?_
      rintro e w2 ⟨rfl, h2⟩
      have HY2 := Lib.hid (HY.out.keep h2)
      have HR2 := Lib.hid (HR1.out.keep (HN1.out.trans h2))
      have HN2 := Lib.hid (HN.out.trans (HN1.out.trans h2))
      clear h2 HY HN1
      clear k0 k1 k2
      obtain ⟨y0, y1, y2, -, -, -⟩ := HY2.out.cells
      obtain ⟨r0, r1, r2, f0, f1, f2⟩ := HR2.out.cells
      cases hp : printX false true true 0 n1 0 with
      | none =>
        have HE2 : Hid (parseXR false true true (bs s) = none) := by
          have h := HE.out
          unfold backX at h
          rw [hp] at h
          exact Lib.hid h
        clear hp
        simp only [errV, textV]
        go_wp2_with fail
        clear y0 y1 y2 r0 r1 r2 f0 f1 f2
        obtain ⟨n3, hc⟩ := ex_store (x := 0) (y := 0) (t := 0) HN2.out (Nat.le_succ _) HR2.out
        obtain ⟨c0, c1, c2, -, -, -⟩ := hc.cells
        refine bodyPost_ret (v := .tuple #[exV 0 0 0, .int .i64 1]) (by simp [results, Tryd.results33, go_sem, exV, c0, c1, c2]) rfl ⟨by rw [HE2.out]; rfl, n3⟩
      | some l =>
        simp only [errV, textV]
        by_cases hl : l = bs s
        · have HE2 : Hid (parseXR false true true (bs s) = some (0, n1, 0)) := by
            have h := HE.out
            unfold backX at h
            rw [hp, hl, if_pos rfl] at h
            exact Lib.hid h
          have hB : B l = s := by rw [hl, B_bs]
          clear hp hl
          rw [hB]
          clear hB
          go_wp2_with fail
          clear y0 y1 y2 r0 r1 r2 f0 f1 f2
          obtain ⟨n3, hc⟩ := ex_store (x := 0) (y := n1) (t := 0) HN2.out (Nat.le_succ _) HR2.out
          obtain ⟨c0, c1, c2, -, -, -⟩ := hc.cells
          refine bodyPost_ret (v := .tuple #[exV 0 n1 0, .int .i64 0]) (by simp [results, Tryd.results33, go_sem, exV, c0, c1, c2]) rfl ⟨by rw [HE2.out]; rfl, n3⟩
        · have HE2 : Hid (parseXR false true true (bs s) = none) := by
            have h := HE.out
            unfold backX at h
            rw [hp, if_neg (by intro e; injection e with e; exact hl e)] at h
            exact Lib.hid h
          have hB : ((B l).toList == s.toList) = false := by
            rw [Lib.toList_data, Lib.toList_data, beq_eq_false_iff_ne]
            intro h
            exact hl h
          clear hp hl
          go_wp2_with fail
          clear y0 y1 y2 r0 r1 r2 f0 f1 f2
          obtain ⟨n3, hc⟩ := ex_store (x := 0) (y := 0) (t := 0) HN2.out (Nat.le_succ _) HR2.out
          obtain ⟨c0, c1, c2, -, -, -⟩ := hc.cells
          refine bodyPost_ret (v := .tuple #[exV 0 0 0, .int .i64 1]) (by simp [results, Tryd.results33, go_sem, exV, c0, c1, c2]) rfl ⟨by rw [HE2.out]; rfl, n3⟩
    | x :: y :: ps =>
      have c0 := hcell 0 x rfl
      have hx := hpz x (by simp)
      have c1 := hcell 1 y rfl
      have hy := hpz y (by simp)
      have HE : Hid (parseXR false true true (bs s) = backX false true true (bs s) 0 (numI (numR x)) (numI (numR y))) := HQ
      have hlen : (x :: y :: ps).length = ps.length + 2 := rfl
      rw [hlen] at hcap hpl ⊢
      clear hcell hpz HQ HNE hlen
      generalize ps.length = m at *
      simp only [strV] at c0 c1
      have d0 := fun o => cell_alloc c0 o
      have d1 := fun o => cell_alloc c1 o
      go_wp2_with fail
      refine (ref_number (B x) _ (by rw [B_size]; omega)).mono ?_
      rintro e w2 ⟨rfl, rfl⟩
      rw [bs_B]
      go_wp2_with fail
      refine (ref_number (B y) _ (by rw [B_size]; omega)).mono ?_
      rintro e w2 ⟨rfl, rfl⟩
      rw [bs_B]
      clear c0 c1 d0 d1
      generalize numI (numR x) = n1 at *
      generalize numI (numR y) = n2 at *
      have HY := Lib.hid (Ex3.new w1 0 n1 n2)
      have HN1 := Lib.hid ((New.refl w1).alloc (.cells #[.int .i64 0, .int .i64 n1, .int .i64 n2] 45))
      go_wp2_with fail
      refine (ref_PrintExchange false true true 0 n1 n2 _).mono ?_
      rintro e w2 ⟨rfl, h2⟩
      have HY2 := Lib.hid (HY.out.keep h2)
      have HR2 := Lib.hid (HR1.out.keep (HN1.out.trans h2))
      have HN2 := Lib.hid (HN.out.trans (HN1.out.trans h2))
      clear h2 HY HN1
      clear k0 k1 k2
      obtain ⟨y0, y1, y2, -, -, -⟩ := HY2.out.cells
      obtain ⟨r0, r1, r2, f0, f1, f2⟩ := HR2.out.cells
      cases hp : printX false true true 0 n1 n2 with
      | none =>
        have HE2 : Hid (parseXR false true true (bs s) = none) := by
          have h := HE.out
          unfold backX at h
          rw [hp] at h
          exact Lib.hid h
        clear hp
        simp only [errV, textV]
        go_wp2_with fail
        clear y0 y1 y2 r0 r1 r2 f0 f1 f2
        obtain ⟨n3, hc⟩ := ex_store (x := 0) (y := 0) (t := 0) HN2.out (Nat.le_succ _) HR2.out
        obtain ⟨c0, c1, c2, -, -, -⟩ := hc.cells
        refine bodyPost_ret (v := .tuple #[exV 0 0 0, .int .i64 1]) (by simp [results, Tryd.results33, go_sem, exV, c0, c1, c2]) rfl ⟨by rw [HE2.out]; rfl, n3⟩
      | some l =>
        simp only [errV, textV]
        by_cases hl : l = bs s
        · have HE2 : Hid (parseXR false true true (bs s) = some (0, n1, n2)) := by
            have h := HE.out
            unfold backX at h
            rw [hp, hl, if_pos rfl] at h
            exact Lib.hid h
          have hB : B l = s := by rw [hl, B_bs]
          clear hp hl
          rw [hB]
          clear hB
          go_wp2_with fail
          clear y0 y1 y2 r0 r1 r2 f0 f1 f2
          obtain ⟨n3, hc⟩ := ex_store (x := 0) (y := n1) (t := n2) HN2.out (Nat.le_succ _) HR2.out
          obtain ⟨c0, c1, c2, -, -, -⟩ := hc.cells
          refine bodyPost_ret (v := .tuple #[exV 0 n1 n2, .int .i64 0]) (by simp [results, Tryd.results33, go_sem, exV, c0, c1, c2]) rfl ⟨by rw [HE2.out]; rfl, n3⟩
        · have HE2 : Hid (parseXR false true true (bs s) = none) := by
            have h := HE.out
            unfold backX at h
            rw [hp, if_neg (by intro e; injection e with e; exact hl e)] at h
            exact Lib.hid h
          have hB : ((B l).toList == s.toList) = false := by
            rw [Lib.toList_data, Lib.toList_data, beq_eq_false_iff_ne]
            intro h
            exact hl h
          clear hp hl
          go_wp2_with fail
          clear y0 y1 y2 r0 r1 r2 f0 f1 f2
          obtain ⟨n3, hc⟩ := ex_store (x := 0) (y := 0) (t := 0) HN2.out (Nat.le_succ _) HR2.out
          obtain ⟨c0, c1, c2, -, -, -⟩ := hc.cells
          refine bodyPost_ret (v := .tuple #[exV 0 0 0, .int .i64 1]) (by simp [results, Tryd.results33, go_sem, exV, c0, c1, c2]) rfl ⟨by rw [HE2.out]; rfl, n3⟩
set_option maxHeartbeats 2000000 in
theorem ref_PX_tff (s : ByteArray) (w : World) (hs : s.size ≤ 100000) :
    Calls Tryd.prog 33 #[layV true false false, .string s] w fun e w' => e = .returned (.tuple #[exO (parseXR true false false (bs s)), .int .i64 (exE (parseXR true false false (bs s)))]) ∧ New w w' := by
  have hz := bs_size s
  have HA := Lib.hid (((New.refl w).alloc (.cells #[.bool true, .bool false, .bool false] 43)).alloc (.cells #[.int .i64 0, .int .i64 0, .int .i64 0] 45))
  have HX := Lib.hid (ExAt.new w true false false 0 0 0)
  unfold layV
  by_cases h100 : 100 < s.size
  · have HE : Hid (parseXR true false false (bs s) = none) := by
      have h : parseXR true false false (bs s) = none := by unfold parseXR; rw [if_pos (by omega)]
      exact Lib.hid h
    go_enter Tryd.func33, Tryd.ntmps33
    go_wp2_with fail
    refine bodyPost_ret (v := .tuple #[exV 0 0 0, .int .i64 1]) (by simp [results, Tryd.results33, go_sem, exV]) rfl ⟨by rw [HE.out]; rfl, HA.out⟩
  · have HQ : Hid (parseXR true false false (bs s) = backX true false false (bs s) (takeR true (piecesL 32 (bs s))).1 (takeR false (takeR true (piecesL 32 (bs s))).2).1 (takeR false (takeR false (takeR true (piecesL 32 (bs s))).2).2).1) := by
      have h : parseXR true false false (bs s) = backX true false false (bs s) (takeR true (piecesL 32 (bs s))).1 (takeR false (takeR true (piecesL 32 (bs s))).2).1 (takeR false (takeR false (takeR true (piecesL 32 (bs s))).2).2).1 := by unfold parseXR; rw [if_neg (by omega)]
      exact Lib.hid h
    go_enter Tryd.func33, Tryd.ntmps33
    go_wp2_with fail
    refine (ref_split s _ hs).mono ?_
    rintro e w1 ⟨v, rfl, hst⟩
    obtain ⟨g, cap, rfl, hg1, hg2, hcap, hcell⟩ := hst.open' (pieces_len 32 (bs s)).2.1
    have HN := Lib.hid (HA.out.trans hst.2)
    have HXX := HX.out.keep hst.2
    have HL1 : Hid (Lay3 w1 w.heap.size true false false) := Lib.hid HXX.1
    have HR1 : Hid (Ex3 w1 (w.heap.size + 1) 0 0 0) := Lib.hid HXX.2
    have hpl := (pieces_len 32 (bs s)).1
    have hpz := (pieces_len 32 (bs s)).2.2
    rw [hz] at hpl hpz
    clear hst HXX HX HA
    have HNE := Lib.hid (pieces_len 32 (bs s)).2.1
    generalize piecesL 32 (bs s) = ws at *
    obtain ⟨l0, l1, l2⟩ := HL1.out.cells
    have k0 := fun o => cell_alloc l0 o
    have k1 := fun o => cell_alloc l1 o
    have k2 := fun o => cell_alloc l2 o
    clear l0 l1 l2
    match ws with
    | [] => exact absurd rfl HNE.out
    | x :: ps =>
      have c0 := hcell 0 x rfl
      have hx := hpz x (by simp)
      have HE : Hid (parseXR true false false (bs s) = backX true false false (bs s) (numI (numR x)) 0 0) := HQ
      have hlen : (x :: ps).length = ps.length + 1 := rfl
      rw [hlen] at hcap hpl ⊢
      clear hcell hpz HQ HNE hlen
      generalize ps.length = m at *
      simp only [strV] at c0
      have d0 := fun o => cell_alloc c0 o
      go_wp2_with fail
      refine (ref_number (B x) _ (by rw [B_size]; omega)).mono ?_
      rintro e w2 ⟨rfl, rfl⟩
      rw [bs_B]
      clear c0 d0
      generalize numI (numR x) = n0 at *
      have HY := Lib.hid (Ex3.new w1 n0 0 0)
      have HN1 := Lib.hid ((New.refl w1).alloc (.cells #[.int .i64 n0, .int .i64 0, .int .i64 0] 45))
      go_wp2_with fail
      refine (ref_PrintExchange true false false n0 0 0 _).mono ?_
      rintro e w2 ⟨rfl, h2⟩
      have HY2 := Lib.hid (HY.out.keep h2)
      have HR2 := Lib.hid (HR1.out.keep (HN1.out.trans h2))
      have HN2 := Lib.hid (HN.out.trans (HN1.out.trans h2))
      clear h2 HY HN1
      clear k0 k1 k2
      obtain ⟨y0, y1, y2, -, -, -⟩ := HY2.out.cells
      obtain ⟨r0, r1, r2, f0, f1, f2⟩ := HR2.out.cells
      cases hp : printX true false false n0 0 0 with
      | none =>
        have HE2 : Hid (parseXR true false false (bs s) = none) := by
          have h := HE.out
          unfold backX at h
          rw [hp] at h
          exact Lib.hid h
        clear hp
        simp only [errV, textV]
        go_wp2_with fail
        clear y0 y1 y2 r0 r1 r2 f0 f1 f2
        obtain ⟨n3, hc⟩ := ex_store (x := 0) (y := 0) (t := 0) HN2.out (Nat.le_succ _) HR2.out
        obtain ⟨c0, c1, c2, -, -, -⟩ := hc.cells
        refine bodyPost_ret (v := .tuple #[exV 0 0 0, .int .i64 1]) (by simp [results, Tryd.results33, go_sem, exV, c0, c1, c2]) rfl ⟨by rw [HE2.out]; rfl, n3⟩
      | some l =>
        simp only [errV, textV]
        by_cases hl : l = bs s
        · have HE2 : Hid (parseXR true false false (bs s) = some (n0, 0, 0)) := by
            have h := HE.out
            unfold backX at h
            rw [hp, hl, if_pos rfl] at h
            exact Lib.hid h
          have hB : B l = s := by rw [hl, B_bs]
          clear hp hl
          rw [hB]
          clear hB
          go_wp2_with fail
          clear y0 y1 y2 r0 r1 r2 f0 f1 f2
          obtain ⟨n3, hc⟩ := ex_store (x := n0) (y := 0) (t := 0) HN2.out (Nat.le_succ _) HR2.out
          obtain ⟨c0, c1, c2, -, -, -⟩ := hc.cells
          refine bodyPost_ret (v := .tuple #[exV n0 0 0, .int .i64 0]) (by simp [results, Tryd.results33, go_sem, exV, c0, c1, c2]) rfl ⟨by rw [HE2.out]; rfl, n3⟩
        · have HE2 : Hid (parseXR true false false (bs s) = none) := by
            have h := HE.out
            unfold backX at h
            rw [hp, if_neg (by intro e; injection e with e; exact hl e)] at h
            exact Lib.hid h
          have hB : ((B l).toList == s.toList) = false := by
            rw [Lib.toList_data, Lib.toList_data, beq_eq_false_iff_ne]
            intro h
            exact hl h
          clear hp hl
          go_wp2_with fail
          clear y0 y1 y2 r0 r1 r2 f0 f1 f2
          obtain ⟨n3, hc⟩ := ex_store (x := 0) (y := 0) (t := 0) HN2.out (Nat.le_succ _) HR2.out
          obtain ⟨c0, c1, c2, -, -, -⟩ := hc.cells
          refine bodyPost_ret (v := .tuple #[exV 0 0 0, .int .i64 1]) (by simp [results, Tryd.results33, go_sem, exV, c0, c1, c2]) rfl ⟨by rw [HE2.out]; rfl, n3⟩
set_option maxHeartbeats 2000000 in
theorem ref_PX_tft (s : ByteArray) (w : World) (hs : s.size ≤ 100000) :
    Calls Tryd.prog 33 #[layV true false true, .string s] w fun e w' => e = .returned (.tuple #[exO (parseXR true false true (bs s)), .int .i64 (exE (parseXR true false true (bs s)))]) ∧ New w w' := by
  have hz := bs_size s
  have HA := Lib.hid (((New.refl w).alloc (.cells #[.bool true, .bool false, .bool true] 43)).alloc (.cells #[.int .i64 0, .int .i64 0, .int .i64 0] 45))
  have HX := Lib.hid (ExAt.new w true false true 0 0 0)
  unfold layV
  by_cases h100 : 100 < s.size
  · have HE : Hid (parseXR true false true (bs s) = none) := by
      have h : parseXR true false true (bs s) = none := by unfold parseXR; rw [if_pos (by omega)]
      exact Lib.hid h
    go_enter Tryd.func33, Tryd.ntmps33
    go_wp2_with fail
    refine bodyPost_ret (v := .tuple #[exV 0 0 0, .int .i64 1]) (by simp [results, Tryd.results33, go_sem, exV]) rfl ⟨by rw [HE.out]; rfl, HA.out⟩
  · have HQ : Hid (parseXR true false true (bs s) = backX true false true (bs s) (takeR true (piecesL 32 (bs s))).1 (takeR false (takeR true (piecesL 32 (bs s))).2).1 (takeR true (takeR false (takeR true (piecesL 32 (bs s))).2).2).1) := by
      have h : parseXR true false true (bs s) = backX true false true (bs s) (takeR true (piecesL 32 (bs s))).1 (takeR false (takeR true (piecesL 32 (bs s))).2).1 (takeR true (takeR false (takeR true (piecesL 32 (bs s))).2).2).1 := by unfold parseXR; rw [if_neg (by omega)]
      exact Lib.hid h
    go_enter Tryd.func33, Tryd.ntmps33
    go_wp2_with fail
    refine (ref_split s _ hs).mono ?_
    rintro e w1 ⟨v, rfl, hst⟩
    obtain ⟨g, cap, rfl, hg1, hg2, hcap, hcell⟩ := hst.open' (pieces_len 32 (bs s)).2.1
    have HN := Lib.hid (HA.out.trans hst.2)
    have HXX := HX.out.keep hst.2
    have HL1 : Hid (Lay3 w1 w.heap.size true false true) := Lib.hid HXX.1
    have HR1 : Hid (Ex3 w1 (w.heap.size + 1) 0 0 0) := Lib.hid HXX.2
    have hpl := (pieces_len 32 (bs s)).1
    have hpz := (pieces_len 32 (bs s)).2.2
    rw [hz] at hpl hpz
    clear hst HXX HX HA
    have HNE := Lib.hid (pieces_len 32 (bs s)).2.1
    generalize piecesL 32 (bs s) = ws at *
    obtain ⟨l0, l1, l2⟩ := HL1.out.cells
    have k0 := fun o => cell_alloc l0 o
    have k1 := fun o => cell_alloc l1 o
    have k2 := fun o => cell_alloc l2 o
    clear l0 l1 l2
    match ws with
    | [] => exact absurd rfl HNE.out
    | [x] =>
      have c0 := hcell 0 x rfl
      have hx := hpz x (by simp)
      have HE : Hid (parseXR true false true (bs s) = backX true false true (bs s) (numI (numR x)) 0 0) := HQ
      clear hcell hpz HQ HNE
      simp only [strV] at c0
      have d0 := fun o => cell_alloc c0 o
      go_wp2_with fail
      refine (ref_number (B x) _ (by rw [B_size]; omega)).mono ?_
      rintro e w2 ⟨rfl, rfl⟩
      rw [bs_B]
      clear c0 d0
      generalize numI (numR x) = n0 at *
      have HY := Lib.hid (Ex3.new w1 n0 0 0)
      have HN1 := Lib.hid ((New.refl w1).alloc (.cells #[.int .i64 n0, .int .i64 0, .int .i64 0] 45))
      go_wp2_with fail
      refine (ref_PrintExchange true false true n0 0 0 _).mono ?_
      rintro e w2 ⟨rfl, h2⟩
      have HY2 := Lib.hid (HY.out.keep h2)
      have HR2 := Lib.hid (HR1.out.keep (HN1.out.trans h2))
      have HN2 := Lib.hid (HN.out.trans (HN1.out.trans h2))
      clear h2 HY HN1
      clear k0 k1 k2
      obtain ⟨y0, y1, y2, -, -, -⟩ := HY2.out.cells
      obtain ⟨r0, r1, r2, f0, f1, f2⟩ := HR2.out.cells
      cases hp : printX true false true n0 0 0 with
      | none =>
        have HE2 : Hid (parseXR true false true (bs s) = none) := by
          have h := HE.out
          unfold backX at h
          rw [hp] at h
          exact Lib.hid h
        clear hp
        simp only [errV, textV]
        go_wp2_with fail
        clear y0 y1 y2 r0 r1 r2 f0 f1 f2
        obtain ⟨n3, hc⟩ := ex_store (x := 0) (y := 0) (t := 0) HN2.out (Nat.le_succ _) HR2.out
        obtain ⟨c0, c1, c2, -, -, -⟩ := hc.cells
        refine bodyPost_ret (v := .tuple #[exV 0 0 0, .int .i64 1]) (by simp [results, Tryd.results33, go_sem, exV, c0, c1, c2]) rfl ⟨by rw [HE2.out]; rfl, n3⟩
      | some l =>
        simp only [errV, textV]
        by_cases hl : l = bs s
        · have HE2 : Hid (parseXR true false true (bs s) = some (n0, 0, 0)) := by
            have h := HE.out
            unfold backX at h
            rw [hp, hl, if_pos rfl] at h
            exact Lib.hid h
          have hB : B l = s := by rw [hl, B_bs]
          clear hp hl
          rw [hB]
          clear hB
          go_wp2_with fail
          clear y0 y1 y2 r0 r1 r2 f0 f1 f2
          obtain ⟨n3, hc⟩ := ex_store (x := n0) (y := 0) (t := 0) HN2.out (Nat.le_succ _) HR2.out
          obtain ⟨c0, c1, c2, -, -, -⟩ := hc.cells
          refine bodyPost_ret (v := .tuple #[exV n0 0 0, .int .i64 0]) (by simp [results, Tryd.results33, go_sem, exV, c0, c1, c2]) rfl ⟨by rw [HE2.out]; rfl, n3⟩
        · have HE2 : Hid (parseXR true false true (bs s) = none) := by
            have h := HE.out
            unfold backX at h
            rw [hp, if_neg (by intro e; injection e with e; exact hl e)] at h
            exact Lib.hid h
          have hB : ((B l).toList == s.toList) = false := by
            rw [Lib.toList_data, Lib.toList_data, beq_eq_false_iff_ne]
            intro h
            exact hl h
          clear hp hl
          go_wp2_with fail
          clear y0 y1 y2 r0 r1 r2 f0 f1 f2
          obtain ⟨n3, hc⟩ := ex_store (x := 0) (y := 0) (t := 0) HN2.out (Nat.le_succ _) HR2.out
          obtain ⟨c0, c1, c2, -, -, -⟩ := hc.cells
          refine bodyPost_ret (v := .tuple #[exV 0 0 0, .int .i64 1]) (by simp [results, Tryd.results33, go_sem, exV, c0, c1, c2]) rfl ⟨by rw [HE2.out]; rfl, n3⟩
    | x :: y :: ps =>
      have c0 := hcell 0 x rfl
      have hx := hpz x (by simp)
      have c1 := hcell 1 y rfl
      have hy := hpz y (by simp)
      have HE : Hid (parseXR true false true (bs s) = backX true false true (bs s) (numI (numR x)) 0 (numI (numR y))) := HQ
      have hlen : (x :: y :: ps).length = ps.length + 2 := rfl
      rw [hlen] at hcap hpl ⊢
      clear hcell hpz HQ HNE hlen
      generalize ps.length = m at *
      simp only [strV] at c0 c1
      have d0 := fun o => cell_alloc c0 o
      have d1 := fun o => cell_alloc c1 o
      go_wp2_with fail
      refine (ref_number (B x) _ (by rw [B_size]; omega)).mono ?_
      rintro e w2 ⟨rfl, rfl⟩
      rw [bs_B]
      go_wp2_with fail
      refine (ref_number (B y) _ (by rw [B_size]; omega)).mono ?_
      rintro e w2 ⟨rfl, rfl⟩
      rw [bs_B]
      clear c0 c1 d0 d1
      generalize numI (numR x) = n0 at *
      generalize numI (numR y) = n2 at *
      have HY := Lib.hid (Ex3.new w1 n0 0 n2)
      have HN1 := Lib.hid ((New.refl w1).alloc (.cells #[.int .i64 n0, .int .i64 0, .int .i64 n2] 45))
      go_wp2_with fail
      refine (ref_PrintExchange true false true n0 0 n2 _).mono ?_
      rintro e w2 ⟨rfl, h2⟩
      have HY2 := Lib.hid (HY.out.keep h2)
      have HR2 := Lib.hid (HR1.out.keep (HN1.out.trans h2))
      have HN2 := Lib.hid (HN.out.trans (HN1.out.trans h2))
      clear h2 HY HN1
      clear k0 k1 k2
      obtain ⟨y0, y1, y2, -, -, -⟩ := HY2.out.cells
      obtain ⟨r0, r1, r2, f0, f1, f2⟩ := HR2.out.cells
      cases hp : printX true false true n0 0 n2 with
      | none =>
        have HE2 : Hid (parseXR true false true (bs s) = none) := by
          have h := HE.out
          unfold backX at h
          rw [hp] at h
          exact Lib.hid h
        clear hp
        simp only [errV, textV]
        go_wp2_with fail
        clear y0 y1 y2 r0 r1 r2 f0 f1 f2
        obtain ⟨n3, hc⟩ := ex_store (x := 0) (y := 0) (t := 0) HN2.out (Nat.le_succ _) HR2.out
        obtain ⟨c0, c1, c2, -, -, -⟩ := hc.cells
        refine bodyPost_ret (v := .tuple #[exV 0 0 0, .int .i64 1]) (by simp [results, Tryd.results33, go_sem, exV, c0, c1, c2]) rfl ⟨by rw [HE2.out]; rfl, n3⟩
      | some l =>
        simp only [errV, textV]
        by_cases hl : l = bs s
        · have HE2 : Hid (parseXR true false true (bs s) = some (n0, 0, n2)) := by
            have h := HE.out
            unfold backX at h
            rw [hp, hl, if_pos rfl] at h
            exact Lib.hid h
          have hB : B l = s := by rw [hl, B_bs]
          clear hp hl
          rw [hB]
          clear hB
          go_wp2_with fail
          clear y0 y1 y2 r0 r1 r2 f0 f1 f2
          obtain ⟨n3, hc⟩ := ex_store (x := n0) (y := 0) (t := n2) HN2.out (Nat.le_succ _) HR2.out
          obtain ⟨c0, c1, c2, -, -, -⟩ := hc.cells
          refine bodyPost_ret (v := .tuple #[exV n0 0 n2, .int .i64 0]) (by simp [results, Tryd.results33, go_sem, exV, c0, c1, c2]) rfl ⟨by rw [HE2.out]; rfl, n3⟩
        · have HE2 : Hid (parseXR true false true (bs s) = none) := by
            have h := HE.out
            unfold backX at h
            rw [hp, if_neg (by intro e; injection e with e; exact hl e)] at h
            exact Lib.hid h
          have hB : ((B l).toList == s.toList) = false := by
            rw [Lib.toList_data, Lib.toList_data, beq_eq_false_iff_ne]
            intro h
            exact hl h
          clear hp hl
          go_wp2_with fail
          clear y0 y1 y2 r0 r1 r2 f0 f1 f2
          obtain ⟨n3, hc⟩ := ex_store (x := 0) (y := 0) (t := 0) HN2.out (Nat.le_succ _) HR2.out
          obtain ⟨c0, c1, c2, -, -, -⟩ := hc.cells
          refine bodyPost_ret (v := .tuple #[exV 0 0 0, .int .i64 1]) (by simp [results, Tryd.results33, go_sem, exV, c0, c1, c2]) rfl ⟨by rw [HE2.out]; rfl, n3⟩
set_option maxHeartbeats 2000000 in
theorem ref_PX_ttf (s : ByteArray) (w : World) (hs : s.size ≤ 100000) :
    Calls Tryd.prog 33 #[layV true true false, .string s] w fun e w' => e = .returned (.tuple #[exO (parseXR true true false (bs s)), .int .i64 (exE (parseXR true true false (bs s)))]) ∧ New w w' := by
  have hz := bs_size s
  have HA := Lib.hid (((New.refl w).alloc (.cells #[.bool true, .bool true, .bool false] 43)).alloc (.cells #[.int .i64 0, .int .i64 0, .int .i64 0] 45))
  have HX := Lib.hid (ExAt.new w true true false 0 0 0)
  unfold layV
  by_cases h100 : 100 < s.size
  · have HE : Hid (parseXR true true false (bs s) = none) := by
      have h : parseXR true true false (bs s) = none := by unfold parseXR; rw [if_pos (by omega)]
      exact Lib.hid h
    go_enter Tryd.func33, Tryd.ntmps33
    go_wp2_with fail
    refine bodyPost_ret (v := .tuple #[exV 0 0 0, .int .i64 1]) (by simp [results, Tryd.results33, go_sem, exV]) rfl ⟨by rw [HE.out]; rfl, HA.out⟩
  · have HQ : Hid (parseXR true true false (bs s) = backX true true false (bs s) (takeR true (piecesL 32 (bs s))).1 (takeR true (takeR true (piecesL 32 (bs s))).2).1 (takeR false (takeR true (takeR true (piecesL 32 (bs s))).2).2).1) := by
      have h : parseXR true true false (bs s) = backX true true false (bs s) (takeR true (piecesL 32 (bs s))).1 (takeR true (takeR true (piecesL 32 (bs s))).2).1 (takeR false (takeR true (takeR true (piecesL 32 (bs s))).2).2).1 := by unfold parseXR; rw [if_neg (by omega)]
      exact Lib.hid h
    go_enter Tryd.func33, Tryd.ntmps33
    go_wp2_with fail
    refine (ref_split s _ hs).mono ?_
    rintro e w1 ⟨v, rfl, hst⟩
    obtain ⟨g, cap, rfl, hg1, hg2, hcap, hcell⟩ := hst.open' (pieces_len 32 (bs s)).2.1
    have HN := Lib.hid (HA.out.trans hst.2)
    have HXX := HX.out.keep hst.2
    have HL1 : Hid (Lay3 w1 w.heap.size true true false) := Lib.hid HXX.1
    have HR1 : Hid (Ex3 w1 (w.heap.size + 1) 0 0 0) := Lib.hid HXX.2
    have hpl := (pieces_len 32 (bs s)).1
    have hpz := (pieces_len 32 (bs s)).2.2
    rw [hz] at hpl hpz
    clear hst HXX HX HA
    have HNE := Lib.hid (pieces_len 32 (bs s)).2.1
    generalize piecesL 32 (bs s) = ws at *
    obtain ⟨l0, l1, l2⟩ := HL1.out.cells
    have k0 := fun o => cell_alloc l0 o
    have k1 := fun o => cell_alloc l1 o
    have k2 := fun o => cell_alloc l2 o
    clear l0 l1 l2
    match ws with
    | [] => exact absurd rfl HNE.out
    | [x] =>
      have c0 := hcell 0 x rfl
      have hx := hpz x (by simp)
      have HE : Hid (parseXR true true false (bs s) = backX true true false (bs s) (numI (numR x)) 0 0) := HQ
      clear hcell hpz HQ HNE
      simp only [strV] at c0
      have d0 := fun o => cell_alloc c0 o
      go_wp2_with fail
      refine (ref_number (B x) _ (by rw [B_size]; omega)).mono ?_
      rintro e w2 ⟨rfl, rfl⟩
      rw [bs_B]
      clear c0 d0
      generalize numI (numR x) = n0 at *
      have HY := Lib.hid (Ex3.new w1 n0 0 0)
      have HN1 := Lib.hid ((New.refl w1).alloc (.cells #[.int .i64 n0, .int .i64 0, .int .i64 0] 45))
      go_wp2_with fail
      refine (ref_PrintExchange true true false n0 0 0 _).mono ?_
      rintro e w2 ⟨rfl, h2⟩
      have HY2 := Lib.hid (HY.out.keep h2)
      have HR2 := Lib.hid (HR1.out.keep (HN1.out.trans h2))
      have HN2 := Lib.hid (HN.out.trans (HN1.out.trans h2))
      clear h2 HY HN1
      clear k0 k1 k2
      obtain ⟨y0, y1, y2, -, -, -⟩ := HY2.out.cells
      obtain ⟨r0, r1, r2, f0, f1, f2⟩ := HR2.out.cells
      cases hp : printX true true false n0 0 0 with
      | none =>
        have HE2 : Hid (parseXR true true false (bs s) = none) := by
          have h := HE.out
          unfold backX at h
          rw [hp] at h
          exact Lib.hid h
        clear hp
        simp only [errV, textV]
        go_wp2_with fail
        clear y0 y1 y2 r0 r1 r2 f0 f1 f2
        obtain ⟨n3, hc⟩ := ex_store (x := 0) (y := 0) (t := 0) HN2.out (Nat.le_succ _) HR2.out
        obtain ⟨c0, c1, c2, -, -, -⟩ := hc.cells
        refine bodyPost_ret (v := .tuple #[exV 0 0 0, .int .i64 1]) (by simp [results, Tryd.results33, go_sem, exV, c0, c1, c2]) rfl ⟨by rw [HE2.out]; rfl, n3⟩
      | some l =>
        simp only [errV, textV]
        by_cases hl : l = bs s
        · have HE2 : Hid (parseXR true true false (bs s) = some (n0, 0, 0)) := by
            have h := HE.out
            unfold backX at h
            rw [hp, hl, if_pos rfl] at h
            exact Lib.hid h
          have hB : B l = s := by rw [hl, B_bs]
          clear hp hl
          rw [hB]
          clear hB
          go_wp2_with fail
          clear y0 y1 y2 r0 r1 r2 f0 f1 f2
          obtain ⟨n3, hc⟩ := ex_store (x := n0) (y := 0) (t := 0) HN2.out (Nat.le_succ _) HR2.out
          obtain ⟨c0, c1, c2, -, -, -⟩ := hc.cells
          refine bodyPost_ret (v := .tuple #[exV n0 0 0, .int .i64 0]) (by simp [results, Tryd.results33, go_sem, exV, c0, c1, c2]) rfl ⟨by rw [HE2.out]; rfl, n3⟩
        · have HE2 : Hid (parseXR true true false (bs s) = none) := by
            have h := HE.out
            unfold backX at h
            rw [hp, if_neg (by intro e; injection e with e; exact hl e)] at h
            exact Lib.hid h
          have hB : ((B l).toList == s.toList) = false := by
            rw [Lib.toList_data, Lib.toList_data, beq_eq_false_iff_ne]
            intro h
            exact hl h
          clear hp hl
          go_wp2_with fail
          clear y0 y1 y2 r0 r1 r2 f0 f1 f2
          obtain ⟨n3, hc⟩ := ex_store (x := 0) (y := 0) (t := 0) HN2.out (Nat.le_succ _) HR2.out
          obtain ⟨c0, c1, c2, -, -, -⟩ := hc.cells
          refine bodyPost_ret (v := .tuple #[exV 0 0 0, .int .i64 1]) (by simp [results, Tryd.results33, go_sem, exV, c0, c1, c2]) rfl ⟨by rw [HE2.out]; rfl, n3⟩
    | x :: y :: ps =>
      have c0 := hcell 0 x rfl
      have hx := hpz x (by simp)
      have c1 := hcell 1 y rfl
      have hy := hpz y (by simp)
      have HE : Hid (parseXR true true false (bs s) = backX true true false (bs s) (numI (numR x)) (numI (numR y)) 0) := HQ
      have hlen : (x :: y :: ps).length = ps.length + 2 := rfl
      rw [hlen] at hcap hpl ⊢
      clear hcell hpz HQ HNE hlen
      generalize ps.length = m at *
      simp only [strV] at c0 c1
      have d0 := fun o => cell_alloc c0 o
      have d1 := fun o => cell_alloc c1 o
      go_wp2_with fail
      refine (ref_number (B x) _ (by rw [B_size]; omega)).mono ?_
      rintro e w2 ⟨rfl, rfl⟩
      rw [bs_B]
      go_wp2_with fail
      refine (ref_number (B y) _ (by rw [B_size]; omega)).mono ?_
      rintro e w2 ⟨rfl, rfl⟩
      rw [bs_B]
      clear c0 c1 d0 d1
      generalize numI (numR x) = n0 at *
      generalize numI (numR y) = n1 at *
      have HY := Lib.hid (Ex3.new w1 n0 n1 0)
      have HN1 := Lib.hid ((New.refl w1).alloc (.cells #[.int .i64 n0, .int .i64 n1, .int .i64 0] 45))
      go_wp2_with fail
      refine (ref_PrintExchange true true false n0 n1 0 _).mono ?_
      rintro e w2 ⟨rfl, h2⟩
      have HY2 := Lib.hid (HY.out.keep h2)
      have HR2 := Lib.hid (HR1.out.keep (HN1.out.trans h2))
      have HN2 := Lib.hid (HN.out.trans (HN1.out.trans h2))
      clear h2 HY HN1
      clear k0 k1 k2
      obtain ⟨y0, y1, y2, -, -, -⟩ := HY2.out.cells
      obtain ⟨r0, r1, r2, f0, f1, f2⟩ := HR2.out.cells
      cases hp : printX true true false n0 n1 0 with
      | none =>
        have HE2 : Hid (parseXR true true false (bs s) = none) := by
          have h := HE.out
          unfold backX at h
          rw [hp] at h
          exact Lib.hid h
        clear hp
        simp only [errV, textV]
        go_wp2_with fail
        clear y0 y1 y2 r0 r1 r2 f0 f1 f2
        obtain ⟨n3, hc⟩ := ex_store (x := 0) (y := 0) (t := 0) HN2.out (Nat.le_succ _) HR2.out
        obtain ⟨c0, c1, c2, -, -, -⟩ := hc.cells
        refine bodyPost_ret (v := .tuple #[exV 0 0 0, .int .i64 1]) (by simp [results, Tryd.results33, go_sem, exV, c0, c1, c2]) rfl ⟨by rw [HE2.out]; rfl, n3⟩
      | some l =>
        simp only [errV, textV]
        by_cases hl : l = bs s
        · have HE2 : Hid (parseXR true true false (bs s) = some (n0, n1, 0)) := by
            have h := HE.out
            unfold backX at h
            rw [hp, hl, if_pos rfl] at h
            exact Lib.hid h
          have hB : B l = s := by rw [hl, B_bs]
          clear hp hl
          rw [hB]
          clear hB
          go_wp2_with fail
          clear y0 y1 y2 r0 r1 r2 f0 f1 f2
          obtain ⟨n3, hc⟩ := ex_store (x := n0) (y := n1) (t := 0) HN2.out (Nat.le_succ _) HR2.out
          obtain ⟨c0, c1, c2, -, -, -⟩ := hc.cells
          refine bodyPost_ret (v := .tuple #[exV n0 n1 0, .int .i64 0]) (by simp [results, Tryd.results33, go_sem, exV, c0, c1, c2]) rfl ⟨by rw [HE2.out]; rfl, n3⟩
        · have HE2 : Hid (parseXR true true false (bs s) = none) := by
            have h := HE.out
            unfold backX at h
            rw [hp, if_neg (by intro e; injection e with e; exact hl e)] at h
            exact Lib.hid h
          have hB : ((B l).toList == s.toList) = false := by
            rw [Lib.toList_data, Lib.toList_data, beq_eq_false_iff_ne]
            intro h
            exact hl h
          clear hp hl
          go_wp2_with fail
          clear y0 y1 y2 r0 r1 r2 f0 f1 f2
          obtain ⟨n3, hc⟩ := ex_store (x := 0) (y := 0) (t := 0) HN2.out (Nat.le_succ _) HR2.out
          obtain ⟨c0, c1, c2, -, -, -⟩ := hc.cells
          refine bodyPost_ret (v := .tuple #[exV 0 0 0, .int .i64 1]) (by simp [results, Tryd.results33, go_sem, exV, c0, c1, c2]) rfl ⟨by rw [HE2.out]; rfl, n3⟩
set_option maxHeartbeats 2000000 in
theorem ref_PX_ttt (s : ByteArray) (w : World) (hs : s.size ≤ 100000) :
    Calls Tryd.prog 33 #[layV true true true, .string s] w fun e w' => e = .returned (.tuple #[exO (parseXR true true true (bs s)), .int .i64 (exE (parseXR true true true (bs s)))]) ∧ New w w' := by
  have hz := bs_size s
  have HA := Lib.hid (((New.refl w).alloc (.cells #[.bool true, .bool true, .bool true] 43)).alloc (.cells #[.int .i64 0, .int .i64 0, .int .i64 0] 45))
  have HX := Lib.hid (ExAt.new w true true true 0 0 0)
  unfold layV
  by_cases h100 : 100 < s.size
  · have HE : Hid (parseXR true true true (bs s) = none) := by
      have h : parseXR true true true (bs s) = none := by unfold parseXR; rw [if_pos (by omega)]
      exact Lib.hid h
    go_enter Tryd.func33, Tryd.ntmps33
    go_wp2_with fail
    refine bodyPost_ret (v := .tuple #[exV 0 0 0, .int .i64 1]) (by simp [results, Tryd.results33, go_sem, exV]) rfl ⟨by rw [HE.out]; rfl, HA.out⟩
  · have HQ : Hid (parseXR true true true (bs s) = backX true true true (bs s) (takeR true (piecesL 32 (bs s))).1 (takeR true (takeR true (piecesL 32 (bs s))).2).1 (takeR true (takeR true (takeR true (piecesL 32 (bs s))).2).2).1) := by
      have h : parseXR true true true (bs s) = backX true true true (bs s) (takeR true (piecesL 32 (bs s))).1 (takeR true (takeR true (piecesL 32 (bs s))).2).1 (takeR true (takeR true (takeR true (piecesL 32 (bs s))).2).2).1 := by unfold parseXR; rw [if_neg (by omega)]
      exact Lib.hid h
    go_enter Tryd.func33, Tryd.ntmps33
    go_wp2_with fail
    refine (ref_split s _ hs).mono ?_
    rintro e w1 ⟨v, rfl, hst⟩
    obtain ⟨g, cap, rfl, hg1, hg2, hcap, hcell⟩ := hst.open' (pieces_len 32 (bs s)).2.1
    have HN := Lib.hid (HA.out.trans hst.2)
    have HXX := HX.out.keep hst.2
    have HL1 : Hid (Lay3 w1 w.heap.size true true true) := Lib.hid HXX.1
    have HR1 : Hid (Ex3 w1 (w.heap.size + 1) 0 0 0) := Lib.hid HXX.2
    have hpl := (pieces_len 32 (bs s)).1
    have hpz := (pieces_len 32 (bs s)).2.2
    rw [hz] at hpl hpz
    clear hst HXX HX HA
    have HNE := Lib.hid (pieces_len 32 (bs s)).2.1
    generalize piecesL 32 (bs s) = ws at *
    obtain ⟨l0, l1, l2⟩ := HL1.out.cells
    have k0 := fun o => cell_alloc l0 o
    have k1 := fun o => cell_alloc l1 o
    have k2 := fun o => cell_alloc l2 o
    clear l0 l1 l2
    match ws with
    | [] => exact absurd rfl HNE.out
    | [x] =>
      have c0 := hcell 0 x rfl
      have hx := hpz x (by simp)
      have HE : Hid (parseXR true true true (bs s) = backX true true true (bs s) (numI (numR x)) 0 0) := HQ
      clear hcell hpz HQ HNE
      simp only [strV] at c0
      have d0 := fun o => cell_alloc c0 o
      go_wp2_with fail
      refine (ref_number (B x) _ (by rw [B_size]; omega)).mono ?_
      rintro e w2 ⟨rfl, rfl⟩
      rw [bs_B]
      clear c0 d0
      generalize numI (numR x) = n0 at *
      have HY := Lib.hid (Ex3.new w1 n0 0 0)
      have HN1 := Lib.hid ((New.refl w1).alloc (.cells #[.int .i64 n0, .int .i64 0, .int .i64 0] 45))
      go_wp2_with fail
      refine (ref_PrintExchange true true true n0 0 0 _).mono ?_
      rintro e w2 ⟨rfl, h2⟩
      have HY2 := Lib.hid (HY.out.keep h2)
      have HR2 := Lib.hid (HR1.out.keep (HN1.out.trans h2))
      have HN2 := Lib.hid (HN.out.trans (HN1.out.trans h2))
      clear h2 HY HN1
      clear k0 k1 k2
      obtain ⟨y0, y1, y2, -, -, -⟩ := HY2.out.cells
      obtain ⟨r0, r1, r2, f0, f1, f2⟩ := HR2.out.cells
      cases hp : printX true true true n0 0 0 with
      | none =>
        have HE2 : Hid (parseXR true true true (bs s) = none) := by
          have h := HE.out
          unfold backX at h
          rw [hp] at h
          exact Lib.hid h
        clear hp
        simp only [errV, textV]
        go_wp2_with fail
        clear y0 y1 y2 r0 r1 r2 f0 f1 f2
        obtain ⟨n3, hc⟩ := ex_store (x := 0) (y := 0) (t := 0) HN2.out (Nat.le_succ _) HR2.out
        obtain ⟨c0, c1, c2, -, -, -⟩ := hc.cells
        refine bodyPost_ret (v := .tuple #[exV 0 0 0, .int .i64 1]) (by simp [results, Tryd.results33, go_sem, exV, c0, c1, c2]) rfl ⟨by rw [HE2.out]; rfl, n3⟩
      | some l =>
        simp only [errV, textV]
        by_cases hl : l = bs s
        · have HE2 : Hid (parseXR true true true (bs s) = some (n0, 0, 0)) := by
            have h := HE.out
            unfold backX at h
            rw [hp, hl, if_pos rfl] at h
            exact Lib.hid h
          have hB : B l = s := by rw [hl, B_bs]
          clear hp hl
          rw [hB]
          clear hB
          go_wp2_with fail
          clear y0 y1 y2 r0 r1 r2 f0 f1 f2
          obtain ⟨n3, hc⟩ := ex_store (x := n0) (y := 0) (t := 0) HN2.out (Nat.le_succ _) HR2.out
          obtain ⟨c0, c1, c2, -, -, -⟩ := hc.cells
          refine bodyPost_ret (v := .tuple #[exV n0 0 0, .int .i64 0]) (by simp [results, Tryd.results33, go_sem, exV, c0, c1, c2]) rfl ⟨by rw [HE2.out]; rfl, n3⟩
        · have HE2 : Hid (parseXR true true true (bs s) = none) := by
            have h := HE.out
            unfold backX at h
            rw [hp, if_neg (by intro e; injection e with e; exact hl e)] at h
            exact Lib.hid h
          have hB : ((B l).toList == s.toList) = false := by
            rw [Lib.toList_data, Lib.toList_data, beq_eq_false_iff_ne]
            intro h
            exact hl h
          clear hp hl
          go_wp2_with fail
          clear y0 y1 y2 r0 r1 r2 f0 f1 f2
          obtain ⟨n3, hc⟩ := ex_store (x := 0) (y := 0) (t := 0) HN2.out (Nat.le_succ _) HR2.out
          obtain ⟨c0, c1, c2, -, -, -⟩ := hc.cells
          refine bodyPost_ret (v := .tuple #[exV 0 0 0, .int .i64 1]) (by simp [results, Tryd.results33, go_sem, exV, c0, c1, c2]) rfl ⟨by rw [HE2.out]; rfl, n3⟩
    | [x, y] =>
      have c0 := hcell 0 x rfl
      have hx := hpz x (by simp)
      have c1 := hcell 1 y rfl
      have hy := hpz y (by simp)
      have HE : Hid (parseXR true true true (bs s) = backX true true true (bs s) (numI (numR x)) (numI (numR y)) 0) := HQ
      clear hcell hpz HQ HNE
      simp only [strV] at c0 c1
      have d0 := fun o => cell_alloc c0 o
      have d1 := fun o => cell_alloc c1 o
      go_wp2_with fail
      refine (ref_number (B x) _ (by rw [B_size]; omega)).mono ?_
      rintro e w2 ⟨rfl, rfl⟩
      rw [bs_B]
      go_wp2_with fail
      refine (ref_number (B y) _ (by rw [B_size]; omega)).mono ?_
      rintro e w2 ⟨rfl, rfl⟩
      rw [bs_B]
      clear c0 c1 d0 d1
      generalize numI (numR x) = n0 at *
      generalize numI (numR y) = n1 at *
      have HY := Lib.hid (Ex3.new w1 n0 n1 0)
      have HN1 := Lib.hid ((New.refl w1).alloc (.cells #[.int .i64 n0, .int .i64 n1, .int .i64 0] 45))
      go_wp2_with fail
      refine (ref_PrintExchange true true true n0 n1 0 _).mono ?_
      rintro e w2 ⟨rfl, h2⟩
      have HY2 := Lib.hid (HY.out.keep h2)
      have HR2 := Lib.hid (HR1.out.keep (HN1.out.trans h2))
      have HN2 := Lib.hid (HN.out.trans (HN1.out.trans h2))
      clear h2 HY HN1
      clear k0 k1 k2
      obtain ⟨y0, y1, y2, -, -, -⟩ := HY2.out.cells
      obtain ⟨r0, r1, r2, f0, f1, f2⟩ := HR2.out.cells
      cases hp : printX true true true n0 n1 0 with
      | none =>
        have HE2 : Hid (parseXR true true true (bs s) = none) := by
          have h := HE.out
          unfold backX at h
          rw [hp] at h
          exact Lib.hid h
        clear hp
        simp only [errV, textV]
        go_wp2_with fail
        clear y0 y1 y2 r0 r1 r2 f0 f1 f2
        obtain ⟨n3, hc⟩ := ex_store (x := 0) (y := 0) (t := 0) HN2.out (Nat.le_succ _) HR2.out
        obtain ⟨c0, c1, c2, -, -, -⟩ := hc.cells
        refine bodyPost_ret (v := .tuple #[exV 0 0 0, .int .i64 1]) (by simp [results, Tryd.results33, go_sem, exV, c0, c1, c2]) rfl ⟨by rw [HE2.out]; rfl, n3⟩
      | some l =>
        simp only [errV, textV]
        by_cases hl : l = bs s
        · have HE2 : Hid (parseXR true true true (bs s) = some (n0, n1, 0)) := by
            have h := HE.out
            unfold backX at h
            rw [hp, hl, if_pos rfl] at h
            exact Lib.hid h
          have hB : B l = s := by rw [hl, B_bs]
          clear hp hl
          rw [hB]
          clear hB
          go_wp2_with fail
          clear y0 y1 y2 r0 r1 r2 f0 f1 f2
          obtain ⟨n3, hc⟩ := ex_store (x := n0) (y := n1) (t := 0) HN2.out (Nat.le_succ _) HR2.out
          obtain ⟨c0, c1, c2, -, -, -⟩ := hc.cells
          refine bodyPost_ret (v := .tuple #[exV n0 n1 0, .int .i64 0]) (by simp [results, Tryd.results33, go_sem, exV, c0, c1, c2]) rfl ⟨by rw [HE2.out]; rfl, n3⟩
        · have HE2 : Hid (parseXR true true true (bs s) = none) := by
            have h := HE.out
            unfold backX at h
            rw [hp, if_neg (by intro e; injection e with e; exact hl e)] at h
            exact Lib.hid h
          have hB : ((B l).toList == s.toList) = false := by
            rw [Lib.toList_data, Lib.toList_data, beq_eq_false_iff_ne]
            intro h
            exact hl h
          clear hp hl
          go_wp2_with fail
          clear y0 y1 y2 r0 r1 r2 f0 f1 f2
          obtain ⟨n3, hc⟩ := ex_store (x := 0) (y := 0) (t := 0) HN2.out (Nat.le_succ _) HR2.out
          obtain ⟨c0, c1, c2, -, -, -⟩ := hc.cells
          refine bodyPost_ret (v := .tuple #[exV 0 0 0, .int .i64 1]) (by simp [results, Tryd.results33, go_sem, exV, c0, c1, c2]) rfl ⟨by rw [HE2.out]; rfl, n3⟩
    | x :: y :: q :: ps =>
      have c0 := hcell 0 x rfl
      have hx := hpz x (by simp)
      have c1 := hcell 1 y rfl
      have hy := hpz y (by simp)
      have c2 := hcell 2 q rfl
      have hq := hpz q (by simp)
      have HE : Hid (parseXR true true true (bs s) = backX true true true (bs s) (numI (numR x)) (numI (numR y)) (numI (numR q))) := HQ
      have hlen : (x :: y :: q :: ps).length = ps.length + 3 := rfl
      rw [hlen] at hcap hpl ⊢
      clear hcell hpz HQ HNE hlen
      generalize ps.length = m at *
      simp only [strV] at c0 c1 c2
      have d0 := fun o => cell_alloc c0 o
      have d1 := fun o => cell_alloc c1 o
      have d2 := fun o => cell_alloc c2 o
      go_wp2_with fail
      refine (ref_number (B x) _ (by rw [B_size]; omega)).mono ?_
      rintro e w2 ⟨rfl, rfl⟩
      rw [bs_B]
      go_wp2_with fail
      refine (ref_number (B y) _ (by rw [B_size]; omega)).mono ?_
      rintro e w2 ⟨rfl, rfl⟩
      rw [bs_B]
      go_wp2_with fail
      refine (ref_number (B q) _ (by rw [B_size]; omega)).mono ?_
      rintro e w2 ⟨rfl, rfl⟩
      rw [bs_B]
      clear c0 c1 c2 d0 d1 d2
      generalize numI (numR x) = n0 at *
      generalize numI (numR y) = n1 at *
      generalize numI (numR q) = n2 at *
      have HY := Lib.hid (Ex3.new w1 n0 n1 n2)
      have HN1 := Lib.hid ((New.refl w1).alloc (.cells #[.int .i64 n0, .int .i64 n1, .int .i64 n2] 45))
      go_wp2_with fail
      refine (ref_PrintExchange true true true n0 n1 n2 _).mono ?_
      rintro e w2 ⟨rfl, h2⟩
      have HY2 := Lib.hid (HY.out.keep h2)
      have HR2 := Lib.hid (HR1.out.keep (HN1.out.trans h2))
      have HN2 := Lib.hid (HN.out.trans (HN1.out.trans h2))
      clear h2 HY HN1
      clear k0 k1 k2
      obtain ⟨y0, y1, y2, -, -, -⟩ := HY2.out.cells
      obtain ⟨r0, r1, r2, f0, f1, f2⟩ := HR2.out.cells
      cases hp : printX true true true n0 n1 n2 with
      | none =>
        have HE2 : Hid (parseXR true true true (bs s) = none) := by
          have h := HE.out
          unfold backX at h
          rw [hp] at h
          exact Lib.hid h
        clear hp
        simp only [errV, textV]
        go_wp2_with fail
        clear y0 y1 y2 r0 r1 r2 f0 f1 f2
        obtain ⟨n3, hc⟩ := ex_store (x := 0) (y := 0) (t := 0) HN2.out (Nat.le_succ _) HR2.out
        obtain ⟨c0, c1, c2, -, -, -⟩ := hc.cells
        refine bodyPost_ret (v := .tuple #[exV 0 0 0, .int .i64 1]) (by simp [results, Tryd.results33, go_sem, exV, c0, c1, c2]) rfl ⟨by rw [HE2.out]; rfl, n3⟩
      | some l =>
        simp only [errV, textV]
        by_cases hl : l = bs s
        · have HE2 : Hid (parseXR true true true (bs s) = some (n0, n1, n2)) := by
            have h := HE.out
            unfold backX at h
            rw [hp, hl, if_pos rfl] at h
            exact Lib.hid h
          have hB : B l = s := by rw [hl, B_bs]
          clear hp hl
          rw [hB]
          clear hB
          go_wp2_with fail
          clear y0 y1 y2 r0 r1 r2 f0 f1 f2
          obtain ⟨n3, hc⟩ := ex_store (x := n0) (y := n1) (t := n2) HN2.out (Nat.le_succ _) HR2.out
          obtain ⟨c0, c1, c2, -, -, -⟩ := hc.cells
          refine bodyPost_ret (v := .tuple #[exV n0 n1 n2, .int .i64 0]) (by simp [results, Tryd.results33, go_sem, exV, c0, c1, c2]) rfl ⟨by rw [HE2.out]; rfl, n3⟩
        · have HE2 : Hid (parseXR true true true (bs s) = none) := by
            have h := HE.out
            unfold backX at h
            rw [hp, if_neg (by intro e; injection e with e; exact hl e)] at h
            exact Lib.hid h
          have hB : ((B l).toList == s.toList) = false := by
            rw [Lib.toList_data, Lib.toList_data, beq_eq_false_iff_ne]
            intro h
            exact hl h
          clear hp hl
          go_wp2_with fail
          clear y0 y1 y2 r0 r1 r2 f0 f1 f2
          obtain ⟨n3, hc⟩ := ex_store (x := 0) (y := 0) (t := 0) HN2.out (Nat.le_succ _) HR2.out
          obtain ⟨c0, c1, c2, -, -, -⟩ := hc.cells
          refine bodyPost_ret (v := .tuple #[exV 0 0 0, .int .i64 1]) (by simp [results, Tryd.results33, go_sem, exV, c0, c1, c2]) rfl ⟨by rw [HE2.out]; rfl, n3⟩
theorem ref_ParseExchange (r s z : Bool) (l : ByteArray) (w : World) (hs : l.size ≤ 100000) :
    Calls Tryd.prog 33 #[layV r s z, .string l] w fun e w' => e = .returned (.tuple #[exO (parseXR r s z (bs l)), .int .i64 (exE (parseXR r s z (bs l)))]) ∧ New w w' := by
  cases r <;> cases s <;> cases z
  · exact ref_PX_fff l w hs
  · exact ref_PX_fft l w hs
  · exact ref_PX_ftf l w hs
  · exact ref_PX_ftt l w hs
  · exact ref_PX_tff l w hs
  · exact ref_PX_tft l w hs
  · exact ref_PX_ttf l w hs
  · exact ref_PX_ttt l w hs

end Go.Proofs.YtcaljokcgfkppaaDoor
