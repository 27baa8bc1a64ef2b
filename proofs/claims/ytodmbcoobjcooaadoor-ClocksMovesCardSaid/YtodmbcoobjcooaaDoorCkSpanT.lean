/-
  Before and Offset of the program, at a system that closes and lines of it. Condition: the system lies in memory.
  Lists of lists of spans, as they grow. No condition.
  Times of the program, at a system that closes. Condition: the system lies in memory.
-/
import Derived.Test.YtodmbcoobjcooaaDoorCkInterval
import Derived.Deep.AppendLies
namespace Go.Proofs.YtodmbcoobjcooaaDoor
open Go Go.RowKit Go.Shelf
attribute [local go_sem] Oper.semAt_some
set_option maxRecDepth 100000 in
set_option maxHeartbeats 8000000 in
theorem ck_Before (s : Sy) (hs : Ok s) (A D : Option Addr) (c d : Nat) (w : World) (hM : SysM w A D s) (hbeg : BegA w) (hcl : Closes (egs s)) (a b : Rf) (ha : lineB s a = true) (hb : lineB s b = true) :
    Calls Tryd.prog 46 #[.agg #[.slice A s.tracks.length c, .slice D s.ties.length d, .int .i64 s.window], .agg #[.int .i64 a.log, .int .i64 a.line], .agg #[.int .i64 b.log, .int .i64 b.line]] w fun e w' => ∃ db, e = .returned (.tuple #[.bool (decide (0 < -db (plc s b))), .int .i64 0]) ∧ New w w' ∧ Dist (turnE (egs s)) (nPl s) (plc s a) 22001 db := by
  have n3 := (((New.refl w).alloc (.cells #[.slice A s.tracks.length c, .slice D s.ties.length d, .int .i64 s.window] 25)).alloc (.cells #[.int .i64 a.log, .int .i64 a.line] 53)).alloc (.cells #[.int .i64 b.log, .int .i64 b.line] 53)
  have HRL : Hid (Calls Tryd.prog 40 #[.agg #[.slice A s.tracks.length c, .slice D s.ties.length d, .int .i64 s.window], .agg #[.int .i64 a.log, .int .i64 a.line], .agg #[.int .i64 b.log, .int .i64 b.line]] (((w.alloc (.cells #[.slice A s.tracks.length c, .slice D s.ties.length d, .int .i64 s.window] 25)).alloc (.cells #[.int .i64 a.log, .int .i64 a.line] 53)).alloc (.cells #[.int .i64 b.log, .int .i64 b.line] 53)) fun e w' => ∃ dd db, e = .returned (.tuple #[.agg #[.int .i64 (-db (plc s b)), .int .i64 (dd (plc s b))], .int .i64 0]) ∧ New (((w.alloc (.cells #[.slice A s.tracks.length c, .slice D s.ties.length d, .int .i64 s.window] 25)).alloc (.cells #[.int .i64 a.log, .int .i64 a.line] 53)).alloc (.cells #[.int .i64 b.log, .int .i64 b.line] 53)) w' ∧ Dist (egs s) (nPl s) (plc s a) 22001 dd ∧ Dist (turnE (egs s)) (nPl s) (plc s a) 22001 db) := Lib.hid (ck_Relation s hs A D c d _ (hM.keep n3) ⟨n3.cellOf hbeg.1, n3.cellOf hbeg.2⟩ hcl a b ha hb)
  have HN3 := Lib.hid n3
  clear n3 hs hM hbeg hcl ha hb
  go_enter Tryd.func46, Tryd.ntmps46
  go_wp2_with fail
  refine HRL.out.mono ?_
  rintro e w1 ⟨dd, db, rfl, m1, d1, d2⟩
  have HD := Lib.hid d2
  have HM1 := Lib.hid (HN3.out.trans m1)
  clear HRL HN3 m1 d1 d2
  generalize hx : -db (plc s b) = x at *
  go_wp2_with fail
  go_ret2
  subst hx
  exact ⟨db, rfl, HM1.out.alloc _, HD.out⟩
set_option maxRecDepth 100000 in
set_option maxHeartbeats 8000000 in
theorem ck_Offset (s : Sy) (hs : Ok s) (A D : Option Addr) (c d : Nat) (w : World) (hM : SysM w A D s) (hbeg : BegA w) (hcl : Closes (egs s)) (i j : Nat) (hi : i < s.tracks.length) (hj : j < (tkAt s i).times.length) :
    Calls Tryd.prog 38 #[.agg #[.slice A s.tracks.length c, .slice D s.ties.length d, .int .i64 s.window], .agg #[.int .i64 i, .int .i64 j]] w fun e w' => ∃ dd db, e = .returned (.tuple #[.agg #[.int .i64 (tmAt (tkAt s i) j - dd (plc s ⟨i, j⟩)), .int .i64 (tmAt (tkAt s i) j - -db (plc s ⟨i, j⟩))], .int .i64 0]) ∧ New w w' ∧ Dist (egs s) (nPl s) 0 22001 dd ∧ Dist (turnE (egs s)) (nPl s) 0 22001 db := by
  have hl := line_mk hi hj
  have htk := (trackB_facts (hs.track hi)).1 j hj
  have hpl := plc_lt (.inr hl)
  have hnp := nPl_le hs
  have n3 := (((New.refl w).alloc (.cells #[.slice A s.tracks.length c, .slice D s.ties.length d, .int .i64 s.window] 25)).alloc (.cells #[.int .i64 i, .int .i64 j] 53)).alloc (.cells #[.int .i64 0, .int .i64 0] 55)
  have HIN : Hid (Calls Tryd.prog 36 #[.agg #[.slice A s.tracks.length c, .slice D s.ties.length d, .int .i64 s.window], .agg #[.int .i64 i, .int .i64 j]] (((w.alloc (.cells #[.slice A s.tracks.length c, .slice D s.ties.length d, .int .i64 s.window] 25)).alloc (.cells #[.int .i64 i, .int .i64 j] 53)).alloc (.cells #[.int .i64 0, .int .i64 0] 55)) fun e w' => ∃ dd db, e = .returned (.tuple #[.agg #[.int .i64 (-db (plc s ⟨i, j⟩)), .int .i64 (dd (plc s ⟨i, j⟩))], .int .i64 0]) ∧ New (((w.alloc (.cells #[.slice A s.tracks.length c, .slice D s.ties.length d, .int .i64 s.window] 25)).alloc (.cells #[.int .i64 i, .int .i64 j] 53)).alloc (.cells #[.int .i64 0, .int .i64 0] 55)) w' ∧ Dist (egs s) (nPl s) 0 22001 dd ∧ Dist (turnE (egs s)) (nPl s) 0 22001 db) := Lib.hid (ck_Interval s hs A D c d _ (hM.keep n3) ⟨n3.cellOf hbeg.1, n3.cellOf hbeg.2⟩ hcl ⟨i, j⟩ hl)
  have r1 := RowIs.new w 25 [.slice A s.tracks.length c, .slice D s.ties.length d, .int .i64 s.window]
  have r2 := RowIs.new (w.alloc (.cells #[.slice A s.tracks.length c, .slice D s.ties.length d, .int .i64 s.window] 25)) 53 [.int .i64 i, .int .i64 j]
  have r3 := RowIs.new ((w.alloc (.cells #[.slice A s.tracks.length c, .slice D s.ties.length d, .int .i64 s.window] 25)).alloc (.cells #[.int .i64 i, .int .i64 j] 53)) 55 [.int .i64 0, .int .i64 0]
  have m23 := (New.refl ((w.alloc (.cells #[.slice A s.tracks.length c, .slice D s.ties.length d, .int .i64 s.window] 25)).alloc (.cells #[.int .i64 i, .int .i64 j] 53))).alloc (.cells #[.int .i64 0, .int .i64 0] 55)
  have m13 := ((New.refl (w.alloc (.cells #[.slice A s.tracks.length c, .slice D s.ties.length d, .int .i64 s.window] 25))).alloc (.cells #[.int .i64 i, .int .i64 j] 53)).trans m23
  replace r1 := r1.keep m13
  replace r2 := r2.keep m23
  simp only [World.size_alloc] at r2 r3
  have HR1 := Lib.hid r1
  have HR2 := Lib.hid r2
  have HR3 := Lib.hid r3
  have HN3 := Lib.hid n3
  obtain ⟨b, off, rfl, -, hc⟩ := hM.1.2 (by omega)
  obtain ⟨JA, jc, TA, tc, -, -, -, z3, -, hT⟩ := hc i hi
  have et : s.tracks[i]?.getD default = tkAt s i := rfl
  rw [et] at z3 hT
  obtain ⟨tb, to, rfl, -, hcT⟩ := hT.2 (by omega)
  have zt := hcT j hj
  have e2 : (tkAt s i).times[j]?.getD 0 = tmAt (tkAt s i) j := rfl
  rw [e2] at zt
  clear n3 hs hM hbeg hcl r1 r2 r3 m23 m13 hc hT hcT et e2 hl
  generalize tmAt (tkAt s i) j = sh at *
  generalize hlen : (tkAt s i).times.length = tl at *
  have i1 : (i : Int) < (s.tracks.length : Int) := by omega
  have i2 : (j : Int) < (tl : Int) := by omega
  go_enter Tryd.func38, Tryd.ntmps38
  go_wp2_with fail
  refine HIN.out.mono ?_
  rintro e w1 ⟨dd, db, rfl, m1, d1, d2⟩
  have HD1 := Lib.hid d1
  have HD2 := Lib.hid d2
  have hb1 : -1099511627776 ≤ dd (plc s ⟨i, j⟩) ∧ dd (plc s ⟨i, j⟩) ≤ 1099511627776 := by
    have h1 := d1.lo _ hpl
    by_cases hb : dd (plc s ⟨i, j⟩) = NB
    · rw [hb]; unfold NB; omega
    · have h3 := d1.hi _ hpl hb
      omega
  have hb2 : -1099511627776 ≤ db (plc s ⟨i, j⟩) ∧ db (plc s ⟨i, j⟩) ≤ 1099511627776 := by
    have h1 := d2.lo _ hpl
    by_cases hb : db (plc s ⟨i, j⟩) = NB
    · rw [hb]; unfold NB; omega
    · have h3 := d2.hi _ hpl hb
      omega
  clear d1 d2
  generalize hx : dd (plc s ⟨i, j⟩) = x at *
  generalize hy : db (plc s ⟨i, j⟩) = y at *
  have HM1 := Lib.hid (HN3.out.trans m1)
  have m2 := m1.alloc (.cells #[.int .i64 (-y), .int .i64 x] 55)
  have HA := Lib.hid (HR1.out.keep m2)
  have HB := Lib.hid (HR2.out.keep m2)
  have HC := Lib.hid (HR3.out.keep m2)
  have HX := Lib.hid (RowIs.new w1 55 [.int .i64 (-y), .int .i64 x])
  have HM2 := Lib.hid (HN3.out.trans m2)
  have y0 := HA.out.cell (i := 0) rfl
  have y1 := HB.out.cell (i := 0) rfl
  have y2 := HB.out.cell (i := 1) rfl
  have y3 := HM2.out.cellOf z3
  have y4 := HM2.out.cellOf zt
  have w1e : IntKind.i64.wrap (sh - x) = sh - x := IntWalk.i64_in _ (by omega)
  have w2e : IntKind.i64.wrap (sh - -y) = sh - -y := IntWalk.i64_in _ (by omega)
  clear m1 m2 HIN HR1 HR2 HR3 z3 zt
  go_wp2_with fail
  go_quiet (fail)
  have hk := (New.refl (w1.alloc (.cells #[.int .i64 (-y), .int .i64 x] 55))).drewN nq
  have HC2 := Lib.hid (HC.out.keep hk)
  have HX2 := Lib.hid (HX.out.keep hk)
  have HM3 := Lib.hid (HM2.out.trans hk)
  clear hk y0 y1 y2 y3 y4 HC HX HM2 HA HB
  generalize (w1.alloc (.cells #[.int .i64 (-y), .int .i64 x] 55)).drewN nq = W4 at *
  have g0 := HC2.out.cell (i := 0) rfl
  have g1 := HC2.out.cell (i := 1) rfl
  have f0 := HC2.out.free 0
  have f1 := HC2.out.free 1
  have x0 := HX2.out.cell (i := 0) rfl
  have x1 := HX2.out.cell (i := 1) rfl
  go_wp2_with fail
  have HR4 := (HC2.out.put 0 (.int .i64 (sh - x))).put 1 (.int .i64 (sh + y))
  have e0 := HR4.cell (i := 0) rfl
  have e1 := HR4.cell (i := 1) rfl
  subst hx
  subst hy
  refine ⟨rfl, .tuple #[.agg #[.int .i64 (sh - dd (plc s ⟨i, j⟩)), .int .i64 (sh + db (plc s ⟨i, j⟩))], .int .i64 0], ?_, dd, db, by rw [Int.sub_neg], (HM3.out.setCell (by show w.heap.size ≤ w.heap.size + 1 + 1; omega) _).setCell (by show w.heap.size ≤ w.heap.size + 1 + 1; omega) _, HD1.out, HD2.out⟩
  clear HC2 HX2 HM3 HD1 HD2 HR4
  simp [results, Tryd.results38, go_sem, e0, e1]
end Go.Proofs.YtodmbcoobjcooaaDoor

namespace Go.Proofs.YtodmbcoobjcooaaDoor
open Go Go.RowKit Go.Shelf
abbrev Spn := Int × Int
def spC (x : Spn) : List Value := [.int .i64 x.1, .int .i64 x.2]
theorem info_span : (Tryd.prog.info? 55).map (fun i => (i.zero, i.size, i.bytes)) = some (some (.agg #[.int .i64 0, .int .i64 0]), 2, 16) := by kernel_rfl
theorem info_spans : (Tryd.prog.info? 73).map (fun i => (i.zero, i.size, i.bytes)) = some (some (.slice none 0 0), 1, 24) := by kernel_rfl
theorem under_spans : Tryd.prog.underlying 73 = some (.slice 55) := by kernel_rfl
theorem under_spanss : Tryd.prog.underlying 44 = some (.slice 73) := by kernel_rfl
/-- Lists of spans in memory, one behind the other. -/
def AllIn (W : World) (base : Nat) (V : Value) (rows : List (List Spn)) : Prop :=
  ∃ outs : List Value, W.ownsRow base 73 1 V rows.length outs ∧ ∀ i, i < rows.length → ∃ v, outs[i]? = some v ∧ W.ownsRow base 55 2 v (rows[i]?.getD []).length ((rows[i]?.getD []).flatMap spC)
theorem AllIn.nil (W : World) (base : Nat) : AllIn W base (.slice none 0 0) [] := ⟨[], World.ownsRow_nil _ _ _ _, fun i h => absurd h (Nat.not_lt_zero i)⟩
theorem AllIn.keep {W W' : World} {base : Nat} {V : Value} {rows : List (List Spn)} (h : AllIn W base V rows) (k : New W W') : AllIn W' base V rows := by
  obtain ⟨outs, h1, h2⟩ := h
  exact ⟨outs, owns_keep h1 k, fun i hi => by
    obtain ⟨v, a, b⟩ := h2 i hi
    exact ⟨v, a, owns_keep b k⟩⟩
theorem owns_other {w w' : World} {b b' : Nat} {e e' : TypeId} {size size' : Nat} {v v' : Value} {n n' : Nat} {xs xs' : List Value} (h : w.ownsRow b e size v n xs) (h' : w.ownsRow b' e' size' v' n' xs') (hg : w.grownBy w' v'.ownBlock) (hne : e ≠ e') : w'.ownsRow b e size v n xs :=
  h.kept hg (by
    rcases h.2 with ⟨rfl, _⟩ | ⟨g, cap, cur, rfl, _, hgb, _⟩
    · exact .inl rfl
    · rcases h'.2 with ⟨rfl, _⟩ | ⟨g', cap', cur', rfl, _, hgb', _⟩
      · exact .inr fun e2 => by simp [Value.ownBlock] at e2
      · refine .inr fun e2 => ?_
        have e3 : g = g' := by simpa [Value.ownBlock] using e2
        subst e3
        rw [hgb] at hgb'
        cases hgb'
        exact hne rfl)
/-- One list more. -/
theorem AllIn.push {W W' : World} {base : Nat} {V V' v : Value} {rows : List (List Spn)} {outs : List Value} (h1 : W.ownsRow base 73 1 V rows.length outs) (h2 : ∀ i, i < rows.length → ∃ v, outs[i]? = some v ∧ W.ownsRow base 55 2 v (rows[i]?.getD []).length ((rows[i]?.getD []).flatMap spC))
    (hg : W.grownBy W' V.ownBlock) (ho : W'.ownsRow base 73 1 V' (rows.length + 1) (outs ++ [v])) {row : List Spn} (hv : W.ownsRow base 55 2 v row.length (row.flatMap spC)) : AllIn W' base V' (rows ++ [row]) := by
  have hlen : outs.length = rows.length := by have := h1.1; omega
  refine ⟨outs ++ [v], by rw [List.length_append, List.length_singleton]; exact ho, fun i hi => ?_⟩
  rw [List.length_append, List.length_singleton] at hi
  by_cases e : i < rows.length
  · obtain ⟨u, a, b⟩ := h2 i e
    refine ⟨u, by rw [List.getElem?_append_left (by omega)]; exact a, ?_⟩
    rw [List.getElem?_append_left e]
    exact owns_other b h1 hg (by decide)
  · obtain rfl : i = rows.length := by omega
    refine ⟨v, by rw [List.getElem?_append_right (by omega), hlen]; simp, ?_⟩
    rw [List.getElem?_append_right (Nat.le_refl _)]
    simp only [Nat.sub_self, List.getElem?_cons_zero, Option.getD_some]
    exact owns_other hv h1 hg (by decide)
/-- The spans of the first lines of a track, and of the first tracks. -/
def rowK (s : Sy) (dd db : Nat → Int) (i k : Nat) : List Spn := (List.range k).map fun (j : Nat) => (-db (plc s ⟨i, j⟩), dd (plc s ⟨i, j⟩))
theorem rowK_len (s : Sy) (dd db : Nat → Int) (i k : Nat) : (rowK s dd db i k).length = k := by simp [rowK]
theorem rowK_succ (s : Sy) (dd db : Nat → Int) (i k : Nat) : rowK s dd db i (k + 1) = rowK s dd db i k ++ [(-db (plc s ⟨i, k⟩), dd (plc s ⟨i, k⟩))] := by simp [rowK, List.range_succ]
def rowsK (s : Sy) (dd db : Nat → Int) (k : Nat) : List (List Spn) := (List.range k).map fun i => rowK s dd db i (tkAt s i).times.length
theorem rowsK_len (s : Sy) (dd db : Nat → Int) (k : Nat) : (rowsK s dd db k).length = k := by simp [rowsK]
theorem rowsK_succ (s : Sy) (dd db : Nat → Int) (k : Nat) : rowsK s dd db (k + 1) = rowsK s dd db k ++ [rowK s dd db k (tkAt s k).times.length] := by simp [rowsK, List.range_succ]
end Go.Proofs.YtodmbcoobjcooaaDoor

namespace Go.Proofs.YtodmbcoobjcooaaDoor
open Go Go.RowKit Go.Shelf
attribute [local go_sem] Oper.semAt_some
theorem ck_Times1 (x y : Int) (w : World) :
    Calls Tryd.prog 74 #[.agg #[.int .i64 x, .int .i64 y]] w fun e w' => e = .returned (.agg #[.int .i64 x, .int .i64 y]) ∧ New w w' := by
  have n2 := ((New.refl w).alloc (.cells #[.int .i64 x, .int .i64 y] 55)).alloc (.cells #[.int .i64 x, .int .i64 y] 55)
  have r2 := RowIs.new (w.alloc (.cells #[.int .i64 x, .int .i64 y] 55)) 55 [.int .i64 x, .int .i64 y]
  simp only [World.size_alloc] at r2
  have e0 := r2.cell (i := 0) rfl
  have e1 := r2.cell (i := 1) rfl
  go_enter Tryd.func74, Tryd.ntmps74
  go_wp2_with fail
  refine ⟨rfl, .agg #[.int .i64 x, .int .i64 y], ?_, rfl, n2⟩
  simp [results, Tryd.results74, go_sem, e0, e1]
set_option maxRecDepth 100000 in
set_option maxHeartbeats 8000000 in
theorem ck_ofLines (s : Sy) (hs : Ok s) (A D : Option Addr) (c d : Nat) (w : World) (hM : SysM w A D s) (hbeg : BegA w) (hcl : Closes (egs s)) :
    Calls Tryd.prog 73 #[.agg #[.slice A s.tracks.length c, .slice D s.ties.length d, .int .i64 s.window], .func (.func 74) #[] #[]] w fun e w' => ∃ V base dd db, e = .returned (.tuple #[V, .int .i64 0]) ∧ New w w' ∧ w.heap.size ≤ base ∧ AllIn w' base V (rowsK s dd db s.tracks.length) ∧ Dist (egs s) (nPl s) 0 22001 dd ∧ Dist (turnE (egs s)) (nPl s) 0 22001 db := by
  have hce : checkE s = 0 := hs
  have n1 := (New.refl w).alloc (.cells #[.slice A s.tracks.length c, .slice D s.ties.length d, .int .i64 s.window] 25)
  have r1 := RowIs.new w 25 [.slice A s.tracks.length c, .slice D s.ties.length d, .int .i64 s.window]
  have HCK : Hid (Calls Tryd.prog 25 #[.agg #[.slice A s.tracks.length c, .slice D s.ties.length d, .int .i64 s.window]] (w.alloc (.cells #[.slice A s.tracks.length c, .slice D s.ties.length d, .int .i64 s.window] 25)) fun e w' => e = .returned (.int .i64 0) ∧ New (w.alloc (.cells #[.slice A s.tracks.length c, .slice D s.ties.length d, .int .i64 s.window] 25)) w') := Lib.hid (by
    have := ck_Check s A D c d _ (hM.keep n1)
    rw [hce] at this
    exact this)
  have HVF : Hid (∀ w', New w w' → Calls Tryd.prog 85 #[.agg #[.slice A s.tracks.length c, .slice D s.ties.length d, .int .i64 s.window], .agg #[.int .i64 (-1), .int .i64 0]] w' fun e w'' => ∃ v d db, e = .returned (.tuple #[.pointer (some ⟨v, 0, none⟩), .int .i64 0]) ∧ New w' w'' ∧ ViewA w'' v s d db ∧ Dist (egs s) (nPl s) 0 22001 d ∧ Dist (turnE (egs s)) (nPl s) 0 22001 db) := Lib.hid fun w' h =>
    ck_viewFrom s hs A D c d w' (hM.keep h) ⟨h.cellOf hbeg.1, h.cellOf hbeg.2⟩ hcl beg (.inl rfl)
  have HSN : Hid (∀ i j v dd db w', i < s.tracks.length → j < (tkAt s i).times.length → Dist (turnE (egs s)) (nPl s) 0 22001 db → ViewA w' v s dd db → Calls Tryd.prog 86 #[.pointer (some ⟨v, 0, none⟩), .agg #[.int .i64 i, .int .i64 j]] w' fun e w'' => e = .returned (.agg #[.int .i64 (-db (plc s ⟨i, j⟩)), .int .i64 (dd (plc s ⟨i, j⟩))]) ∧ New w' w'') := Lib.hid fun i j v dd db w' hi hj hd hv =>
    ck_span s hs v dd db w' hv ⟨i, j⟩ (.inr (line_mk hi hj)) (by
      have hpl := plc_lt (.inr (line_mk hi hj))
      have h1 := hd.lo _ hpl
      have h2 := nPl_le hs
      by_cases hb : db (plc s ⟨i, j⟩) = NB
      · rw [hb]; unfold NB; omega
      · have h3 := hd.hi _ hpl hb
        omega)
  have h64 := (checkE_ok hs).1
  have HR1 := Lib.hid r1
  have HN1 := Lib.hid n1
  have HB := Lib.hid hbeg
  have HM := Lib.hid hM
  have HS := Lib.hid hs
  have z0 := r1.cell (i := 0) rfl
  have z1 := r1.cell (i := 1) rfl
  have z2 := r1.cell (i := 2) rfl
  clear r1 n1 hbeg hce hM hs hcl
  go_enter Tryd.func73, Tryd.ntmps73
  go_wp2_with fail
  refine HCK.out.mono ?_
  rintro e w1 ⟨rfl, m1⟩
  clear z0 z1 z2
  have z0 := (HR1.out.keep m1).cell (i := 0) rfl
  have z1 := (HR1.out.keep m1).cell (i := 1) rfl
  have z2 := (HR1.out.keep m1).cell (i := 2) rfl
  have z3 := (HN1.out.trans m1).cellOf HB.out.1
  have z4 := (HN1.out.trans m1).cellOf HB.out.2
  go_wp2_with (go_at_call 85; refine (HVF.out _ (HN1.out.trans m1)).mono ?_; rintro e w2 ⟨v, dd, db, rfl, m2, hv, d1, d2⟩; have y0 := (HR1.out.keep (m1.trans m2)).cell (i := 0) rfl)
  have HR2 := Lib.hid (HR1.out.keep (m1.trans m2))
  have HN2 := Lib.hid (HN1.out.trans (m1.trans m2))
  have HV := Lib.hid hv
  have HD1 := Lib.hid d1
  have HD2 := Lib.hid d2
  clear z0 z1 z2 z3 z4 HCK HVF y0 m1 m2 hv d1 d2 HR1 HN1
  obtain ⟨i0, hi0, hz0, hz1, hz2⟩ := info_parts info_span
  obtain ⟨i1, hi1, hy0, hy1, hy2⟩ := info_parts info_spans
  have HI : Hid ((Tryd.prog.info? 55 = some i0 ∧ i0.zero = some (.agg #[.int .i64 0, .int .i64 0]) ∧ i0.size = 2 ∧ i0.bytes = 16) ∧ (Tryd.prog.info? 73 = some i1 ∧ i1.zero = some (.slice none 0 0) ∧ i1.size = 1 ∧ i1.bytes = 24)) := Lib.hid ⟨⟨hi0, hz0, hz1, hz2⟩, hi1, hy0, hy1, hy2⟩
  clear hi0 hz0 hz1 hz2 hi1 hy0 hy1 hy2
  go_loopw [9, 31] (fun V i wr => ∃ k : Nat, k ≤ s.tracks.length ∧ i = .int .i64 k ∧ New w2 wr ∧ AllIn wr w2.heap.size V (rowsK s dd db k)) (fun _ i _ => s.tracks.length - (intOf i).toNat)
  case atStart => exact ⟨0, Nat.zero_le _, rfl, New.refl _, AllIn.nil _ _⟩
  case round =>
    obtain ⟨k, hk, rfl, hn, ha⟩ := hrel
    by_cases hlt : k < s.tracks.length
    · obtain ⟨b, off, rfl, -, hc⟩ := (HM.out.1.keep (HN2.out.trans hn)).2 (by omega)
      obtain ⟨JA, jc, TA, tc, z0, z1, z2, z3, -, -⟩ := hc k hlt
      have et : s.tracks[k]?.getD default = tkAt s k := rfl
      rw [et] at z0 z1 z2 z3
      have hl4 := (trackB_facts (HS.out.track hlt)).2.2.2.2.2.1
      obtain ⟨outs, hoo, hin⟩ := ha
      rw [rowsK_len] at hoo hin
      obtain ⟨VA, vc, rfl⟩ := owns_form hoo
      have HOO := Lib.hid hoo
      have HIN := Lib.hid hin
      have HN := Lib.hid hn
      have ik : (k : Int) < (s.tracks.length : Int) := by omega
      clear hc et hoo hin hn
      generalize htl : (tkAt s k).times.length = tl at *
      have R5 := RowIs.new wr 30 [.int .i64 (tkAt s k).slip, .int .i64 (tkAt s k).drift, .slice JA (tkAt s k).jumps.length jc, .slice TA tl tc]
      have r3 := R5.cell (i := 3) rfl
      have n5 := (New.refl wr).alloc (.cells #[.int .i64 (tkAt s k).slip, .int .i64 (tkAt s k).drift, .slice JA (tkAt s k).jumps.length jc, .slice TA tl tc] 30)
      have HN5 := Lib.hid n5
      clear R5 n5
      go_wp2_with fail
      generalize hWk : wr.alloc (.cells #[.int .i64 (tkAt s k).slip, .int .i64 (tkAt s k).drift, .slice JA (tkAt s k).jumps.length jc, .slice TA tl tc] 30) = Wk at *
      clear hWk z0 z1 z2 z3 r3
      go_loopw [12, 39] (fun L i w' => ∃ j : Nat, j ≤ tl ∧ i = .int .i64 j ∧ New Wk w' ∧ w'.ownsRow Wk.heap.size 55 2 L j ((rowK s dd db k j).flatMap spC)) (fun _ i _ => tl - (intOf i).toNat)
      case atStart => exact ⟨0, Nat.zero_le _, rfl, New.refl _, World.ownsRow_nil _ _ _ _⟩
      case round =>
        obtain ⟨j, hj, rfl, hnk, how⟩ := hrel
        obtain ⟨LA, lc, rfl⟩ := owns_form how
        have HNK := Lib.hid hnk
        have HOW := Lib.hid how
        clear hnk how
        by_cases hjt : j < tl
        · have i2 : (j : Int) < (tl : Int) := by omega
          have hjt2 : j < (tkAt s k).times.length := by omega
          go_wp2_with (first
            | (go_at_call 86; refine (HSN.out k j v dd db _ hlt hjt2 HD2.out (HV.out.keep ((HN.out.trans HN5.out).trans HNK.out))).mono ?_; rintro e w5 ⟨rfl, m5⟩)
            | (go_at_call 74; refine (ck_Times1 _ _ _).mono ?_; rintro e w6 ⟨rfl, m6⟩)
            | (at_builtin; go_loud (refine wpList_append_lies _ rfl (.tmp 42) (.tmp 50) 73 rfl Wk.heap.size 55 i0 (.agg #[.int .i64 0, .int .i64 0]) 2 16 under_spans HI.out.1.1 HI.out.1.2.1 HI.out.1.2.2.1 HI.out.1.2.2.2 rfl (by decide) (.slice LA j lc) j ((rowK s dd db k j).flatMap spC) rfl (owns_keep HOW.out ((m5.trans m6).alloc _)) ⟨w6.heap.size, 0, none⟩ 1 1 [.int .i64 (-db (plc s ⟨k, j⟩)), .int .i64 (dd (plc s ⟨k, j⟩))] rfl rfl ?c1 ?c2 (by decide) ?c3 ?c4 ?c5 _ rfl ?_)))
          case c1 => exact World.news_of_block (heap_alloc_new _ _)
          case c2 => simp [Value.oneCell']
          case c3 => unfold maxLen; omega
          case c4 => omega
          case c5 => have := HNK.out.size; have := (m5.trans m6).size; simp; omega
          intro g cap w7 ho hg _ _
          have ka := (m5.trans m6).alloc (.cells #[.int .i64 (-db (plc s ⟨k, j⟩)), .int .i64 (dd (plc s ⟨k, j⟩))] 55)
          have n7 := Below.trans (HNK.out.trans ka) (grown_below (owns_keep HOW.out ka) hg (HNK.out.trans ka).size)
          have HN7 : Hid (New Wk w7) := Lib.hid n7
          have HO7 := Lib.hid ho
          clear ka n7 ho hg
          go_wp2_with fail
          go_roundw
          case rel => exact ⟨j + 1, by omega, rfl, HN7.out, by rw [rowK_succ, List.flatMap_append]; exact HO7.out⟩
          case measure => simp [intOf]; omega
        · obtain rfl : j = tl := by omega
          go_wp2_with (at_builtin; go_loud (refine wpList_append_lies _ rfl (.tmp 53) (.tmp 55) 44 rfl w2.heap.size 73 i1 (.slice none 0 0) 1 24 under_spanss HI.out.2.1 HI.out.2.2.1 HI.out.2.2.2.1 HI.out.2.2.2.2 rfl (by decide) (.slice VA k vc) k outs rfl (owns_keep HOO.out ((HN5.out.trans HNK.out).alloc _)) ⟨wr.heap.size, 0, none⟩ 1 1 [.slice LA j lc] rfl rfl ?c1 ?c2 (by decide) ?c3 ?c4 ?c5 _ rfl ?_))
          case c1 => exact World.news_of_block (heap_alloc_new _ _)
          case c2 => simp [Value.oneCell']
          case c3 => unfold maxLen; omega
          case c4 => omega
          case c5 => have := ((HN.out.trans HN5.out).trans HNK.out).size; simp; omega
          intro g cap w7 ho hg _ _
          have ka := (HN5.out.trans HNK.out).alloc (.cells #[.slice LA j lc] 73)
          have kb := (New.refl wr).alloc (.cells #[.slice LA j lc] 73)
          have hao := AllIn.push (rows := rowsK s dd db k) (row := rowK s dd db k (tkAt s k).times.length) (by rw [rowsK_len]; exact owns_keep HOO.out ka) (fun i hi => by
            rw [rowsK_len] at hi
            obtain ⟨u, a1, a2⟩ := HIN.out i hi
            exact ⟨u, a1, owns_keep a2 ka⟩) hg (by rw [rowsK_len]; exact ho) (by
            rw [rowK_len, htl]
            exact owns_base (owns_keep HOW.out kb) ((HN.out.trans HN5.out).size))
          have n7 := Below.trans (HN.out.trans ka) (grown_below (owns_keep HOO.out ka) hg (HN.out.trans ka).size)
          have HN7 : Hid (New w2 w7) := Lib.hid n7
          rw [← rowsK_succ] at hao
          have HAO := Lib.hid hao
          clear ka kb n7 ho hg hao
          go_wp2_with fail
          go_roundw
          case rel => exact ⟨k + 1, by omega, rfl, HN7.out, HAO.out⟩
          case measure => simp [intOf]; omega
    · obtain rfl : k = s.tracks.length := by omega
      go_wp2_with fail
      go_ret2
      exact ⟨_, w2.heap.size, dd, db, rfl, HN2.out.trans hn, HN2.out.size, ha, HD1.out, HD2.out⟩
set_option maxRecDepth 100000 in
set_option maxHeartbeats 4000000 in
theorem ck_Times (s : Sy) (hs : Ok s) (A D : Option Addr) (c d : Nat) (w : World) (hM : SysM w A D s) (hbeg : BegA w) (hcl : Closes (egs s)) :
    Calls Tryd.prog 28 #[.agg #[.slice A s.tracks.length c, .slice D s.ties.length d, .int .i64 s.window]] w fun e w' => ∃ V base dd db, e = .returned (.tuple #[V, .int .i64 0]) ∧ New w w' ∧ AllIn w' base V (rowsK s dd db s.tracks.length) ∧ Dist (egs s) (nPl s) 0 22001 dd ∧ Dist (turnE (egs s)) (nPl s) 0 22001 db := by
  have n1 := (New.refl w).alloc (.cells #[.slice A s.tracks.length c, .slice D s.ties.length d, .int .i64 s.window] 25)
  have HOF := Lib.hid (ck_ofLines s hs A D c d _ (hM.keep n1) ⟨n1.cellOf hbeg.1, n1.cellOf hbeg.2⟩ hcl)
  have HN1 := Lib.hid n1
  clear n1 hs hM hbeg hcl
  go_enter Tryd.func28, Tryd.ntmps28
  go_wp2_with fail
  refine HOF.out.mono ?_
  rintro e w1 ⟨V, base, dd, db, rfl, m1, -, ha, d1, d2⟩
  have HA := Lib.hid ha
  have HD := Lib.hid (And.intro d1 d2)
  clear ha d1 d2 HOF
  go_wp2_with fail
  go_ret2
  exact ⟨V, base, dd, db, rfl, HN1.out.trans m1, HA.out, HD.out.1, HD.out.2⟩
end Go.Proofs.YtodmbcoobjcooaaDoor
