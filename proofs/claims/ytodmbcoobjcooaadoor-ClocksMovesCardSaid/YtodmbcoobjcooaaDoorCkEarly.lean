/-
  Earliest and Latest of the program, at a system that closes. Condition: the system lies in memory.
-/
import Derived.Test.YtodmbcoobjcooaaDoorCkSpanT
namespace Go.Proofs.YtodmbcoobjcooaaDoor
open Go Go.RowKit Go.Shelf
attribute [local go_sem] Oper.semAt_some
theorem info_ints2 : (Tryd.prog.info? 26).map (fun i => (i.zero, i.size, i.bytes)) = some (some (.slice none 0 0), 1, 24) := by kernel_rfl
theorem under_ints2 : Tryd.prog.underlying 26 = some (.slice 3) := by kernel_rfl
theorem under_intss2 : Tryd.prog.underlying 47 = some (.slice 26) := by kernel_rfl
/-- Lists of spans in memory, one behind the other. -/
def AllInI (W : World) (base : Nat) (V : Value) (rows : List (List Int)) : Prop :=
  ∃ outs : List Value, W.ownsRow base 26 1 V rows.length outs ∧ ∀ i, i < rows.length → ∃ v, outs[i]? = some v ∧ W.ownsRow base 3 1 v (rows[i]?.getD []).length ((rows[i]?.getD []).map (Value.int .i64))
theorem AllInI.nil (W : World) (base : Nat) : AllInI W base (.slice none 0 0) [] := ⟨[], World.ownsRow_nil _ _ _ _, fun i h => absurd h (Nat.not_lt_zero i)⟩
theorem AllInI.keep {W W' : World} {base : Nat} {V : Value} {rows : List (List Int)} (h : AllInI W base V rows) (k : New W W') : AllInI W' base V rows := by
  obtain ⟨outs, h1, h2⟩ := h
  exact ⟨outs, owns_keep h1 k, fun i hi => by
    obtain ⟨v, a, b⟩ := h2 i hi
    exact ⟨v, a, owns_keep b k⟩⟩
/-- One list more. -/
theorem AllInI.push {W W' : World} {base : Nat} {V V' v : Value} {rows : List (List Int)} {outs : List Value} (h1 : W.ownsRow base 26 1 V rows.length outs) (h2 : ∀ i, i < rows.length → ∃ v, outs[i]? = some v ∧ W.ownsRow base 3 1 v (rows[i]?.getD []).length ((rows[i]?.getD []).map (Value.int .i64)))
    (hg : W.grownBy W' V.ownBlock) (ho : W'.ownsRow base 26 1 V' (rows.length + 1) (outs ++ [v])) {row : List Int} (hv : W.ownsRow base 3 1 v row.length (row.map (Value.int .i64))) : AllInI W' base V' (rows ++ [row]) := by
  have hlen : outs.length = rows.length := by have := h1.1; omega
  refine ⟨outs ++ [v], by rw [List.length_append, List.length_singleton]; exact ho, fun i hi => ?_⟩
  rw [List.length_append, List.length_singleton] at hi
  by_cases e : i < rows.length
  · obtain ⟨u, a, b⟩ := h2 i e
    refine ⟨u, by rw [List.getElem?_append_left (by omega)]; exact a, ?_⟩
    rw [List.getElem?_append_left e]
    exact owns_other b h1 hg (by decide)
  · obtain rfl : i = rows.length := by omega
    refine ⟨v, by rw [List.getElem?_append_right (by omega), hlen]; simp, ?_⟩
    rw [List.getElem?_append_right (Nat.le_refl _)]
    simp only [Nat.sub_self, List.getElem?_cons_zero, Option.getD_some]
    exact owns_other hv h1 hg (by decide)
/-- The numbers of the first lines of a track, and of the first tracks. -/
def rowI (s : Sy) (f : Nat → Int) (i k : Nat) : List Int := (List.range k).map fun (j : Nat) => f (plc s ⟨i, j⟩)
theorem rowI_len (s : Sy) (f : Nat → Int) (i k : Nat) : (rowI s f i k).length = k := by simp [rowI]
theorem rowI_succ (s : Sy) (f : Nat → Int) (i k : Nat) : rowI s f i (k + 1) = rowI s f i k ++ [f (plc s ⟨i, k⟩)] := by simp [rowI, List.range_succ]
def rowsI (s : Sy) (f : Nat → Int) (k : Nat) : List (List Int) := (List.range k).map fun i => rowI s f i (tkAt s i).times.length
theorem rowsI_len (s : Sy) (f : Nat → Int) (k : Nat) : (rowsI s f k).length = k := by simp [rowsI]
theorem rowsI_succ (s : Sy) (f : Nat → Int) (k : Nat) : rowsI s f (k + 1) = rowsI s f k ++ [rowI s f k (tkAt s k).times.length] := by simp [rowsI, List.range_succ]
theorem ck_Earliest1 (x y : Int) (w : World) :
    Calls Tryd.prog 81 #[.agg #[.int .i64 x, .int .i64 y]] w fun e w' => e = .returned (.int .i64 x) ∧ New w w' := by
  have n1 := (New.refl w).alloc (.cells #[.int .i64 x, .int .i64 y] 55)
  have r1 := RowIs.new w 55 [.int .i64 x, .int .i64 y]
  have e0 := r1.cell (i := 0) rfl
  have e1 := r1.cell (i := 1) rfl
  go_enter Tryd.func81, Tryd.ntmps81
  go_wp2_with fail
  go_ret
  exact ⟨rfl, n1⟩
theorem ck_Latest1 (x y : Int) (w : World) :
    Calls Tryd.prog 83 #[.agg #[.int .i64 x, .int .i64 y]] w fun e w' => e = .returned (.int .i64 y) ∧ New w w' := by
  have n1 := (New.refl w).alloc (.cells #[.int .i64 x, .int .i64 y] 55)
  have r1 := RowIs.new w 55 [.int .i64 x, .int .i64 y]
  have e0 := r1.cell (i := 0) rfl
  have e1 := r1.cell (i := 1) rfl
  go_enter Tryd.func83, Tryd.ntmps83
  go_wp2_with fail
  go_ret
  exact ⟨rfl, n1⟩
set_option maxRecDepth 100000 in
set_option maxHeartbeats 8000000 in
theorem ck_ofEarliest (s : Sy) (hs : Ok s) (A D : Option Addr) (c d : Nat) (w : World) (hM : SysM w A D s) (hbeg : BegA w) (hcl : Closes (egs s)) :
    Calls Tryd.prog 80 #[.agg #[.slice A s.tracks.length c, .slice D s.ties.length d, .int .i64 s.window], .func (.func 81) #[] #[]] w fun e w' => ∃ V base dd db, e = .returned (.tuple #[V, .int .i64 0]) ∧ New w w' ∧ w.heap.size ≤ base ∧ AllInI w' base V (rowsI s (fun v => -db v) s.tracks.length) ∧ Dist (egs s) (nPl s) 0 22001 dd ∧ Dist (turnE (egs s)) (nPl s) 0 22001 db := by
  have hce : checkE s = 0 := hs
  have n1 := (New.refl w).alloc (.cells #[.slice A s.tracks.length c, .slice D s.ties.length d, .int .i64 s.window] 25)
  have r1 := RowIs.new w 25 [.slice A s.tracks.length c, .slice D s.ties.length d, .int .i64 s.window]
  have HCK : Hid (Calls Tryd.prog 25 #[.agg #[.slice A s.tracks.length c, .slice D s.ties.length d, .int .i64 s.window]] (w.alloc (.cells #[.slice A s.tracks.length c, .slice D s.ties.length d, .int .i64 s.window] 25)) fun e w' => e = .returned (.int .i64 0) ∧ New (w.alloc (.cells #[.slice A s.tracks.length c, .slice D s.ties.length d, .int .i64 s.window] 25)) w') := Lib.hid (by
    have := ck_Check s A D c d _ (hM.keep n1)
    rw [hce] at this
    exact this)
  have HVF : Hid (∀ w', New w w' → Calls Tryd.prog 85 #[.agg #[.slice A s.tracks.length c, .slice D s.ties.length d, .int .i64 s.window], .agg #[.int .i64 (-1), .int .i64 0]] w' fun e w'' => ∃ v d db, e = .returned (.tuple #[.pointer (some ⟨v, 0, none⟩), .int .i64 0]) ∧ New w' w'' ∧ ViewA w'' v s d db ∧ Dist (egs s) (nPl s) 0 22001 d ∧ Dist (turnE (egs s)) (nPl s) 0 22001 db) := Lib.hid fun w' h =>
    ck_viewFrom s hs A D c d w' (hM.keep h) ⟨h.cellOf hbeg.1, h.cellOf hbeg.2⟩ hcl beg (.inl rfl)
  have HSN : Hid (∀ i j v dd db w', i < s.tracks.length → j < (tkAt s i).times.length → Dist (turnE (egs s)) (nPl s) 0 22001 db → ViewA w' v s dd db → Calls Tryd.prog 86 #[.pointer (some ⟨v, 0, none⟩), .agg #[.int .i64 i, .int .i64 j]] w' fun e w'' => e = .returned (.agg #[.int .i64 (-db (plc s ⟨i, j⟩)), .int .i64 (dd (plc s ⟨i, j⟩))]) ∧ New w' w'') := Lib.hid fun i j v dd db w' hi hj hd hv =>
    ck_span s hs v dd db w' hv ⟨i, j⟩ (.inr (line_mk hi hj)) (by
      have hpl := plc_lt (.inr (line_mk hi hj))
      have h1 := hd.lo _ hpl
      have h2 := nPl_le hs
      by_cases hb : db (plc s ⟨i, j⟩) = NB
      · rw [hb]; unfold NB; omega
      · have h3 := hd.hi _ hpl hb
        omega)
  have h64 := (checkE_ok hs).1
  have HR1 := Lib.hid r1
  have HN1 := Lib.hid n1
  have HB := Lib.hid hbeg
  have HM := Lib.hid hM
  have HS := Lib.hid hs
  have z0 := r1.cell (i := 0) rfl
  have z1 := r1.cell (i := 1) rfl
  have z2 := r1.cell (i := 2) rfl
  clear r1 n1 hbeg hce hM hs hcl
  go_enter Tryd.func80, Tryd.ntmps80
  go_wp2_with fail
  refine HCK.out.mono ?_
  rintro e w1 ⟨rfl, m1⟩
  clear z0 z1 z2
  have z0 := (HR1.out.keep m1).cell (i := 0) rfl
  have z1 := (HR1.out.keep m1).cell (i := 1) rfl
  have z2 := (HR1.out.keep m1).cell (i := 2) rfl
  have z3 := (HN1.out.trans m1).cellOf HB.out.1
  have z4 := (HN1.out.trans m1).cellOf HB.out.2
  go_wp2_with (go_at_call 85; refine (HVF.out _ (HN1.out.trans m1)).mono ?_; rintro e w2 ⟨v, dd, db, rfl, m2, hv, d1, d2⟩; have y0 := (HR1.out.keep (m1.trans m2)).cell (i := 0) rfl)
  have HR2 := Lib.hid (HR1.out.keep (m1.trans m2))
  have HN2 := Lib.hid (HN1.out.trans (m1.trans m2))
  have HV := Lib.hid hv
  have HD1 := Lib.hid d1
  have HD2 := Lib.hid d2
  clear z0 z1 z2 z3 z4 HCK HVF y0 m1 m2 hv d1 d2 HR1 HN1
  obtain ⟨i0, hi0, hz0, hz1, hz2⟩ := info_parts info_int
  obtain ⟨i1, hi1, hy0, hy1, hy2⟩ := info_parts info_ints2
  have HI : Hid ((Tryd.prog.info? 3 = some i0 ∧ i0.zero = some (.int .i64 0) ∧ i0.size = 1 ∧ i0.bytes = 8) ∧ (Tryd.prog.info? 26 = some i1 ∧ i1.zero = some (.slice none 0 0) ∧ i1.size = 1 ∧ i1.bytes = 24)) := Lib.hid ⟨⟨hi0, hz0, hz1, hz2⟩, hi1, hy0, hy1, hy2⟩
  clear hi0 hz0 hz1 hz2 hi1 hy0 hy1 hy2
  go_loopw [9, 31] (fun V i wr => ∃ k : Nat, k ≤ s.tracks.length ∧ i = .int .i64 k ∧ New w2 wr ∧ AllInI wr w2.heap.size V (rowsI s (fun v => -db v) k)) (fun _ i _ => s.tracks.length - (intOf i).toNat)
  case atStart => exact ⟨0, Nat.zero_le _, rfl, New.refl _, AllInI.nil _ _⟩
  case round =>
    obtain ⟨k, hk, rfl, hn, ha⟩ := hrel
    by_cases hlt : k < s.tracks.length
    · obtain ⟨b, off, rfl, -, hc⟩ := (HM.out.1.keep (HN2.out.trans hn)).2 (by omega)
      obtain ⟨JA, jc, TA, tc, z0, z1, z2, z3, -, -⟩ := hc k hlt
      have et : s.tracks[k]?.getD default = tkAt s k := rfl
      rw [et] at z0 z1 z2 z3
      have hl4 := (trackB_facts (HS.out.track hlt)).2.2.2.2.2.1
      obtain ⟨outs, hoo, hin⟩ := ha
      rw [rowsI_len] at hoo hin
      obtain ⟨VA, vc, rfl⟩ := owns_form hoo
      have HOO := Lib.hid hoo
      have HIN := Lib.hid hin
      have HN := Lib.hid hn
      have ik : (k : Int) < (s.tracks.length : Int) := by omega
      clear hc et hoo hin hn
      generalize htl : (tkAt s k).times.length = tl at *
      have R5 := RowIs.new wr 30 [.int .i64 (tkAt s k).slip, .int .i64 (tkAt s k).drift, .slice JA (tkAt s k).jumps.length jc, .slice TA tl tc]
      have r3 := R5.cell (i := 3) rfl
      have n5 := (New.refl wr).alloc (.cells #[.int .i64 (tkAt s k).slip, .int .i64 (tkAt s k).drift, .slice JA (tkAt s k).jumps.length jc, .slice TA tl tc] 30)
      have HN5 := Lib.hid n5
      clear R5 n5
      go_wp2_with fail
      generalize hWk : wr.alloc (.cells #[.int .i64 (tkAt s k).slip, .int .i64 (tkAt s k).drift, .slice JA (tkAt s k).jumps.length jc, .slice TA tl tc] 30) = Wk at *
      clear hWk z0 z1 z2 z3 r3
      go_loopw [12, 39] (fun L i w' => ∃ j : Nat, j ≤ tl ∧ i = .int .i64 j ∧ New Wk w' ∧ w'.ownsRow Wk.heap.size 3 1 L j ((rowI s (fun v => -db v) k j).map (Value.int .i64))) (fun _ i _ => tl - (intOf i).toNat)
      case atStart => exact ⟨0, Nat.zero_le _, rfl, New.refl _, World.ownsRow_nil _ _ _ _⟩
      case round =>
        obtain ⟨j, hj, rfl, hnk, how⟩ := hrel
        obtain ⟨LA, lc, rfl⟩ := owns_form how
        have HNK := Lib.hid hnk
        have HOW := Lib.hid how
        clear hnk how
        by_cases hjt : j < tl
        · have i2 : (j : Int) < (tl : Int) := by omega
          have hjt2 : j < (tkAt s k).times.length := by omega
          go_wp2_with (first
            | (go_at_call 86; refine (HSN.out k j v dd db _ hlt hjt2 HD2.out (HV.out.keep ((HN.out.trans HN5.out).trans HNK.out))).mono ?_; rintro e w5 ⟨rfl, m5⟩)
            | (go_at_call 81; refine (ck_Earliest1 _ _ _).mono ?_; rintro e w6 ⟨rfl, m6⟩)
            | (at_builtin; go_loud (refine wpList_append_lies _ rfl (.tmp 42) (.tmp 50) 26 rfl Wk.heap.size 3 i0 (.int .i64 0) 1 8 under_ints2 HI.out.1.1 HI.out.1.2.1 HI.out.1.2.2.1 HI.out.1.2.2.2 rfl (by decide) (.slice LA j lc) j ((rowI s (fun v => -db v) k j).map (Value.int .i64)) rfl (owns_keep HOW.out ((m5.trans m6).alloc _)) ⟨w6.heap.size, 0, none⟩ 1 1 [.int .i64 (-db (plc s ⟨k, j⟩))] rfl rfl ?c1 ?c2 (by decide) ?c3 ?c4 ?c5 _ rfl ?_)))
          case c1 => exact World.news_of_block (heap_alloc_new _ _)
          case c2 => simp [Value.oneCell']
          case c3 => unfold maxLen; omega
          case c4 => omega
          case c5 => have := HNK.out.size; have := (m5.trans m6).size; simp; omega
          intro g cap w7 ho hg _ _
          have ka := (m5.trans m6).alloc (.cells #[.int .i64 (-db (plc s ⟨k, j⟩))] 3)
          have n7 := Below.trans (HNK.out.trans ka) (grown_below (owns_keep HOW.out ka) hg (HNK.out.trans ka).size)
          have HN7 : Hid (New Wk w7) := Lib.hid n7
          have HO7 := Lib.hid ho
          clear ka n7 ho hg
          go_wp2_with fail
          go_roundw
          case rel => exact ⟨j + 1, by omega, rfl, HN7.out, by rw [rowI_succ, List.map_append]; exact HO7.out⟩
          case measure => simp [intOf]; omega
        · obtain rfl : j = tl := by omega
          go_wp2_with (at_builtin; go_loud (refine wpList_append_lies _ rfl (.tmp 53) (.tmp 55) 47 rfl w2.heap.size 26 i1 (.slice none 0 0) 1 24 under_intss2 HI.out.2.1 HI.out.2.2.1 HI.out.2.2.2.1 HI.out.2.2.2.2 rfl (by decide) (.slice VA k vc) k outs rfl (owns_keep HOO.out ((HN5.out.trans HNK.out).alloc _)) ⟨wr.heap.size, 0, none⟩ 1 1 [.slice LA j lc] rfl rfl ?c1 ?c2 (by decide) ?c3 ?c4 ?c5 _ rfl ?_))
          case c1 => exact World.news_of_block (heap_alloc_new _ _)
          case c2 => simp [Value.oneCell']
          case c3 => unfold maxLen; omega
          case c4 => omega
          case c5 => have := ((HN.out.trans HN5.out).trans HNK.out).size; simp; omega
          intro g cap w7 ho hg _ _
          have ka := (HN5.out.trans HNK.out).alloc (.cells #[.slice LA j lc] 26)
          have kb := (New.refl wr).alloc (.cells #[.slice LA j lc] 26)
          have hao := AllInI.push (rows := rowsI s (fun v => -db v) k) (row := rowI s (fun v => -db v) k (tkAt s k).times.length) (by rw [rowsI_len]; exact owns_keep HOO.out ka) (fun i hi => by
            rw [rowsI_len] at hi
            obtain ⟨u, a1, a2⟩ := HIN.out i hi
            exact ⟨u, a1, owns_keep a2 ka⟩) hg (by rw [rowsI_len]; exact ho) (by
            rw [rowI_len, htl]
            exact owns_base (owns_keep HOW.out kb) ((HN.out.trans HN5.out).size))
          have n7 := Below.trans (HN.out.trans ka) (grown_below (owns_keep HOO.out ka) hg (HN.out.trans ka).size)
          have HN7 : Hid (New w2 w7) := Lib.hid n7
          rw [← rowsI_succ] at hao
          have HAO := Lib.hid hao
          clear ka kb n7 ho hg hao
          go_wp2_with fail
          go_roundw
          case rel => exact ⟨k + 1, by omega, rfl, HN7.out, HAO.out⟩
          case measure => simp [intOf]; omega
    · obtain rfl : k = s.tracks.length := by omega
      go_wp2_with fail
      go_ret2
      exact ⟨_, w2.heap.size, dd, db, rfl, HN2.out.trans hn, HN2.out.size, ha, HD1.out, HD2.out⟩
set_option maxRecDepth 100000 in
set_option maxHeartbeats 4000000 in
theorem ck_Earliest (s : Sy) (hs : Ok s) (A D : Option Addr) (c d : Nat) (w : World) (hM : SysM w A D s) (hbeg : BegA w) (hcl : Closes (egs s)) :
    Calls Tryd.prog 30 #[.agg #[.slice A s.tracks.length c, .slice D s.ties.length d, .int .i64 s.window]] w fun e w' => ∃ V base dd db, e = .returned (.tuple #[V, .int .i64 0]) ∧ New w w' ∧ AllInI w' base V (rowsI s (fun v => -db v) s.tracks.length) ∧ Dist (egs s) (nPl s) 0 22001 dd ∧ Dist (turnE (egs s)) (nPl s) 0 22001 db := by
  have n1 := (New.refl w).alloc (.cells #[.slice A s.tracks.length c, .slice D s.ties.length d, .int .i64 s.window] 25)
  have HOF := Lib.hid (ck_ofEarliest s hs A D c d _ (hM.keep n1) ⟨n1.cellOf hbeg.1, n1.cellOf hbeg.2⟩ hcl)
  have HN1 := Lib.hid n1
  clear n1 hs hM hbeg hcl
  go_enter Tryd.func30, Tryd.ntmps30
  go_wp2_with fail
  refine HOF.out.mono ?_
  rintro e w1 ⟨V, base, dd, db, rfl, m1, -, ha, d1, d2⟩
  have HA := Lib.hid ha
  have HD := Lib.hid (And.intro d1 d2)
  clear ha d1 d2 HOF
  go_wp2_with fail
  go_ret2
  exact ⟨V, base, dd, db, rfl, HN1.out.trans m1, HA.out, HD.out.1, HD.out.2⟩
set_option maxRecDepth 100000 in
set_option maxHeartbeats 8000000 in
theorem ck_ofLatest (s : Sy) (hs : Ok s) (A D : Option Addr) (c d : Nat) (w : World) (hM : SysM w A D s) (hbeg : BegA w) (hcl : Closes (egs s)) :
    Calls Tryd.prog 80 #[.agg #[.slice A s.tracks.length c, .slice D s.ties.length d, .int .i64 s.window], .func (.func 83) #[] #[]] w fun e w' => ∃ V base dd db, e = .returned (.tuple #[V, .int .i64 0]) ∧ New w w' ∧ w.heap.size ≤ base ∧ AllInI w' base V (rowsI s dd s.tracks.length) ∧ Dist (egs s) (nPl s) 0 22001 dd ∧ Dist (turnE (egs s)) (nPl s) 0 22001 db := by
  have hce : checkE s = 0 := hs
  have n1 := (New.refl w).alloc (.cells #[.slice A s.tracks.length c, .slice D s.ties.length d, .int .i64 s.window] 25)
  have r1 := RowIs.new w 25 [.slice A s.tracks.length c, .slice D s.ties.length d, .int .i64 s.window]
  have HCK : Hid (Calls Tryd.prog 25 #[.agg #[.slice A s.tracks.length c, .slice D s.ties.length d, .int .i64 s.window]] (w.alloc (.cells #[.slice A s.tracks.length c, .slice D s.ties.length d, .int .i64 s.window] 25)) fun e w' => e = .returned (.int .i64 0) ∧ New (w.alloc (.cells #[.slice A s.tracks.length c, .slice D s.ties.length d, .int .i64 s.window] 25)) w') := Lib.hid (by
    have := ck_Check s A D c d _ (hM.keep n1)
    rw [hce] at this
    exact this)
  have HVF : Hid (∀ w', New w w' → Calls Tryd.prog 85 #[.agg #[.slice A s.tracks.length c, .slice D s.ties.length d, .int .i64 s.window], .agg #[.int .i64 (-1), .int .i64 0]] w' fun e w'' => ∃ v d db, e = .returned (.tuple #[.pointer (some ⟨v, 0, none⟩), .int .i64 0]) ∧ New w' w'' ∧ ViewA w'' v s d db ∧ Dist (egs s) (nPl s) 0 22001 d ∧ Dist (turnE (egs s)) (nPl s) 0 22001 db) := Lib.hid fun w' h =>
    ck_viewFrom s hs A D c d w' (hM.keep h) ⟨h.cellOf hbeg.1, h.cellOf hbeg.2⟩ hcl beg (.inl rfl)
  have HSN : Hid (∀ i j v dd db w', i < s.tracks.length → j < (tkAt s i).times.length → Dist (turnE (egs s)) (nPl s) 0 22001 db → ViewA w' v s dd db → Calls Tryd.prog 86 #[.pointer (some ⟨v, 0, none⟩), .agg #[.int .i64 i, .int .i64 j]] w' fun e w'' => e = .returned (.agg #[.int .i64 (-db (plc s ⟨i, j⟩)), .int .i64 (dd (plc s ⟨i, j⟩))]) ∧ New w' w'') := Lib.hid fun i j v dd db w' hi hj hd hv =>
    ck_span s hs v dd db w' hv ⟨i, j⟩ (.inr (line_mk hi hj)) (by
      have hpl := plc_lt (.inr (line_mk hi hj))
      have h1 := hd.lo _ hpl
      have h2 := nPl_le hs
      by_cases hb : db (plc s ⟨i, j⟩) = NB
      · rw [hb]; unfold NB; omega
      · have h3 := hd.hi _ hpl hb
        omega)
  have h64 := (checkE_ok hs).1
  have HR1 := Lib.hid r1
  have HN1 := Lib.hid n1
  have HB := Lib.hid hbeg
  have HM := Lib.hid hM
  have HS := Lib.hid hs
  have z0 := r1.cell (i := 0) rfl
  have z1 := r1.cell (i := 1) rfl
  have z2 := r1.cell (i := 2) rfl
  clear r1 n1 hbeg hce hM hs hcl
  go_enter Tryd.func80, Tryd.ntmps80
  go_wp2_with fail
  refine HCK.out.mono ?_
  rintro e w1 ⟨rfl, m1⟩
  clear z0 z1 z2
  have z0 := (HR1.out.keep m1).cell (i := 0) rfl
  have z1 := (HR1.out.keep m1).cell (i := 1) rfl
  have z2 := (HR1.out.keep m1).cell (i := 2) rfl
  have z3 := (HN1.out.trans m1).cellOf HB.out.1
  have z4 := (HN1.out.trans m1).cellOf HB.out.2
  go_wp2_with (go_at_call 85; refine (HVF.out _ (HN1.out.trans m1)).mono ?_; rintro e w2 ⟨v, dd, db, rfl, m2, hv, d1, d2⟩; have y0 := (HR1.out.keep (m1.trans m2)).cell (i := 0) rfl)
  have HR2 := Lib.hid (HR1.out.keep (m1.trans m2))
  have HN2 := Lib.hid (HN1.out.trans (m1.trans m2))
  have HV := Lib.hid hv
  have HD1 := Lib.hid d1
  have HD2 := Lib.hid d2
  clear z0 z1 z2 z3 z4 HCK HVF y0 m1 m2 hv d1 d2 HR1 HN1
  obtain ⟨i0, hi0, hz0, hz1, hz2⟩ := info_parts info_int
  obtain ⟨i1, hi1, hy0, hy1, hy2⟩ := info_parts info_ints2
  have HI : Hid ((Tryd.prog.info? 3 = some i0 ∧ i0.zero = some (.int .i64 0) ∧ i0.size = 1 ∧ i0.bytes = 8) ∧ (Tryd.prog.info? 26 = some i1 ∧ i1.zero = some (.slice none 0 0) ∧ i1.size = 1 ∧ i1.bytes = 24)) := Lib.hid ⟨⟨hi0, hz0, hz1, hz2⟩, hi1, hy0, hy1, hy2⟩
  clear hi0 hz0 hz1 hz2 hi1 hy0 hy1 hy2
  go_loopw [9, 31] (fun V i wr => ∃ k : Nat, k ≤ s.tracks.length ∧ i = .int .i64 k ∧ New w2 wr ∧ AllInI wr w2.heap.size V (rowsI s dd k)) (fun _ i _ => s.tracks.length - (intOf i).toNat)
  case atStart => exact ⟨0, Nat.zero_le _, rfl, New.refl _, AllInI.nil _ _⟩
  case round =>
    obtain ⟨k, hk, rfl, hn, ha⟩ := hrel
    by_cases hlt : k < s.tracks.length
    · obtain ⟨b, off, rfl, -, hc⟩ := (HM.out.1.keep (HN2.out.trans hn)).2 (by omega)
      obtain ⟨JA, jc, TA, tc, z0, z1, z2, z3, -, -⟩ := hc k hlt
      have et : s.tracks[k]?.getD default = tkAt s k := rfl
      rw [et] at z0 z1 z2 z3
      have hl4 := (trackB_facts (HS.out.track hlt)).2.2.2.2.2.1
      obtain ⟨outs, hoo, hin⟩ := ha
      rw [rowsI_len] at hoo hin
      obtain ⟨VA, vc, rfl⟩ := owns_form hoo
      have HOO := Lib.hid hoo
      have HIN := Lib.hid hin
      have HN := Lib.hid hn
      have ik : (k : Int) < (s.tracks.length : Int) := by omega
      clear hc et hoo hin hn
      generalize htl : (tkAt s k).times.length = tl at *
      have R5 := RowIs.new wr 30 [.int .i64 (tkAt s k).slip, .int .i64 (tkAt s k).drift, .slice JA (tkAt s k).jumps.length jc, .slice TA tl tc]
      have r3 := R5.cell (i := 3) rfl
      have n5 := (New.refl wr).alloc (.cells #[.int .i64 (tkAt s k).slip, .int .i64 (tkAt s k).drift, .slice JA (tkAt s k).jumps.length jc, .slice TA tl tc] 30)
      have HN5 := Lib.hid n5
      clear R5 n5
      go_wp2_with fail
      generalize hWk : wr.alloc (.cells #[.int .i64 (tkAt s k).slip, .int .i64 (tkAt s k).drift, .slice JA (tkAt s k).jumps.length jc, .slice TA tl tc] 30) = Wk at *
      clear hWk z0 z1 z2 z3 r3
      go_loopw [12, 39] (fun L i w' => ∃ j : Nat, j ≤ tl ∧ i = .int .i64 j ∧ New Wk w' ∧ w'.ownsRow Wk.heap.size 3 1 L j ((rowI s dd k j).map (Value.int .i64))) (fun _ i _ => tl - (intOf i).toNat)
      case atStart => exact ⟨0, Nat.zero_le _, rfl, New.refl _, World.ownsRow_nil _ _ _ _⟩
      case round =>
        obtain ⟨j, hj, rfl, hnk, how⟩ := hrel
        obtain ⟨LA, lc, rfl⟩ := owns_form how
        have HNK := Lib.hid hnk
        have HOW := Lib.hid how
        clear hnk how
        by_cases hjt : j < tl
        · have i2 : (j : Int) < (tl : Int) := by omega
          have hjt2 : j < (tkAt s k).times.length := by omega
          go_wp2_with (first
            | (go_at_call 86; refine (HSN.out k j v dd db _ hlt hjt2 HD2.out (HV.out.keep ((HN.out.trans HN5.out).trans HNK.out))).mono ?_; rintro e w5 ⟨rfl, m5⟩)
            | (go_at_call 83; refine (ck_Latest1 _ _ _).mono ?_; rintro e w6 ⟨rfl, m6⟩)
            | (at_builtin; go_loud (refine wpList_append_lies _ rfl (.tmp 42) (.tmp 50) 26 rfl Wk.heap.size 3 i0 (.int .i64 0) 1 8 under_ints2 HI.out.1.1 HI.out.1.2.1 HI.out.1.2.2.1 HI.out.1.2.2.2 rfl (by decide) (.slice LA j lc) j ((rowI s dd k j).map (Value.int .i64)) rfl (owns_keep HOW.out ((m5.trans m6).alloc _)) ⟨w6.heap.size, 0, none⟩ 1 1 [.int .i64 (dd (plc s ⟨k, j⟩))] rfl rfl ?c1 ?c2 (by decide) ?c3 ?c4 ?c5 _ rfl ?_)))
          case c1 => exact World.news_of_block (heap_alloc_new _ _)
          case c2 => simp [Value.oneCell']
          case c3 => unfold maxLen; omega
          case c4 => omega
          case c5 => have := HNK.out.size; have := (m5.trans m6).size; simp; omega
          intro g cap w7 ho hg _ _
          have ka := (m5.trans m6).alloc (.cells #[.int .i64 (dd (plc s ⟨k, j⟩))] 3)
          have n7 := Below.trans (HNK.out.trans ka) (grown_below (owns_keep HOW.out ka) hg (HNK.out.trans ka).size)
          have HN7 : Hid (New Wk w7) := Lib.hid n7
          have HO7 := Lib.hid ho
          clear ka n7 ho hg
          go_wp2_with fail
          go_roundw
          case rel => exact ⟨j + 1, by omega, rfl, HN7.out, by rw [rowI_succ, List.map_append]; exact HO7.out⟩
          case measure => simp [intOf]; omega
        · obtain rfl : j = tl := by omega
          go_wp2_with (at_builtin; go_loud (refine wpList_append_lies _ rfl (.tmp 53) (.tmp 55) 47 rfl w2.heap.size 26 i1 (.slice none 0 0) 1 24 under_intss2 HI.out.2.1 HI.out.2.2.1 HI.out.2.2.2.1 HI.out.2.2.2.2 rfl (by decide) (.slice VA k vc) k outs rfl (owns_keep HOO.out ((HN5.out.trans HNK.out).alloc _)) ⟨wr.heap.size, 0, none⟩ 1 1 [.slice LA j lc] rfl rfl ?c1 ?c2 (by decide) ?c3 ?c4 ?c5 _ rfl ?_))
          case c1 => exact World.news_of_block (heap_alloc_new _ _)
          case c2 => simp [Value.oneCell']
          case c3 => unfold maxLen; omega
          case c4 => omega
          case c5 => have := ((HN.out.trans HN5.out).trans HNK.out).size; simp; omega
          intro g cap w7 ho hg _ _
          have ka := (HN5.out.trans HNK.out).alloc (.cells #[.slice LA j lc] 26)
          have kb := (New.refl wr).alloc (.cells #[.slice LA j lc] 26)
          have hao := AllInI.push (rows := rowsI s dd k) (row := rowI s dd k (tkAt s k).times.length) (by rw [rowsI_len]; exact owns_keep HOO.out ka) (fun i hi => by
            rw [rowsI_len] at hi
            obtain ⟨u, a1, a2⟩ := HIN.out i hi
            exact ⟨u, a1, owns_keep a2 ka⟩) hg (by rw [rowsI_len]; exact ho) (by
            rw [rowI_len, htl]
            exact owns_base (owns_keep HOW.out kb) ((HN.out.trans HN5.out).size))
          have n7 := Below.trans (HN.out.trans ka) (grown_below (owns_keep HOO.out ka) hg (HN.out.trans ka).size)
          have HN7 : Hid (New w2 w7) := Lib.hid n7
          rw [← rowsI_succ] at hao
          have HAO := Lib.hid hao
          clear ka kb n7 ho hg hao
          go_wp2_with fail
          go_roundw
          case rel => exact ⟨k + 1, by omega, rfl, HN7.out, HAO.out⟩
          case measure => simp [intOf]; omega
    · obtain rfl : k = s.tracks.length := by omega
      go_wp2_with fail
      go_ret2
      exact ⟨_, w2.heap.size, dd, db, rfl, HN2.out.trans hn, HN2.out.size, ha, HD1.out, HD2.out⟩
set_option maxRecDepth 100000 in
set_option maxHeartbeats 4000000 in
theorem ck_Latest (s : Sy) (hs : Ok s) (A D : Option Addr) (c d : Nat) (w : World) (hM : SysM w A D s) (hbeg : BegA w) (hcl : Closes (egs s)) :
    Calls Tryd.prog 32 #[.agg #[.slice A s.tracks.length c, .slice D s.ties.length d, .int .i64 s.window]] w fun e w' => ∃ V base dd db, e = .returned (.tuple #[V, .int .i64 0]) ∧ New w w' ∧ AllInI w' base V (rowsI s dd s.tracks.length) ∧ Dist (egs s) (nPl s) 0 22001 dd ∧ Dist (turnE (egs s)) (nPl s) 0 22001 db := by
  have n1 := (New.refl w).alloc (.cells #[.slice A s.tracks.length c, .slice D s.ties.length d, .int .i64 s.window] 25)
  have HOF := Lib.hid (ck_ofLatest s hs A D c d _ (hM.keep n1) ⟨n1.cellOf hbeg.1, n1.cellOf hbeg.2⟩ hcl)
  have HN1 := Lib.hid n1
  clear n1 hs hM hbeg hcl
  go_enter Tryd.func32, Tryd.ntmps32
  go_wp2_with fail
  refine HOF.out.mono ?_
  rintro e w1 ⟨V, base, dd, db, rfl, m1, -, ha, d1, d2⟩
  have HA := Lib.hid ha
  have HD := Lib.hid (And.intro d1 d2)
  clear ha d1 d2 HOF
  go_wp2_with fail
  go_ret2
  exact ⟨V, base, dd, db, rfl, HN1.out.trans m1, HA.out, HD.out.1, HD.out.2⟩
end Go.Proofs.YtodmbcoobjcooaaDoor
