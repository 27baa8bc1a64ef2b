/-
  through of ClocksExact: the least times in which a line has a number. Condition: the system lies in memory, is valid and closes.
-/
import Derived.Test.YtodmbcoobjcooaaDoorCkPots
import Derived.Test.YtodmbcoobjcooaaDoorCkKeeps
namespace Go.Proofs.YtodmbcoobjcooaaDoor
open Go Go.RowKit Go.Shelf
attribute [local go_sem] Oper.semAt_some
set_option maxHeartbeats 1000000 in
/-- Interval at a system that closes. -/
theorem ck_IntervalC (s : Sy) (hs : Ok s) (hc : Closes (egs s)) (A D : Option Addr) (c d : Nat) (w : World) (hM : SysM w A D s) (hbeg : BegA w) (r : Rf) (hr : lineB s r = true) :
    Calls Tryd.prog 36 #[.agg #[.slice A s.tracks.length c, .slice D s.ties.length d, .int .i64 s.window], .agg #[.int .i64 r.log, .int .i64 r.line]] w fun e w' => e = .returned (.tuple #[.agg #[.int .i64 (-loF s (plc s r)), .int .i64 (hiF s (plc s r))], .int .i64 0]) ∧ New w w' := by
  refine (ck_IntervalG s A D c d w hM hbeg r).mono ?_
  rintro e w' ⟨lo, hi, er, rfl, h1, h2, -, h3⟩
  have h0 := h2.of_zero (linesE_ok.2 ⟨hs, fun q hq => by rw [List.mem_singleton] at hq; subst hq; exact hr⟩) hc
  subst h0
  obtain ⟨a, b⟩ := h3 rfl
  have e1 : hiF s (plc s r) = hi := mnW_eq a
  have e2 : loF s (plc s r) = -lo := mnW_eq b
  rw [e1, e2, Int.neg_neg]
  exact ⟨rfl, h1⟩
set_option maxHeartbeats 1000000 in
/-- Relation at a system that closes. -/
theorem ck_RelationC (s : Sy) (hs : Ok s) (hc : Closes (egs s)) (A D : Option Addr) (c d : Nat) (w : World) (hM : SysM w A D s) (hbeg : BegA w) (a b : Rf) (ha : lineB s a = true) (hb : lineB s b = true) :
    Calls Tryd.prog 40 #[.agg #[.slice A s.tracks.length c, .slice D s.ties.length d, .int .i64 s.window], .agg #[.int .i64 a.log, .int .i64 a.line], .agg #[.int .i64 b.log, .int .i64 b.line]] w fun e w' => e = .returned (.tuple #[.agg #[.int .i64 (-mnW (egs s) (plc s b) (plc s a)), .int .i64 (mnW (egs s) (plc s a) (plc s b))], .int .i64 0]) ∧ New w w' ∧ (-600000000 ≤ -mnW (egs s) (plc s b) (plc s a) ∧ -mnW (egs s) (plc s b) (plc s a) ≤ 600000000) := by
  refine (ck_RelationG s A D c d w hM hbeg a b).mono ?_
  rintro e w' ⟨lo, hi, er, rfl, h1, h2, hb2, h3⟩
  have h0 := h2.of_zero (linesE_ok.2 ⟨hs, fun q hq => by
    rcases List.mem_cons.1 hq with rfl | hq
    · exact ha
    · rw [List.mem_singleton] at hq; subst hq; exact hb⟩) hc
  subst h0
  obtain ⟨x, y⟩ := h3 rfl
  have e1 : mnW (egs s) (plc s a) (plc s b) = hi := mnW_eq x
  have e2 : mnW (egs s) (plc s b) (plc s a) = -lo := mnW_eq y
  rw [e1, e2, Int.neg_neg]
  exact ⟨rfl, h1, by omega⟩
/-- The least times in which a line has a number. -/
noncomputable def thF (s : Sy) (r : Rf) (n : Int) (v : Nat) : Int := max (-loF s v) (n + -mnW (egs s) v (plc s r))
set_option maxRecDepth 100000 in
set_option maxHeartbeats 8000000 in
theorem law_through (s : Sy) (hs : Ok s) (A D : Option Addr) (c d : Nat) (w : World) (hM : SysM w A D s) (hbeg : BegA w) (hcl : Closes (egs s)) (r : Rf) (hr : lineB s r = true) (n : Int) (hn : -1000000 ≤ n ∧ n ≤ 1000000) :
    Calls Tryd.prog 60 #[.agg #[.slice A s.tracks.length c, .slice D s.ties.length d, .int .i64 s.window], .agg #[.int .i64 r.log, .int .i64 r.line], .int .i64 n] w fun e w' => ∃ V base, e = .returned V ∧ New w w' ∧ AllInI w' base V (rowsI s (thF s r n) s.tracks.length) := by
  have n2 := ((New.refl w).alloc (.cells #[.slice A s.tracks.length c, .slice D s.ties.length d, .int .i64 s.window] 25)).alloc (.cells #[.int .i64 r.log, .int .i64 r.line] 53)
  have r0 := (RowIs.new w 25 [.slice A s.tracks.length c, .slice D s.ties.length d, .int .i64 s.window]).keep ((New.refl _).alloc (.cells #[.int .i64 r.log, .int .i64 r.line] 53))
  have r1 := RowIs.new (w.alloc (.cells #[.slice A s.tracks.length c, .slice D s.ties.length d, .int .i64 s.window] 25)) 53 [.int .i64 r.log, .int .i64 r.line]
  simp only [World.size_alloc] at r1
  have HR0 := Lib.hid r0
  have HR1 := Lib.hid r1
  have HN2 := Lib.hid n2
  have HM := Lib.hid hM
  have HB := Lib.hid hbeg
  have HS := Lib.hid hs
  have HIV : Hid (∀ w' q, lineB s q = true → New w w' → _) := Lib.hid fun w' q hq h => ck_IntervalC s hs hcl A D c d w' (hM.keep h) ⟨h.cellOf hbeg.1, h.cellOf hbeg.2⟩ q hq
  have HRL : Hid (∀ w' q, lineB s q = true → New w w' → _) := Lib.hid fun w' q hq h => ck_RelationC s hs hcl A D c d w' (hM.keep h) ⟨h.cellOf hbeg.1, h.cellOf hbeg.2⟩ r q hr hq
  have HTF : Hid (∀ v, thF s r n v = max (-loF s v) (n + -mnW (egs s) v (plc s r))) := Lib.hid fun _ => rfl
  have hmt := hM.1.1
  clear hM hbeg hs hcl hr n2 r0 r1
  obtain ⟨i0, hi0, hz0, hz1, hz2⟩ := info_parts info_int
  obtain ⟨i1, hi1, hy0, hy1, hy2⟩ := info_parts info_ints2
  have HI : Hid ((Tryd.prog.info? 3 = some i0 ∧ i0.zero = some (.int .i64 0) ∧ i0.size = 1 ∧ i0.bytes = 8) ∧ (Tryd.prog.info? 26 = some i1 ∧ i1.zero = some (.slice none 0 0) ∧ i1.size = 1 ∧ i1.bytes = 24)) := Lib.hid ⟨⟨hi0, hz0, hz1, hz2⟩, hi1, hy0, hy1, hy2⟩
  clear hi0 hz0 hz1 hz2 hi1 hy0 hy1 hy2
  generalize thF s r n = tf at *
  go_enter Tryd.func60, Tryd.ntmps60
  go_wp2_with fail
  generalize hW0 : (w.alloc (.cells #[.slice A s.tracks.length c, .slice D s.ties.length d, .int .i64 s.window] 25)).alloc (.cells #[.int .i64 r.log, .int .i64 r.line] 53) = W0 at *
  clear hW0
  go_loopw [7, 8] (fun V i wr => ∃ k : Nat, k ≤ s.tracks.length ∧ i = .int .i64 k ∧ New W0 wr ∧ AllInI wr W0.heap.size V (rowsI s tf k)) (fun _ i _ => s.tracks.length - (intOf i).toNat)
  case atStart => exact ⟨0, Nat.zero_le _, rfl, New.refl _, AllInI.nil _ _⟩
  case round =>
    obtain ⟨k, hk, rfl, hn1, ha⟩ := hrel
    have c0 := (HR0.out.keep hn1).cell (i := 0) rfl
    by_cases hlt : k < s.tracks.length
    · obtain ⟨b, off, rfl, -, hc⟩ := (HM.out.1.keep (HN2.out.trans hn1)).2 (by omega)
      obtain ⟨JA, jc, TA, tc, z0, z1, z2, z3, -, -⟩ := hc k hlt
      have et : s.tracks[k]?.getD default = tkAt s k := rfl
      rw [et] at z0 z1 z2 z3
      have hl4 := (trackB_facts (HS.out.track hlt)).2.2.2.2.2.1
      obtain ⟨outs, hoo, hin⟩ := ha
      rw [rowsI_len] at hoo hin
      obtain ⟨VA, vc, rfl⟩ := owns_form hoo
      have HOO := Lib.hid hoo
      have HIN := Lib.hid hin
      have HN := Lib.hid hn1
      have ik : (k : Int) < (s.tracks.length : Int) := by omega
      clear hc et hoo hin hn1
      generalize htl : (tkAt s k).times.length = tl at *
      have HZ3 := Lib.hid z3
      go_wp2_with fail
      clear c0 z0 z1 z2 z3
      obtain ⟨w3, hw3⟩ : ∃ w3, w3 = wr := ⟨_, rfl⟩
      subst hw3
      go_loopw [9, 10] (fun L i w' => ∃ j : Nat, j ≤ tl ∧ i = .int .i64 j ∧ New w3 w' ∧ w'.ownsRow w3.heap.size 3 1 L j ((rowI s tf k j).map (Value.int .i64))) (fun _ i _ => tl - (intOf i).toNat)
      case atStart => exact ⟨0, Nat.zero_le _, rfl, New.refl _, World.ownsRow_nil _ _ _ _⟩
      case round =>
        obtain ⟨j, hj, rfl, hnk, how⟩ := hrel
        obtain ⟨LA, lc, rfl⟩ := owns_form how
        have c0 := ((HR0.out.keep HN.out).keep hnk).cell (i := 0) rfl
        have c1 := ((HR0.out.keep HN.out).keep hnk).cell (i := 1) rfl
        have c2 := ((HR0.out.keep HN.out).keep hnk).cell (i := 2) rfl
        have z3 := hnk.cellOf HZ3.out
        have HNK := Lib.hid hnk
        have HOW := Lib.hid how
        clear hnk how
        by_cases hjt : j < tl
        · have i2 : (j : Int) < (tl : Int) := by omega
          have hln : lineB s ⟨k, j⟩ = true := line_mk hlt (by omega)
          have HI1 : Hid (∀ w', New w3 w' → _) := Lib.hid fun w' h => HIV.out w' ⟨k, j⟩ hln (HN2.out.trans (HN.out.trans h))
          have HL1 : Hid (∀ w', New w3 w' → _) := Lib.hid fun w' h => HRL.out w' ⟨k, j⟩ hln (HN2.out.trans (HN.out.trans h))
          have HT1 := Lib.hid (HTF.out (plc s ⟨k, j⟩))
          clear hln
          have q0 := ((HR0.out.keep HN.out).keep HNK.out).lt
          have q1 := ((HR1.out.keep HN.out).keep HNK.out).lt
          go_wp2_with fail
          have k1 := HNK.out.alloc (.cells #[.int .i64 k, .int .i64 j] 53)
          refine (HI1.out _ k1).mono ?_
          rintro e w5 ⟨rfl, m5⟩
          have HQ5 : Hid (New w3 w5) := Lib.hid (k1.trans m5)
          have HWR : Hid (New wr w5) := Lib.hid (((New.refl wr).alloc (.cells #[.int .i64 k, .int .i64 j] 53)).trans m5)
          have RQ := Lib.hid ((RowIs.new wr 53 [.int .i64 k, .int .i64 j]).keep m5)
          clear c0 c1 c2 q0 q1 k1 m5 HI1 z3
          have c0 := ((HR0.out.keep HN.out).keep HQ5.out).cell (i := 0) rfl
          have c1 := ((HR0.out.keep HN.out).keep HQ5.out).cell (i := 1) rfl
          have c2 := ((HR0.out.keep HN.out).keep HQ5.out).cell (i := 2) rfl
          have x0 := ((HR1.out.keep HN.out).keep HQ5.out).cell (i := 0) rfl
          have x1 := ((HR1.out.keep HN.out).keep HQ5.out).cell (i := 1) rfl
          have y0 := RQ.out.cell (i := 0) rfl
          have y1 := RQ.out.cell (i := 1) rfl
          have q0 := ((HR0.out.keep HN.out).keep HQ5.out).lt
          have q1 := ((HR1.out.keep HN.out).keep HQ5.out).lt
          have q2 := RQ.out.lt
          go_wp2_with fail
          have k6 := (New.refl w5).alloc (.cells #[.int .i64 (-loF s (plc s ⟨k, j⟩)), .int .i64 (hiF s (plc s ⟨k, j⟩))] 55)
          refine (HL1.out _ (HQ5.out.trans k6)).mono ?_
          rintro e w6 ⟨rfl, m6, hb6⟩
          have HQ6 : Hid (New w3 w6) := Lib.hid (HQ5.out.trans (k6.trans m6))
          have HW6 : Hid (New wr w6) := Lib.hid (New.of (Below.trans (Below.refl _ _) (by
            have h1 : New wr w5 := HWR.out
            exact h1.trans (k6.trans m6))))
          have RX := Lib.hid ((RowIs.new w5 55 [.int .i64 (-loF s (plc s ⟨k, j⟩)), .int .i64 (hiF s (plc s ⟨k, j⟩))]).keep m6)
          clear c0 c1 c2 x0 x1 y0 y1 q0 q1 q2 k6 m6 HL1 RQ HQ5
          have x0 := RX.out.cell (i := 0) rfl
          have q0 := RX.out.lt
          have hmax : tf (plc s ⟨k, j⟩) = max (-loF s (plc s ⟨k, j⟩)) (n + -mnW (egs s) (plc s ⟨k, j⟩) (plc s r)) := HT1.out
          have hw : IntKind.i64.wrap (n + -mnW (egs s) (plc s ⟨k, j⟩) (plc s r)) = n + -mnW (egs s) (plc s ⟨k, j⟩) (plc s r) := IntWalk.i64_in _ (by omega)
          have HMX := Lib.hid hmax
          clear hmax
          generalize hTV : tf (plc s ⟨k, j⟩) = tv at *
          have HTV := Lib.hid hTV
          clear hTV
          generalize -mnW (egs s) (plc s ⟨k, j⟩) (plc s r) = yl at *
          generalize -loF s (plc s ⟨k, j⟩) = xl at *
          generalize mnW (egs s) (plc s r) (plc s ⟨k, j⟩) = yh at *
          have ka : New wr (w6.alloc (.cells #[.int .i64 yl, .int .i64 yh] 55)) := HW6.out.alloc (.cells #[.int .i64 yl, .int .i64 yh] 55)
          have kb : New wr ((w6.alloc (.cells #[.int .i64 yl, .int .i64 yh] 55)).alloc (.cells #[.int .i64 (max xl (n + yl))] 3)) := ka.alloc (.cells #[.int .i64 (max xl (n + yl))] 3)
          go_wp2_with (at_builtin; go_loud (refine wpList_append_lies _ rfl (.tmp 50) (.tmp 58) 26 rfl w3.heap.size 3 i0 (.int .i64 0) 1 8 under_ints2 HI.out.1.1 HI.out.1.2.1 HI.out.1.2.2.1 HI.out.1.2.2.2 rfl (by decide) (.slice LA j lc) j ((rowI s tf k j).map (Value.int .i64)) rfl (owns_keep HOW.out kb) ⟨w6.heap.size + 1, 0, none⟩ 1 1 [.int .i64 (max xl (n + yl))] rfl rfl ?c1 ?c2 (by decide) ?c3 ?c4 ?c5 _ rfl ?_))
          case c1 => exact (by have h := World.news_of_block (heap_alloc_new (w6.alloc (.cells #[.int .i64 yl, .int .i64 yh] 55)) (.cells #[.int .i64 (max xl (n + yl))] 3)); rw [World.size_alloc] at h; exact h)
          case c2 => simp [Value.oneCell']
          case c3 => unfold maxLen; omega
          case c4 => omega
          case c5 => have := HNK.out.size; have := kb.size; omega
          intro g cap w7 ho hg _ _
          have n7 := Below.trans (HNK.out.trans kb) (grown_below (owns_keep HOW.out kb) hg (by have := HNK.out.size; have := kb.size; omega))
          have HN7 : Hid (New w3 w7) := Lib.hid n7
          have HO7 := Lib.hid ho
          clear ka kb n7 ho hg hw hb6 x0 q0
          go_wp2_with fail
          go_roundw
          case rel => exact ⟨j + 1, by omega, rfl, HN7.out, by rw [rowI_succ, List.map_append, HTV.out, HMX.out]; exact HO7.out⟩
          case measure => simp [intOf]; omega
        · obtain rfl : j = tl := by omega
          have q0 := ((HR0.out.keep HN.out).keep HNK.out).lt
          go_wp2_with (at_builtin; go_loud (refine wpList_append_lies _ rfl (.tmp 60) (.tmp 62) 47 rfl W0.heap.size 26 i1 (.slice none 0 0) 1 24 under_intss2 HI.out.2.1 HI.out.2.2.1 HI.out.2.2.2.1 HI.out.2.2.2.2 rfl (by decide) (.slice VA k vc) k outs rfl (owns_keep HOO.out (HNK.out.alloc _)) ⟨wr.heap.size, 0, none⟩ 1 1 [.slice LA j lc] rfl rfl ?c1 ?c2 (by decide) ?c3 ?c4 ?c5 _ rfl ?_))
          case c1 => exact World.news_of_block (heap_alloc_new _ _)
          case c2 => simp [Value.oneCell']
          case c3 => unfold maxLen; omega
          case c4 => have := (checkE_ok HS.out).1; omega
          case c5 => have := (HN.out.trans HNK.out).size; simp; omega
          intro g cap w7 ho hg _ _
          have ka := HNK.out.alloc (.cells #[.slice LA j lc] 26)
          have kb := (New.refl wr).alloc (.cells #[.slice LA j lc] 26)
          have hao := AllInI.push (rows := rowsI s tf k) (row := rowI s tf k (tkAt s k).times.length) (by rw [rowsI_len]; exact owns_keep HOO.out ka) (fun i hi => by
            rw [rowsI_len] at hi
            obtain ⟨u, a1, a2⟩ := HIN.out i hi
            exact ⟨u, a1, owns_keep a2 ka⟩) hg (by rw [rowsI_len]; exact ho) (by
            rw [rowI_len, htl]
            exact owns_base (owns_keep HOW.out kb) HN.out.size)
          have n7 := Below.trans (HN.out.trans ka) (grown_below (owns_keep HOO.out ka) hg (HN.out.trans ka).size)
          have HN7 : Hid (New W0 w7) := Lib.hid n7
          rw [← rowsI_succ] at hao
          have HAO := Lib.hid hao
          clear ka kb n7 ho hg hao
          go_wp2_with fail
          go_roundw
          case rel => exact ⟨k + 1, by omega, rfl, HN7.out, HAO.out⟩
          case measure => simp [intOf]; omega
    · obtain rfl : k = s.tracks.length := by omega
      go_wp2_with fail
      go_ret
      exact ⟨_, _, rfl, HN2.out.trans hn1, ha⟩
end Go.Proofs.YtodmbcoobjcooaaDoor
