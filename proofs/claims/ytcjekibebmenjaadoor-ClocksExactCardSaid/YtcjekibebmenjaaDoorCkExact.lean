/-
  ClocksExact: spans are exact: both ends keep all bounds, no times that keep them leave a span, and each number of a span occurs. Condition: the variable beginning holds what the program's text lays.
-/
import Derived.Test.YtcjekibebmenjaaDoorCkSpans
import Derived.Test.YtcjekibebmenjaaDoorCkOpen2
import Derived.StillTail
import Derived.BigQuiet
namespace Go.Proofs.YtcjekibebmenjaaDoor
open Go Go.RowKit Go.Shelf
open Go.ChangeShapes Go.WideShapes Go.ChangeAt Go.Deep
attribute [local go_sem] Oper.semAt_some
theorem still_of_quiet {P : Program} {o : Oper} {a : Act} {w : World} {K : Act → Prop} (h : o.quiet P a (fun w' => w' = w) K) : o.still P a w K := by
  obtain ⟨v, h1, h2⟩ := h
  have h3 := h1 w rfl
  unfold Oper.quietAt at h3
  unfold Oper.still
  generalize (execOp a.eval o).run P w = r at *
  cases r with
  | ok n w' =>
    cases n <;> simp only [Oper.quietUpon] at h3 <;> simp only [Oper.stillUpon]
    case value u => obtain ⟨rfl, rfl⟩ := h3; exact ⟨rfl, h2⟩
    case skip => obtain ⟨rfl, rfl⟩ := h3; exact ⟨rfl, h2⟩
    case enter f args => obtain ⟨rfl, hc⟩ := h3; exact ⟨rfl, v, hc, h2⟩
  | halt x w' => simp only [Oper.quietUpon] at h3
theorem wpStill_of_quiet {P : Program} {ops : Array Oper} {w : World} {Q : Act → Prop} : ∀ (l : List Oper) (a : Act), wpQuiet P ops (fun w' => w' = w) Q l a → wpStill P ops w Q l a
  | [], _, h => h
  | o :: rest, a, h => by
    unfold wpQuiet at h
    unfold wpStill
    split
    · rename_i hw
      rw [if_pos hw] at h
      exact Oper.still_mono (fun a' => wpStill_of_quiet rest a') (still_of_quiet h)
    · rename_i hw
      rw [if_neg hw] at h
      exact wpStill_of_quiet rest _ h
/-- A region that draws, whose first n operations only read, and whose others come in one order. -/
theorem region_tail_quiet {P : Program} {id : Nat} {Q : Exit → Act → World → Prop} {a : Act} {w : World} {l : List Oper} (n : Nat) (hm : P.follows .mixedOrders = true) (hB : Region.lexTailB .any l.toArray n = true)
    (h : wpQuiet P l.toArray (fun w' => w' = w.drew) (fun a' => wpList P l.toArray Q (l.drop n) a' w.drew) (l.take n) a) : (Code.region id l.toArray true).wp P Q a w :=
  wp_region_still_tail n hm hB (wpStill_of_quiet _ _ h)
set_option maxRecDepth 100000 in
set_option maxHeartbeats 4000000 in
theorem law_inside (x lo hi : Int) (w : World) :
    Calls Tryd.prog 59 #[.int .i64 x, .agg #[.int .i64 lo, .int .i64 hi]] w fun e w' => e = .returned (.bool (decide (lo ≤ x) && decide (x ≤ hi))) ∧ New w w' := by
  have n1 := (New.refl w).alloc (.cells #[.int .i64 lo, .int .i64 hi] 55)
  have r1 := RowIs.new w 55 [.int .i64 lo, .int .i64 hi]
  have c0 := r1.cell (i := 0) rfl
  have c1 := r1.cell (i := 1) rfl
  have HN := Lib.hid n1
  clear n1 r1
  go_enter Tryd.func59, Tryd.ntmps59
  cases h1 : decide (lo ≤ x) with
  | false =>
    go_wp2_with fail
    go_ret
    exact ⟨rfl, HN.out⟩
  | true =>
    go_wp2_with fail
    go_ret
    exact ⟨rfl, HN.out⟩
theorem law_throughI (s : Sy) (hs : Ok s) (A D : Option Addr) (c d : Nat) (w : World) (hM : SysM w A D s) (hbeg : BegA w) (hcl : Closes (egs s)) (r : Rf) (hr : lineB s r = true) (n : Int) (hn : -1000000 ≤ n ∧ n ≤ 1000000) :
    Calls Tryd.prog 60 #[.agg #[.slice A s.tracks.length c, .slice D s.ties.length d, .int .i64 s.window], .agg #[.int .i64 r.log, .int .i64 r.line], .int .i64 n] w fun e w' => ∃ B bc, e = .returned (.slice B s.tracks.length bc) ∧ New w w' ∧ IssA w' B (rowsI s (thF s r n) s.tracks.length) := by
  refine (law_through s hs A D c d w hM hbeg hcl r hr n hn).mono ?_
  rintro e w' ⟨V, base, rfl, h1, h2⟩
  obtain ⟨B, bc, rfl, h3⟩ := h2.iss
  rw [rowsI_len]
  exact ⟨B, bc, rfl, h1, h3⟩
set_option maxRecDepth 100000 in
set_option maxHeartbeats 8000000 in
theorem law_exact (s : Sy) (l : List (List Int)) (A D L : Option Addr) (c d lc : Nat) (r : Rf) (n : Int) (w : World) (hM : SysM w A D s) (hbeg : BegA w) (hL : IssA w L l) :
    Calls Tryd.prog 8 #[.agg #[.slice A s.tracks.length c, .slice D s.ties.length d, .int .i64 s.window], .slice L l.length lc, .agg #[.int .i64 r.log, .int .i64 r.line], .int .i64 n] w fun e w' => e = .returned (.bool true) ∧ New w w' := by
  obtain ⟨rl, rn⟩ := r
  dsimp only
  have n2 := ((New.refl w).alloc (.cells #[.slice A s.tracks.length c, .slice D s.ties.length d, .int .i64 s.window] 25)).alloc (.cells #[.int .i64 rl, .int .i64 rn] 53)
  have r1 := (RowIs.new w 25 [.slice A s.tracks.length c, .slice D s.ties.length d, .int .i64 s.window]).keep ((New.refl _).alloc (.cells #[.int .i64 rl, .int .i64 rn] 53))
  have r2 := RowIs.new (w.alloc (.cells #[.slice A s.tracks.length c, .slice D s.ties.length d, .int .i64 s.window] 25)) 53 [.int .i64 rl, .int .i64 rn]
  simp only [World.size_alloc] at r2
  have HR1 := Lib.hid r1
  have HR2 := Lib.hid r2
  have HN := Lib.hid n2
  have HAW := Lib.hid (law_awake _ ⟨n2.cellOf hbeg.1, n2.cellOf hbeg.2⟩)
  have HFW : Hid (∀ w', New w w' → _) := Lib.hid fun w' h => law_few s A D c d w' (hM.keep h)
  have HM := Lib.hid hM
  have HB : Hid (∀ w', New w w' → BegA w') := Lib.hid fun w' h => ⟨h.cellOf hbeg.1, h.cellOf hbeg.2⟩
  have HL := Lib.hid hL
  have HKE : Hid (∀ (ll : List (List Int)) (LA : Option Addr) (lcc : Nat) (w' : World), New w w' → IssA w' LA ll → _) := Lib.hid fun ll LA lcc w' h hI => ck_Keeps s ll A D LA c d lcc w' (hM.keep h) ⟨h.cellOf hbeg.1, h.cellOf hbeg.2⟩ hI
  have hll := hL.1
  have hmt := hM.1.1
  clear hM hbeg hL n2 r1 r2
  have c0 := HR1.out.cell (i := 0) rfl
  have c1 := HR1.out.cell (i := 1) rfl
  have c2 := HR1.out.cell (i := 2) rfl
  go_enter Tryd.func8, Tryd.ntmps8
  go_wp2_with fail
  refine HAW.out.mono ?_
  rintro e w1 ⟨rfl, m1⟩
  have HN1 := Lib.hid (HN.out.trans m1)
  have HA1 := Lib.hid (HR1.out.keep m1)
  have HA2 := Lib.hid (HR2.out.keep m1)
  clear c0 c1 c2 m1 HR1 HR2 HAW
  have c0 := HA1.out.cell (i := 0) rfl
  have c1 := HA1.out.cell (i := 1) rfl
  have c2 := HA1.out.cell (i := 2) rfl
  go_wp2_with fail
  refine (HFW.out _ HN1.out).mono ?_
  rintro e w2 ⟨⟨fb, rfl⟩, m2⟩
  have HN2 := Lib.hid (HN1.out.trans m2)
  have HB1 := Lib.hid (HA1.out.keep m2)
  have HB2 := Lib.hid (HA2.out.keep m2)
  clear c0 c1 c2 m2 HA1 HA2 HFW
  have c0 := HB1.out.cell (i := 0) rfl
  have c1 := HB1.out.cell (i := 1) rfl
  have c2 := HB1.out.cell (i := 2) rfl
  cases fb with
  | false =>
    go_wp2_with fail
    go_ret
    exact ⟨rfl, HN2.out⟩
  | true =>
  by_cases h100 : 100 < l.length
  · have h100' : decide (100 < (l.length : Int)) = true := by simp; omega
    go_wp2_with fail
    go_ret
    exact ⟨rfl, HN2.out⟩
  have h100' : decide (100 < (l.length : Int)) = false := by simp; omega
  by_cases hcl : checkE s = 0 ∧ Closes (egs s)
  · obtain ⟨hs, hc⟩ := hcl
    have hs : Ok s := hs
    have HS := Lib.hid hs
    have HCL := Lib.hid hc
    have HTC := Lib.hid (ck_TimesC s hs hc A D c d w2 (HM.out.keep HN2.out) (HB.out _ HN2.out))
    have HEC : Hid (∀ w', New w w' → _) := Lib.hid fun w' h => ck_EarliestC s hs hc A D c d w' (HM.out.keep h) (HB.out _ h)
    have HLC : Hid (∀ w', New w w' → _) := Lib.hid fun w' h => ck_LatestC s hs hc A D c d w' (HM.out.keep h) (HB.out _ h)
    have HK1 := Lib.hid (keeps_lo hs hc)
    have HK2 := Lib.hid (keeps_hi hs hc)
    have HKL : Hid (keepsB s l = true → _) := Lib.hid fun h => keeps_len h
    have HKI : Hid (keepsB s l = true → ∀ i j, i < s.tracks.length → j < (tkAt s i).times.length → _) := Lib.hid fun h i j hi hj => keeps_inside hc h (i := i) (j := j) hi hj
    have HCE : Hid (checkE s = 0) := Lib.hid hs
    clear hs hc
    generalize hkp : keepsB s l = kp at *
    have HKP := Lib.hid hkp
    clear hkp
    go_wp2_with fail
    refine HTC.out.mono ?_
    rintro e w3 ⟨TA, ta, rfl, m3, hT⟩
    have HN3 := Lib.hid (HN2.out.trans m3)
    have HX3 := Lib.hid (HB1.out.keep m3)
    have HY3 := Lib.hid (HB2.out.keep m3)
    have HT3 := Lib.hid hT
    clear hT HTC
    clear c0 c1 c2 m3 HB1 HB2
    have c0 := HX3.out.cell (i := 0) rfl
    have c1 := HX3.out.cell (i := 1) rfl
    have c2 := HX3.out.cell (i := 2) rfl
    go_wp2_with fail
    refine (HEC.out _ HN3.out).mono ?_
    rintro e w4 ⟨EA, ea, rfl, m4, hE⟩
    have HN4 := Lib.hid (HN3.out.trans m4)
    have HX4 := Lib.hid (HX3.out.keep m4)
    have HY4 := Lib.hid (HY3.out.keep m4)
    have HT4 := Lib.hid (HT3.out.keep m4)
    have HE4 := Lib.hid hE
    clear hE HEC HT3
    clear c0 c1 c2 m4 HX3 HY3
    have c0 := HX4.out.cell (i := 0) rfl
    have c1 := HX4.out.cell (i := 1) rfl
    have c2 := HX4.out.cell (i := 2) rfl
    go_wp2_with fail
    refine (HLC.out _ HN4.out).mono ?_
    rintro e w5 ⟨FA, fa, rfl, m5, hF⟩
    have HN5 := Lib.hid (HN4.out.trans m5)
    have HX5 := Lib.hid (HX4.out.keep m5)
    have HY5 := Lib.hid (HY4.out.keep m5)
    have HT5 := Lib.hid (HT4.out.keep m5)
    have HE5 := Lib.hid (HE4.out.keep m5)
    have HF5 := Lib.hid hF
    have HKA := Lib.hid (HKE.out _ EA ea _ (HN4.out.trans m5) (HE4.out.keep m5))
    rw [HK1.out, HCE.out, rowsI_len] at HKA
    clear hF HLC HT4 HE4
    clear c0 c1 c2 m5 HX4 HY4
    have c0 := HX5.out.cell (i := 0) rfl
    have c1 := HX5.out.cell (i := 1) rfl
    have c2 := HX5.out.cell (i := 2) rfl
    go_wp2_with fail
    refine HKA.out.mono ?_
    rintro e w6 ⟨rfl, m6⟩
    have HN6 := Lib.hid (HN5.out.trans m6)
    have HX6 := Lib.hid (HX5.out.keep m6)
    have HY6 := Lib.hid (HY5.out.keep m6)
    have HT6 := Lib.hid (HT5.out.keep m6)
    have HE6 := Lib.hid (HE5.out.keep m6)
    have HF6 := Lib.hid (HF5.out.keep m6)
    have HKB := Lib.hid (HKE.out _ FA fa _ (HN5.out.trans m6) (HF5.out.keep m6))
    rw [HK2.out, HCE.out, rowsI_len] at HKB
    clear HT5 HE5 HF5 HKA
    clear c0 c1 c2 m6 HX5 HY5
    have c0 := HX6.out.cell (i := 0) rfl
    have c1 := HX6.out.cell (i := 1) rfl
    have c2 := HX6.out.cell (i := 2) rfl
    go_wp2_with fail
    refine HKB.out.mono ?_
    rintro e w7 ⟨rfl, m7⟩
    have HN7 := Lib.hid (HN6.out.trans m7)
    have HX7 := Lib.hid (HX6.out.keep m7)
    have HY7 := Lib.hid (HY6.out.keep m7)
    have HT7 := Lib.hid (HT6.out.keep m7)
    have HE7 := Lib.hid (HE6.out.keep m7)
    have HF7 := Lib.hid (HF6.out.keep m7)
    have HKC := Lib.hid (HKE.out l L lc _ (HN6.out.trans m7) (HL.out.keep (HN6.out.trans m7)))
    rw [HKP.out, HCE.out] at HKC
    clear HT6 HE6 HF6 HKB
    clear c0 c1 c2 m7 HX6 HY6
    have c0 := HX7.out.cell (i := 0) rfl
    have c1 := HX7.out.cell (i := 1) rfl
    have c2 := HX7.out.cell (i := 2) rfl
    go_wp2_with fail
    refine HKC.out.mono ?_
    rintro e w8 ⟨rfl, m8⟩
    have HN8 := Lib.hid (HN7.out.trans m8)
    have HX8 := Lib.hid (HX7.out.keep m8)
    have HY8 := Lib.hid (HY7.out.keep m8)
    have HT8 := Lib.hid (HT7.out.keep m8)
    have HE8 := Lib.hid (HE7.out.keep m8)
    have HF8 := Lib.hid (HF7.out.keep m8)
    clear HT7 HE7 HF7 HKC
    clear c0 c1 c2 m8 HX7 HY7
    have c0 := HX8.out.cell (i := 0) rfl
    have c1 := HX8.out.cell (i := 1) rfl
    have c2 := HX8.out.cell (i := 2) rfl
    go_wp2_with fail
    clear c0 c1 c2
    go_loopw [24] (fun i wr => ∃ k : Nat, k ≤ s.tracks.length ∧ i = .int .i64 k ∧ New w8 wr) (fun i _ => s.tracks.length - (intOf i).toNat)
    case atStart => exact ⟨0, Nat.zero_le _, rfl, New.refl _⟩
    case round =>
      obtain ⟨k, hk, rfl, hn⟩ := hrel
      have c0 := (HX8.out.keep hn).cell (i := 0) rfl
      by_cases hlt : k < s.tracks.length
      · obtain ⟨b, off, rfl, -, hcc⟩ := (HM.out.1.keep (HN8.out.trans hn)).2 (by omega)
        obtain ⟨JA, jc, UA, uc, z0, z1, z2, z3, -, hU⟩ := hcc k hlt
        have et : s.tracks[k]?.getD default = tkAt s k := rfl
        rw [et] at z0 z1 z2 z3 hU
        have hl4 := (trackB_facts (HS.out.track hlt)).2.2.2.2.2.1
        obtain ⟨tb, to, TB, tc, rfl, -, t0, hTr⟩ := (HT8.out.keep hn).row hlt
        obtain ⟨eb, eo, EB, ec, rfl, -, e0, hEr⟩ := (HE8.out.keep hn).rowI hlt
        obtain ⟨fb, fo, FB, fc, rfl, -, f0, hFr⟩ := (HF8.out.keep hn).rowI hlt
        have HN9 := Lib.hid hn
        have HUr := Lib.hid hU
        have HTr := Lib.hid hTr
        have HEr := Lib.hid hEr
        have HFr := Lib.hid hFr
        have ik : (k : Int) < (s.tracks.length : Int) := by omega
        have HTKF := Lib.hid (trackB_facts (HS.out.track hlt))
        have HSSL : Hid (∀ j, j < (tkAt s k).times.length → _) := Lib.hid fun j hj => span_slip HCL.out (line_mk hlt hj)
        clear hcc et hn hU hTr hEr hFr
        generalize htl : (tkAt s k).times.length = tl at *
        have HZ0 := Lib.hid z0
        have HZ3 := Lib.hid z3
        have HT0 := Lib.hid t0
        have HE0 := Lib.hid e0
        have HF0 := Lib.hid f0
        clear HK1 HK2 HB HKE
        go_wp2_with fail
        go_quiet (fail)
        dsimp only [Exit.then]
        have HND := Lib.hid ((New.refl wr).drewN nq)
        clear c0 z0 z1 z2 z3 t0 e0 f0
        generalize wr.drewN nq = wd at *
        go_wp2_with fail
        obtain ⟨wo, hwo⟩ : ∃ wo, wo = wd := ⟨_, rfl⟩
        subst hwo
        go_loopw [25] (fun i wr => ∃ j : Nat, j ≤ tl ∧ i = .int .i64 j ∧ New wo wr) (fun i _ => tl - (intOf i).toNat)
        case atStart => exact ⟨0, Nat.zero_le _, rfl, New.refl _⟩
        case round =>
          obtain ⟨j, hj, rfl, hnj⟩ := hrel
          have HNJ := Lib.hid (HND.out.trans hnj)
          have HNW := Lib.hid hnj
          clear hnj
          have c0 := ((HX8.out.keep HN9.out).keep HNJ.out).cell (i := 0) rfl
          have z0 := HNJ.out.cellOf HZ0.out
          have z3 := HNJ.out.cellOf HZ3.out
          have t0 := HNJ.out.cellOf HT0.out
          have e0 := HNJ.out.cellOf HE0.out
          have f0 := HNJ.out.cellOf HF0.out
          by_cases hjt : j < tl
          · obtain ⟨ub, uo, rfl, -, u0⟩ := ints_at (HUr.out.keep HNJ.out) (j := j) (by omega)
            obtain ⟨sb, so, rfl, -, s0, s1⟩ := (HTr.out.keep HNJ.out).at hjt
            obtain ⟨xb, xo, rfl, -, x0⟩ := ints_row (HEr.out.keep HNJ.out) hjt
            obtain ⟨yb, yo, rfl, -, y0⟩ := ints_row (HFr.out.keep HNJ.out) hjt
            have ij : (j : Int) < (tl : Int) := by omega
            have hsp := HSSL.out j (by omega)
            have htm := (HTKF.out.1 j (by omega)).1
            have htm2 := (HTKF.out.1 j (by omega)).2.1
            have hsl := HTKF.out.2.1
            have hsl2 := HTKF.out.2.2.1
            have et2 : tmAt (tkAt s k) j = (tkAt s k).times[j]?.getD 0 := rfl
            simp only [Int.toNat_natCast] at hsp
            rw [et2] at hsp htm htm2
            have HKI2 : Hid (kp = true → _) := Lib.hid fun h => HKI.out h k j hlt (by omega)
            clear et2 HSSL HTKF HUr HTr HEr HFr HZ0 HZ3 HT0 HE0 HF0
            generalize (tkAt s k).times[j]?.getD 0 = tm at *
            generalize (tkAt s k).slip = sl at *
            generalize -loF s (plc s ⟨k, j⟩) = lo at *
            generalize hiF s (plc s ⟨k, j⟩) = hi at *
            have hw1 : IntKind.i64.wrap (tm - sl) = tm - sl := IntWalk.i64_in _ (by omega)
            have hw2 : IntKind.i64.wrap (tm + sl) = tm + sl := IntWalk.i64_in _ (by omega)
            have hd1 : decide (lo < tm - sl) = false := by simp; omega
            have hd2 : decide (tm + sl < hi) = false := by simp; omega
            cases kp with
            | false =>
              as_aux_lemma =>
                go_wp2_with fail
                try simp only [List.append_eq, List.cons_append, List.nil_append]
                refine region_tail_quiet 68 (by kernel_rfl) (by kernel_rfl) ?_
                simp only [List.take_succ_cons, List.take_zero]
                repeat (go_big_quiet_step (fail))
                refine wpQuiet_nil ?_
                simp only [List.drop_succ_cons, List.drop_zero]
                have HNF := Lib.hid (HNW.out.drew)
                clear c0 z0 z3 t0 e0 f0 u0 s0 s1 x0 y0
                generalize wr.drew = wf at *
                go_wp2_with fail
                go_roundw
                case rel => exact ⟨j + 1, by omega, by go_num, HNF.out⟩
                case measure => simp [intOf]; omega
            | true =>
              as_aux_lemma =>
                obtain ⟨k1, k2⟩ := HKL.out rfl
                have k3 := k2 k hlt
                have hin := HKI2.out rfl
                obtain ⟨lb, lo2, LB, lbc, rfl, -, l0, hLr⟩ := (HL.out.keep (HN8.out.trans (HN9.out.trans HNJ.out))).row (i := k) (by omega)
                obtain ⟨mb, mo, rfl, -, l1⟩ := ints_at hLr (j := j) (by omega)
                have ikl : (k : Int) < (l.length : Int) := by omega
                have ijl : (j : Int) < ((l[k]?.getD []).length : Int) := by omega
                generalize (l[k]?.getD [])[j]?.getD 0 = x at *
                generalize hlk : (l[k]?.getD []).length = lk at *
                have HIN := Lib.hid (fun w' => law_inside x lo hi w')
                have hdi : (decide (lo ≤ x) && decide (x ≤ hi)) = true := by simp [hin]
                rw [hdi] at HIN
                have hlkm : lk ≤ 9223372036854775807 := by omega
                clear k1 k2 k3 hLr hlk hdi hin hsp
                go_wp2_with fail
                try simp only [List.append_eq, List.cons_append, List.nil_append]
                refine region_tail_quiet 68 (by kernel_rfl) (by kernel_rfl) ?_
                simp only [List.take_succ_cons, List.take_zero]
                repeat (go_big_quiet_step (fail))
                refine wpQuiet_nil ?_
                simp only [List.drop_succ_cons, List.drop_zero]
                have HNF := Lib.hid (HNW.out.drew)
                clear c0 z0 z3 t0 e0 f0 u0 s0 s1 x0 y0 l0 l1
                generalize wr.drew = wf at *
                go_wp2_with fail
                refine (HIN.out _).mono ?_
                rintro e w9 ⟨rfl, m9⟩
                have HNG := Lib.hid (HNF.out.trans m9)
                clear m9
                go_wp2_with fail
                go_roundw
                case rel => exact ⟨j + 1, by omega, by go_num, HNG.out⟩
                case measure => simp [intOf]; omega
          · obtain rfl : j = tl := by omega
            go_wp2_with fail
            go_roundw
            case rel => exact ⟨k + 1, by omega, by go_num, HN9.out.trans HNJ.out⟩
            case measure => simp [intOf]; omega
      · obtain rfl : k = s.tracks.length := by omega
        have HN9 := Lib.hid (HN8.out.trans hn)
        have HX9 := Lib.hid (HX8.out.keep hn)
        have HY9 := Lib.hid (HY8.out.keep hn)
        have HT9 := Lib.hid (HT8.out.keep hn)
        clear hn c0 HX8 HY8 HT8 HE8 HF8 HN8 HKP HKI HKL
        have c0 := HX9.out.cell (i := 0) rfl
        have c1 := HX9.out.cell (i := 1) rfl
        have c2 := HX9.out.cell (i := 2) rfl
        have d0 := HY9.out.cell (i := 0) rfl
        have d1 := HY9.out.cell (i := 1) rfl
        have q1 := HX9.out.lt
        have q2 := HY9.out.lt
        by_cases hr : lineB s ⟨rl, rn⟩ = true
        · as_aux_lemma =>
            have HIC := Lib.hid (ck_IntervalC s HS.out HCL.out A D c d wr (HM.out.keep HN9.out) (HB.out _ HN9.out) ⟨rl, rn⟩ hr)
            go_wp2_with fail
            refine HIC.out.mono ?_
            rintro e wa ⟨rfl, ma⟩
            have HNA := Lib.hid (HN9.out.trans ma)
            have HXA := Lib.hid (HX9.out.keep ma)
            have HYA := Lib.hid (HY9.out.keep ma)
            have HTA := Lib.hid (HT9.out.keep ma)
            clear c0 c1 c2 d0 d1 q1 q2 HIC ma HX9 HY9 HT9 HN9
            obtain ⟨-, -, -, hi, hj, p1, p2⟩ := plc_line hr
            dsimp only at hi hj p1 p2
            obtain ⟨ri, rfl⟩ : ∃ i : Nat, rl = i := ⟨rl.toNat, by omega⟩
            obtain ⟨rj, rfl⟩ : ∃ i : Nat, rn = i := ⟨rn.toNat, by omega⟩
            simp only [Int.toNat_natCast] at hi hj
            have HPL : Hid (lineB s ⟨ri, rj⟩ = true) := Lib.hid hr
            have hps := span_slip HCL.out hr
            have hlh := lohi_in HS.out HCL.out (plc_lt (.inr hr))
            have HTH : Hid (∀ m, -loF s (plc s ⟨ri, rj⟩) ≤ m → m ≤ hiF s (plc s ⟨ri, rj⟩) → keepsB s (rowsI s (thF s ⟨ri, rj⟩ m) s.tracks.length) = true) := Lib.hid fun m h1 h2 => keeps_th HS.out HCL.out hr h1 h2
            have HTW : Hid (∀ m w', -1000000 ≤ m ∧ m ≤ 1000000 → New w w' → _) := Lib.hid fun m w' hm h => law_throughI s HS.out A D c d w' (HM.out.keep h) (HB.out _ h) HCL.out ⟨ri, rj⟩ hr m hm
            have hq1 := HXA.out.lt
            have hq2 := HYA.out.lt
            have hq3 := hps.2.2
            clear hps p1 p2 hr
            obtain ⟨tb, to, TB, tc, rfl, -, t0, hTr⟩ := HTA.out.row hi
            obtain ⟨sb, so, rfl, -, s0, s1⟩ := hTr.at hj
            have HT0 := Lib.hid (And.intro t0 (And.intro s0 s1))
            clear t0 s0 s1 hTr
            generalize hLO : -loF s (plc s ⟨ri, rj⟩) = lo at *
            generalize hHI : hiF s (plc s ⟨ri, rj⟩) = hi2 at *
            clear hLO hHI
            go_wp2_with fail
            have HMM : Hid (keepsB s (rowsI s (thF s ⟨ri, rj⟩ (min hi2 (max lo n))) s.tracks.length) = true) := Lib.hid (HTH.out _ (by omega) (by omega))
            have hmm : -1000000 ≤ min hi2 (max lo n) ∧ min hi2 (max lo n) ≤ 1000000 := by omega
            generalize min hi2 (max lo n) = m at *
            have nA := (New.refl wa).alloc (.cells #[.int .i64 lo, .int .i64 hi2] 55)
            have HXB := Lib.hid (HXA.out.keep nA)
            have HYB := Lib.hid (HYA.out.keep nA)
            have HSB := Lib.hid (RowIs.new wa 55 [.int .i64 lo, .int .i64 hi2])
            have HNB := Lib.hid (HNA.out.trans nA)
            have HTB := Lib.hid (And.intro (nA.cellOf HT0.out.1) (And.intro (nA.cellOf HT0.out.2.1) (nA.cellOf HT0.out.2.2)))
            clear nA HXA HYA HT0
            generalize wa.alloc (.cells #[.int .i64 lo, .int .i64 hi2] 55) = P at *
            have HSD : Hid (∀ w', New P w' → (fun w' => New P w' ∧ (w'.cell? ⟨w.heap.size, 0, none⟩ = some (.slice A s.tracks.length c) ∧ w'.cell? ⟨w.heap.size, 1, none⟩ = some (.slice D s.ties.length d) ∧ w'.cell? ⟨w.heap.size, 2, none⟩ = some (.int .i64 s.window) ∧ w'.cell? ⟨w.heap.size + 1, 0, none⟩ = some (.int .i64 ri) ∧ w'.cell? ⟨w.heap.size + 1, 1, none⟩ = some (.int .i64 rj))) w') := Lib.hid fun w' h => ⟨h, (HXB.out.keep h).cell rfl, (HXB.out.keep h).cell rfl, (HXB.out.keep h).cell rfl, (HYB.out.keep h).cell rfl, (HYB.out.keep h).cell rfl⟩
            dsimp only at HSD
            have HTV : Hid (∀ w', New P w' → _) := Lib.hid fun w' h => HTW.out m w' hmm (HNB.out.trans h)
            have HKV : Hid (∀ w' TA ta, New P w' → IssA w' TA (rowsI s (thF s ⟨ri, rj⟩ m) s.tracks.length) → Calls Tryd.prog 48 #[.agg #[.slice A s.tracks.length c, .slice D s.ties.length d, .int .i64 s.window], .slice TA s.tracks.length ta] w' fun e w'' => e = .returned (.tuple #[.bool true, .int .i64 0]) ∧ New w' w'') := Lib.hid fun w' TA ta h hI => by
              have := HKE.out _ TA ta w' (HNB.out.trans h) hI
              rw [HMM.out, HCE.out, rowsI_len] at this
              exact this
            go_region_held3 (fun w' => New P w' ∧ (w'.cell? ⟨w.heap.size, 0, none⟩ = some (.slice A s.tracks.length c) ∧ w'.cell? ⟨w.heap.size, 1, none⟩ = some (.slice D s.ties.length d) ∧ w'.cell? ⟨w.heap.size, 2, none⟩ = some (.int .i64 s.window) ∧ w'.cell? ⟨w.heap.size + 1, 0, none⟩ = some (.int .i64 ri) ∧ w'.cell? ⟨w.heap.size + 1, 1, none⟩ = some (.int .i64 rj)))
              (first | exact HSD.out _ (New.refl _).drew | exact HSD.out _ (New.trans (by first | assumption | exact (by assumption : New _ _ ∧ _).1) (by assumption)))
              (first | (go_at_call 60; with_reducible (refine (HTV.out _ (by first | assumption | exact (New.refl _).drew | exact (by assumption : New _ _ ∧ _).1)).mono ?_); rintro e w' ⟨TA, ta, rfl, hb, hI⟩) | (go_at_call 48; with_reducible (refine (HKV.out _ _ _ (by first | assumption | exact (New.refl _).drew | exact (by assumption : New _ _ ∧ _).1) (by assumption)).mono ?_); rintro e w' ⟨rfl, hb⟩))
            all_goals
              have hn : New P w' := by first | assumption | exact (by assumption : New P w' ∧ _).1
              have d0 := (HYB.out.keep hn).cell (i := 0) rfl
              have d1 := (HYB.out.keep hn).cell (i := 1) rfl
              have b0 := (HSB.out.keep hn).cell (i := 0) rfl
              have b1 := (HSB.out.keep hn).cell (i := 1) rfl
              have t0 := hn.cellOf HTB.out.1
              have t1 := hn.cellOf HTB.out.2.1
              have t2 := hn.cellOf HTB.out.2.2
              have i1 : (ri : Int) < (s.tracks.length : Int) := by omega
              have i2 : (rj : Int) < ((tkAt s ri).times.length : Int) := by omega
              have HNZ := Lib.hid (HNB.out.trans hn)
              have hlc := (trackB_facts (HS.out.track hi)).2.2.2.2.2.1
              clear hI HSD HTV HKV HXB HYB HSB HTB HTW HTH
              generalize (tkAt s ri).times.length = tll at *
              go_wp2_with fail
              go_quiet (fail)
              dsimp only [Exit.then]
              have HNY := Lib.hid (HNZ.out.drewN nq)
              clear d0 d1 b0 b1 t0 t1 t2
              generalize w'.drewN nq = wz at *
              go_wp2_with fail
              go_ret
              exact ⟨rfl, HNY.out⟩
        · have HIE : Hid (linesE s [⟨rl, rn⟩] = 3) := Lib.hid (by unfold linesE; rw [if_neg (by simp [HCE.out]), if_neg (by simp [hr])])
          have HIG := Lib.hid (ck_IntervalG s A D c d wr (HM.out.keep HN9.out) (HB.out _ HN9.out) ⟨rl, rn⟩)
          go_wp2_with fail
          refine HIG.out.mono ?_
          rintro e wa ⟨x1, x2, er, rfl, ma, hE, -, -⟩
          have her : er = 3 := by
            rcases hE with ⟨-, h2, -⟩ | ⟨-, ⟨-, h3⟩ | ⟨h2, -, -⟩⟩
            · rw [HIE.out] at h2; cases h2
            · rw [h3, HIE.out]
            · rw [HIE.out] at h2; cases h2
          subst her
          have HNA := Lib.hid (HN9.out.trans ma)
          clear c0 c1 c2 d0 d1 q1 q2 hE ma
          go_wp2_with fail
          go_ret
          exact ⟨rfl, HNA.out.alloc _⟩
  · have HTE := Lib.hid (ck_TimesE s A D c d w2 (HM.out.keep HN2.out) (HB.out _ HN2.out) hcl)
    have HKN := Lib.hid (keeps_not (l := l) hcl)
    clear hcl
    go_wp2_with fail
    refine HTE.out.mono ?_
    rintro e w3 ⟨er, rfl, m3, -, h0⟩
    have h0' : (er != 0) = true := by simp [h0]
    have HN3 := Lib.hid (HN2.out.trans m3)
    have HC1 := Lib.hid (HB1.out.keep m3)
    clear c0 c1 c2 m3 HB1 HB2 HTE
    have c0 := HC1.out.cell (i := 0) rfl
    have c1 := HC1.out.cell (i := 1) rfl
    have c2 := HC1.out.cell (i := 2) rfl
    go_wp2_with fail
    refine (HKE.out l L lc _ HN3.out (HL.out.keep HN3.out)).mono ?_
    rintro e w4 ⟨rfl, m4⟩
    rw [HKN.out]
    go_wp2_with fail
    go_ret
    exact ⟨rfl, HN3.out.trans m4⟩
end Go.Proofs.YtcjekibebmenjaaDoor
