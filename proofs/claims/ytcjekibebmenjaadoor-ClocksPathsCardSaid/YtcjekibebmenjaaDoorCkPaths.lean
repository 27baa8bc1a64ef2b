/-
  ClocksPaths, its walk. Condition: the system, the bounds and the times lie in memory, the variable beginning holds what the program's text lays.
-/
import Derived.Test.YtcjekibebmenjaaDoorCkPathP
import Derived.Test.YtcjekibebmenjaaDoorCkLoops
import Derived.Test.YtcjekibebmenjaaDoorCkThrough
import Derived.Test.YtcjekibebmenjaaDoorCkSpans
import Derived.BigQuiet
namespace Go.Proofs.YtcjekibebmenjaaDoor
open Go Go.RowKit Go.Shelf
open Go.ChangeShapes Go.WideShapes Go.ChangeAt Go.Deep
attribute [local go_sem] Oper.semAt_some
theorem chain_wk {s : Sy} : ∀ (l : List Bd) (f t : Rf), ChainP f l t → (∀ b ∈ l, b ∈ bnds s) → Wk (egs s) (plc s f) (plc s t) (sumB l)
  | [], f, t, h, _ => by
    have e : f = t := h.2
    subst e
    exact .nil _
  | b :: l, f, t, h, hm => by
    obtain ⟨h1, h2⟩ := chain_uncons h
    have a := chain_wk l b.to t h2 (fun c hc => hm c (List.mem_cons_of_mem _ hc))
    have k : Wk (egs s) (plc s b.frm) (plc s b.to) b.most := Wk.one (List.mem_map.2 ⟨b, hm b (List.mem_cons_self ..), rfl⟩ : egOf s b ∈ egs s)
    rw [h1] at k
    have e : sumB (b :: l) = b.most + sumB l := by simp [sumB]
    rw [e]
    exact k.trans a
/-- Whatever a path proves is an end that the span does not go beyond. -/
theorem path_bound {s : Sy} (hc : Closes (egs s)) {r : Rf} (hr : lineB s r = true) {latest : Bool} {x : List Bd} {n : Int} (hle : linesE s [r] = 0) (h : PathE s r latest x n 0) : if latest = true then hiF s (plc s r) ≤ n else n ≤ -loF s (plc s r) := by
  have hv := plc_lt (.inr hr : RefOk s r)
  have e0 : plc s beg = 0 := plc_beg s
  rcases h with ⟨h, -⟩ | ⟨-, ⟨rfl, h, rfl, -⟩ | ⟨rfl, h, rfl, -⟩ | ⟨-, -, h⟩⟩
  · exact absurd hle h
  · rw [if_pos rfl]
    have := chain_wk x beg r h.2.1 h.2.2
    rw [e0] at this
    exact (mnW_is hc (nPl_pos s) hv).2 _ this
  · rw [if_neg (by decide)]
    have := chain_wk x r beg h.2.1 h.2.2
    rw [e0] at this
    have k : loF s (plc s r) ≤ sumB x := (mnW_is hc hv (nPl_pos s)).2 _ this
    omega
  · exact absurd h (by decide)
theorem path_own {s : Sy} {r : Rf} {latest : Bool} {l : List Bd} {n er : Int} (hle : linesE s [r] = 0) (h : PathE s r latest l n er) (k : PathOk s r latest l) : er = 0 ∧ n = if latest = true then hiF s (plc s r) else -loF s (plc s r) := by
  unfold PathOk at k
  rcases h with ⟨h, -⟩ | ⟨-, ⟨rfl, h, rfl, e⟩ | ⟨rfl, h, rfl, e⟩ | ⟨h, -, -⟩⟩
  · exact absurd hle h
  · rw [if_pos rfl] at k
    exact ⟨e, by rw [if_pos rfl]; exact k.2⟩
  · rw [if_neg (by decide)] at k
    exact ⟨e, by rw [if_neg (by decide), k.2]⟩
  · cases latest
    · rw [if_neg (by decide)] at k h
      exact absurd k.1 h
    · rw [if_pos rfl] at k h
      exact absurd k.1 h
theorem path_mem {s : Sy} {r : Rf} {latest : Bool} {l : List Bd} (k : PathOk s r latest l) : ∀ b ∈ l, b ∈ bnds s := by
  unfold PathOk at k
  cases latest
  · rw [if_neg (by decide)] at k
    exact k.1.2.2
  · rw [if_pos rfl] at k
    exact k.1.2.2
/-- Times that keep all bounds, at a line. -/
theorem keeps_at {s : Sy} (hc : Closes (egs s)) {r : Rf} (hr : lineB s r = true) {l : List (List Int)} (h : keepsB s l = true) : (0 ≤ r.log ∧ r.log.toNat < l.length ∧ 0 ≤ r.line ∧ r.line.toNat < (l[r.log.toNat]?.getD []).length) ∧ -loF s (plc s r) ≤ (l[r.log.toNat]?.getD [])[r.line.toNat]?.getD 0 ∧ (l[r.log.toNat]?.getD [])[r.line.toNat]?.getD 0 ≤ hiF s (plc s r) := by
  obtain ⟨-, -, -, hi, hj, p1, p2⟩ := plc_line hr
  obtain ⟨k1, k2⟩ := keeps_len h
  have k3 := k2 _ hi
  refine ⟨⟨p1, by omega, p2, by omega⟩, ?_⟩
  have := keeps_inside hc h hi hj
  have e : (⟨(r.log.toNat : Nat), (r.line.toNat : Nat)⟩ : Rf) = r := by
    cases r
    simp at p1 p2 ⊢
    omega
  rw [e] at this
  exact this
set_option maxRecDepth 100000 in
set_option maxHeartbeats 8000000 in
theorem law_paths (s : Sy) (r : Rf) (latest : Bool) (x : List Bd) (l : List (List Int)) (A D X L : Option Addr) (c d xc lc : Nat) (w : World) (hM : SysM w A D s) (hbeg : BegA w) (hX : BnsA w X x) (hxw : ∀ b ∈ x, BdW b) (hL : IssA w L l) :
    Calls Tryd.prog 13 #[.agg #[.slice A s.tracks.length c, .slice D s.ties.length d, .int .i64 s.window], .agg #[.int .i64 r.log, .int .i64 r.line], .bool latest, .slice X x.length xc, .slice L l.length lc] w fun e w' => e = .returned (.bool true) ∧ New w w' := by
  obtain ⟨rl, rn⟩ := r
  dsimp only
  have n2 := ((New.refl w).alloc (.cells #[.slice A s.tracks.length c, .slice D s.ties.length d, .int .i64 s.window] 25)).alloc (.cells #[.int .i64 rl, .int .i64 rn] 53)
  have r1 := (RowIs.new w 25 [.slice A s.tracks.length c, .slice D s.ties.length d, .int .i64 s.window]).keep ((New.refl _).alloc (.cells #[.int .i64 rl, .int .i64 rn] 53))
  have r2 := RowIs.new (w.alloc (.cells #[.slice A s.tracks.length c, .slice D s.ties.length d, .int .i64 s.window] 25)) 53 [.int .i64 rl, .int .i64 rn]
  simp only [World.size_alloc] at r2
  have HR1 := Lib.hid r1
  have HR2 := Lib.hid r2
  have HN := Lib.hid n2
  have HAW := Lib.hid (law_awake _ ⟨n2.cellOf hbeg.1, n2.cellOf hbeg.2⟩)
  have HFW : Hid (∀ w', New w w' → _) := Lib.hid fun w' h => law_few s A D c d w' (hM.keep h)
  have HM := Lib.hid hM
  have HB : Hid (∀ w', New w w' → BegA w') := Lib.hid fun w' h => ⟨h.cellOf hbeg.1, h.cellOf hbeg.2⟩
  have HL := Lib.hid hL
  have HXX := Lib.hid hX
  have HXW := Lib.hid hxw
  have hll := hL.1
  have hxl := hX.1
  clear hM hbeg hL hX hxw n2 r1 r2
  have c0 := HR1.out.cell (i := 0) rfl
  have c1 := HR1.out.cell (i := 1) rfl
  have c2 := HR1.out.cell (i := 2) rfl
  go_enter Tryd.func13, Tryd.ntmps13
  go_wp2_with fail
  refine HAW.out.mono ?_
  rintro e w1 ⟨rfl, m1⟩
  have HN1 := Lib.hid (HN.out.trans m1)
  have HA1 := Lib.hid (HR1.out.keep m1)
  have HA2 := Lib.hid (HR2.out.keep m1)
  clear c0 c1 c2 m1 HR1 HR2 HAW
  have c0 := HA1.out.cell (i := 0) rfl
  have c1 := HA1.out.cell (i := 1) rfl
  have c2 := HA1.out.cell (i := 2) rfl
  go_wp2_with fail
  refine (HFW.out _ HN1.out).mono ?_
  rintro e w2 ⟨⟨fb, rfl⟩, m2⟩
  have HN2 := Lib.hid (HN1.out.trans m2)
  have HX2 := Lib.hid (HA1.out.keep m2)
  have HY2 := Lib.hid (HA2.out.keep m2)
  clear c0 c1 c2 m2 HA1 HA2 HFW
  have c0 := HX2.out.cell (i := 0) rfl
  have c1 := HX2.out.cell (i := 1) rfl
  have c2 := HX2.out.cell (i := 2) rfl
  have d0 := HY2.out.cell (i := 0) rfl
  have d1 := HY2.out.cell (i := 1) rfl
  cases fb with
  | false =>
    go_wp2_with fail
    go_ret
    exact ⟨rfl, HN2.out⟩
  | true =>
  by_cases h100 : 100 < l.length
  · have h100' : decide (100 < (l.length : Int)) = true := by simp; omega
    go_wp2_with fail
    go_ret
    exact ⟨rfl, HN2.out⟩
  have h100' : decide (100 < (l.length : Int)) = false := by simp; omega
  by_cases h200 : 200 < x.length
  · have h200' : decide (200 < (x.length : Int)) = true := by simp; omega
    go_wp2_with fail
    go_ret
    exact ⟨rfl, HN2.out⟩
  have h200' : decide (200 < (x.length : Int)) = false := by simp; omega
  have HP := Lib.hid (ck_Path s ⟨rl, rn⟩ latest A D c d w2 (HM.out.keep HN2.out) (HB.out _ HN2.out))
  dsimp only at HP
  by_cases hg : linesE s [⟨rl, rn⟩] = 0 ∧ Closes (egs s)
  · obtain ⟨hle, hc⟩ := hg
    obtain ⟨hs, hal⟩ := linesE_ok.1 hle
    have hr := hal ⟨rl, rn⟩ (by simp)
    have HLE := Lib.hid hle
    have HC := Lib.hid hc
    have HS := Lib.hid hs
    have HR := Lib.hid hr
    have HCE : Hid (checkE s = 0) := Lib.hid hs
    have HIC : Hid (∀ w', New w w' → _) := Lib.hid fun w' h => ck_IntervalC s hs hc A D c d w' (HM.out.keep h) (HB.out _ h) ⟨rl, rn⟩ hr
    have HKK : Hid (keepsB s l = true → _) := Lib.hid fun h => keeps_at hc hr h
    have HPBD : Hid (∀ n, PathE s ⟨rl, rn⟩ latest x n 0 → _) := Lib.hid fun n h => path_bound hc hr hle h
    have HPON : Hid (∀ l n er, PathE s ⟨rl, rn⟩ latest l n er → PathOk s ⟨rl, rn⟩ latest l → _) := Lib.hid fun l n er h k => path_own hle h k
    dsimp only at HIC HKK
    clear hle hc hs hal hr
    generalize -loF s (plc s ⟨rl, rn⟩) = lo at HIC HKK HPBD HPON
    generalize hiF s (plc s ⟨rl, rn⟩) = hi at HIC HKK HPBD HPON
    have HKP := Lib.hid (fun w' h => ck_Keeps s l A D L c d lc w' (HM.out.keep h) (HB.out w' h) (HL.out.keep h))
    rw [HCE.out] at HKP
    generalize keepsB s l = kp at HKK HKP
    go_wp2_with fail
    refine HP.out.mono ?_
    rintro e w3 (⟨er, he, hE, rfl, m3⟩ | ⟨-, PA, pl, pc, rfl, m3, hPB, hPO⟩)
    · exact absurd (hE.of_zero HLE.out HC.out) he
    have HPB3 := Lib.hid hPB
    have HPO := Lib.hid hPO
    have hpl := hPB.1
    clear hPB hPO HP
    have HM23 := Lib.hid m3
    have HN3 := Lib.hid (HN2.out.trans m3)
    have HX3 := Lib.hid (HX2.out.keep m3)
    have HY3 := Lib.hid (HY2.out.keep m3)
    clear c0 c1 c2 d0 d1 m3 HX2 HY2
    have c0 := HX3.out.cell (i := 0) rfl
    have c1 := HX3.out.cell (i := 1) rfl
    have c2 := HX3.out.cell (i := 2) rfl
    have d0 := HY3.out.cell (i := 0) rfl
    have d1 := HY3.out.cell (i := 1) rfl
    go_wp2_with fail
    refine (HIC.out _ HN3.out).mono ?_
    rintro e w4 ⟨rfl, m4⟩
    clear HIC
    have HM34 := Lib.hid m4
    have HN4 := Lib.hid (HN3.out.trans m4)
    have HX4 := Lib.hid (HX3.out.keep m4)
    have HY4 := Lib.hid (HY3.out.keep m4)
    clear c0 c1 c2 d0 d1 m4 HX3 HY3
    have c0 := HX4.out.cell (i := 0) rfl
    have c1 := HX4.out.cell (i := 1) rfl
    have c2 := HX4.out.cell (i := 2) rfl
    have d0 := HY4.out.cell (i := 0) rfl
    have d1 := HY4.out.cell (i := 1) rfl
    have HPB4 := Lib.hid (HPB3.out.keep HM34.out)
    have q1 := HX4.out.lt
    have q2 := HY4.out.lt
    go_wp2_with fail
    clear q1 q2
    have nA := (New.refl w4).alloc (.cells #[.int .i64 lo, .int .i64 hi] 55)
    have HSB := Lib.hid (RowIs.new w4 55 [.int .i64 lo, .int .i64 hi])
    refine (HKP.out _ (HN4.out.trans nA)).mono ?_
    rintro e w5 ⟨rfl, m5'⟩
    have m5 := nA.trans m5'
    have HS5 := Lib.hid (HSB.out.keep m5')
    clear nA m5' HSB HKP
    have HM45 := Lib.hid m5
    have HN5 := Lib.hid (HN4.out.trans m5)
    have HX5 := Lib.hid (HX4.out.keep m5)
    have HY5 := Lib.hid (HY4.out.keep m5)
    clear c0 c1 c2 d0 d1 m5 HX4 HY4
    have c0 := HX5.out.cell (i := 0) rfl
    have c1 := HX5.out.cell (i := 1) rfl
    have c2 := HX5.out.cell (i := 2) rfl
    have d0 := HY5.out.cell (i := 0) rfl
    have d1 := HY5.out.cell (i := 1) rfl
    have HPB5 := Lib.hid (HPB4.out.keep HM45.out)
    have HVX := Lib.hid (ck_ValidPath s ⟨rl, rn⟩ latest x A D X c d xc w5 (HM.out.keep HN5.out) (HB.out _ HN5.out) (HXX.out.keep HN5.out) HXW.out)
    dsimp only at HVX
    go_wp2_with fail
    refine HVX.out.mono ?_
    rintro e w6 ⟨n, h, rfl, m6, hPE⟩
    have HPE := Lib.hid hPE
    have HS6 := Lib.hid (HS5.out.keep m6)
    clear hPE HVX
    have HM56 := Lib.hid m6
    have HN6 := Lib.hid (HN5.out.trans m6)
    have HX6 := Lib.hid (HX5.out.keep m6)
    have HY6 := Lib.hid (HY5.out.keep m6)
    clear c0 c1 c2 d0 d1 m6 HX5 HY5
    have c0 := HX6.out.cell (i := 0) rfl
    have c1 := HX6.out.cell (i := 1) rfl
    have c2 := HX6.out.cell (i := 2) rfl
    have d0 := HY6.out.cell (i := 0) rfl
    have d1 := HY6.out.cell (i := 1) rfl
    have HPB6 := Lib.hid (HPB5.out.keep HM56.out)
    have HVP : Hid (∀ w', New w6 w' → _) := Lib.hid fun w' h => ck_ValidPath s ⟨rl, rn⟩ latest pl A D PA c d pc w' (HM.out.keep (HN6.out.trans h)) (HB.out _ (HN6.out.trans h)) (HPB6.out.keep h) (fun b hb => bnds_wf HS.out (path_mem HPO.out b hb))
    dsimp only at HVP
    have HQ6 : Hid (New w6 w6) := Lib.hid (New.refl w6)
    clear HXX HXW HPB3 HPB4 HPB5
    by_cases hh : h = 0
    · subst hh
      have hbd := HPBD.out n HPE.out
      cases kp with
      | true =>
        obtain ⟨⟨q1, q2, q3, q4⟩, q5, q6⟩ := HKK.out rfl
        obtain ⟨ri, rfl⟩ : ∃ i : Nat, rl = i := ⟨rl.toNat, by omega⟩
        obtain ⟨rj, rfl⟩ : ∃ i : Nat, rn = i := ⟨rn.toNat, by omega⟩
        simp only [Int.toNat_natCast] at q2 q4 q5 q6
        obtain ⟨lb, lo2, LB, lbc, rfl, -, l0, hLr⟩ := (HL.out.keep HN6.out).row (i := ri) (by omega)
        obtain ⟨mb, mo, rfl, -, l1⟩ := ints_at hLr (j := rj) (by omega)
        have ikl : (ri : Int) < (l.length : Int) := by omega
        have ijl : (rj : Int) < ((l[ri]?.getD []).length : Int) := by omega
        generalize (l[ri]?.getD [])[rj]?.getD 0 = m at *
        generalize hlk : (l[ri]?.getD []).length = lk at *
        have g1 : decide ((ri : Int) < 0) = false := by simp
        have g2 : decide ((rj : Int) < 0) = false := by simp
        have g3 : decide ((l.length : Int) ≤ ri) = false := by simp; omega
        have g4 : decide ((lk : Int) ≤ rj) = false := by simp; omega
        have y1 := HX6.out.lt
        have y2 := HY6.out.lt
        have y3 := HS6.out.lt
        clear hLr hlk q1 q3 HKK HPBD
        cases latest with
        | true =>
          have hbd : hi ≤ n := hbd
          have u1 : decide (n < m) = false := by simp; omega
          have u2 : decide (hi ≤ n) = true := by simp; omega
          have u3 : decide (m ≤ n) = true := by simp; omega
          clear hbd q5 q6
          go_wp2_with fail
          go_quiet (fail)
          dsimp only [Exit.then]
          have m7 := (New.refl w6).drewN nq
          have l0 := m7.cellOf l0
          have l1 := m7.cellOf l1
          have HS7 := Lib.hid (HS6.out.keep m7)
          have HQ7 := Lib.hid (HQ6.out.trans m7)
          generalize w6.drewN nq = w7 at *
          have HM67 := Lib.hid m7
          have HN7 := Lib.hid (HN6.out.trans m7)
          have HX7 := Lib.hid (HX6.out.keep m7)
          have HY7 := Lib.hid (HY6.out.keep m7)
          clear c0 c1 c2 d0 d1 m7 HX6 HY6
          have c0 := HX7.out.cell (i := 0) rfl
          have c1 := HX7.out.cell (i := 1) rfl
          have c2 := HX7.out.cell (i := 2) rfl
          have d0 := HY7.out.cell (i := 0) rfl
          have d1 := HY7.out.cell (i := 1) rfl
          go_wp2_with fail
          go_quiet (fail)
          dsimp only [Exit.then]
          have m8 := (New.refl w7).drewN nq
          have l0 := m8.cellOf l0
          have l1 := m8.cellOf l1
          have HS8 := Lib.hid (HS7.out.keep m8)
          have HQ8 := Lib.hid (HQ7.out.trans m8)
          generalize w7.drewN nq = w8 at *
          have HM78 := Lib.hid m8
          have HN8 := Lib.hid (HN7.out.trans m8)
          have HX8 := Lib.hid (HX7.out.keep m8)
          have HY8 := Lib.hid (HY7.out.keep m8)
          clear c0 c1 c2 d0 d1 m8 HX7 HY7
          have c0 := HX8.out.cell (i := 0) rfl
          have c1 := HX8.out.cell (i := 1) rfl
          have c2 := HX8.out.cell (i := 2) rfl
          have d0 := HY8.out.cell (i := 0) rfl
          have d1 := HY8.out.cell (i := 1) rfl
          clear l0 l1
          go_wp2_with fail
          refine (HVP.out _ HQ8.out).mono ?_
          rintro e w9 ⟨n9, h9, rfl, m9, hp9⟩
          obtain ⟨h91, h92⟩ := HPON.out _ _ _ hp9 HPO.out
          have h92 : n9 = hi := h92
          have g91 : (h9 == 0) = true := by simp [h91]
          have g92 : (n9 == hi) = true := by simp [h92]
          clear h91 h92
          have HN9 := Lib.hid (HN8.out.trans m9)
          have s0 := (HS8.out.keep m9).cell (i := 0) rfl
          have s1 := (HS8.out.keep m9).cell (i := 1) rfl
          clear c0 c1 c2 d0 d1 m9 hp9
          go_wp2_with fail
          go_ret
          exact ⟨rfl, HN9.out⟩
        | false =>
          have hbd : n ≤ lo := hbd
          have u1 : decide (m < n) = false := by simp; omega
          have u2 : decide (n ≤ lo) = true := by simp; omega
          have u3 : decide (n ≤ m) = true := by simp; omega
          clear hbd q5 q6
          go_wp2_with fail
          go_quiet (fail)
          dsimp only [Exit.then]
          have m7 := (New.refl w6).drewN nq
          have l0 := m7.cellOf l0
          have l1 := m7.cellOf l1
          have HS7 := Lib.hid (HS6.out.keep m7)
          have HQ7 := Lib.hid (HQ6.out.trans m7)
          generalize w6.drewN nq = w7 at *
          have HM67 := Lib.hid m7
          have HN7 := Lib.hid (HN6.out.trans m7)
          have HX7 := Lib.hid (HX6.out.keep m7)
          have HY7 := Lib.hid (HY6.out.keep m7)
          clear c0 c1 c2 d0 d1 m7 HX6 HY6
          have c0 := HX7.out.cell (i := 0) rfl
          have c1 := HX7.out.cell (i := 1) rfl
          have c2 := HX7.out.cell (i := 2) rfl
          have d0 := HY7.out.cell (i := 0) rfl
          have d1 := HY7.out.cell (i := 1) rfl
          go_wp2_with fail
          go_quiet (fail)
          dsimp only [Exit.then]
          have m8 := (New.refl w7).drewN nq
          have l0 := m8.cellOf l0
          have l1 := m8.cellOf l1
          have HS8 := Lib.hid (HS7.out.keep m8)
          have HQ8 := Lib.hid (HQ7.out.trans m8)
          generalize w7.drewN nq = w8 at *
          have HM78 := Lib.hid m8
          have HN8 := Lib.hid (HN7.out.trans m8)
          have HX8 := Lib.hid (HX7.out.keep m8)
          have HY8 := Lib.hid (HY7.out.keep m8)
          clear c0 c1 c2 d0 d1 m8 HX7 HY7
          have c0 := HX8.out.cell (i := 0) rfl
          have c1 := HX8.out.cell (i := 1) rfl
          have c2 := HX8.out.cell (i := 2) rfl
          have d0 := HY8.out.cell (i := 0) rfl
          have d1 := HY8.out.cell (i := 1) rfl
          clear l0 l1
          go_wp2_with fail
          refine (HVP.out _ HQ8.out).mono ?_
          rintro e w9 ⟨n9, h9, rfl, m9, hp9⟩
          obtain ⟨h91, h92⟩ := HPON.out _ _ _ hp9 HPO.out
          have h92 : n9 = lo := h92
          have g91 : (h9 == 0) = true := by simp [h91]
          have g92 : (n9 == lo) = true := by simp [h92]
          clear h91 h92
          have HN9 := Lib.hid (HN8.out.trans m9)
          have s0 := (HS8.out.keep m9).cell (i := 0) rfl
          have s1 := (HS8.out.keep m9).cell (i := 1) rfl
          clear c0 c1 c2 d0 d1 m9 hp9
          go_wp2_with fail
          go_ret
          exact ⟨rfl, HN9.out⟩
      | false =>
        cases latest with
        | true =>
          have hbd : hi ≤ n := hbd
          have u2 : decide (hi ≤ n) = true := by simp; omega
          clear hbd HKK HPBD
          go_wp2_with fail
          refine (HVP.out _ HQ6.out).mono ?_
          rintro e w9 ⟨n9, h9, rfl, m9, hp9⟩
          obtain ⟨h91, h92⟩ := HPON.out _ _ _ hp9 HPO.out
          have h92 : n9 = hi := h92
          have g91 : (h9 == 0) = true := by simp [h91]
          have g92 : (n9 == hi) = true := by simp [h92]
          clear h91 h92
          have HN9 := Lib.hid (HN6.out.trans m9)
          have s0 := (HS6.out.keep m9).cell (i := 0) rfl
          have s1 := (HS6.out.keep m9).cell (i := 1) rfl
          clear c0 c1 c2 d0 d1 m9 hp9
          go_wp2_with fail
          go_ret
          exact ⟨rfl, HN9.out⟩
        | false =>
          have hbd : n ≤ lo := hbd
          have u2 : decide (n ≤ lo) = true := by simp; omega
          clear hbd HKK HPBD
          go_wp2_with fail
          refine (HVP.out _ HQ6.out).mono ?_
          rintro e w9 ⟨n9, h9, rfl, m9, hp9⟩
          obtain ⟨h91, h92⟩ := HPON.out _ _ _ hp9 HPO.out
          have h92 : n9 = lo := h92
          have g91 : (h9 == 0) = true := by simp [h91]
          have g92 : (n9 == lo) = true := by simp [h92]
          clear h91 h92
          have HN9 := Lib.hid (HN6.out.trans m9)
          have s0 := (HS6.out.keep m9).cell (i := 0) rfl
          have s1 := (HS6.out.keep m9).cell (i := 1) rfl
          clear c0 c1 c2 d0 d1 m9 hp9
          go_wp2_with fail
          go_ret
          exact ⟨rfl, HN9.out⟩
    · have hne : (h == 0) = false := by simp [hh]
      have hne2 : (h != 0) = true := by simp [hh]
      clear HKK HPBD
      cases latest with
      | true =>
        go_wp2_with fail
        refine (HVP.out _ HQ6.out).mono ?_
        rintro e w9 ⟨n9, h9, rfl, m9, hp9⟩
        obtain ⟨h91, h92⟩ := HPON.out _ _ _ hp9 HPO.out
        have h92 : n9 = hi := h92
        have g91 : (h9 == 0) = true := by simp [h91]
        have g92 : (n9 == hi) = true := by simp [h92]
        clear h91 h92
        have HN9 := Lib.hid (HN6.out.trans m9)
        have s0 := (HS6.out.keep m9).cell (i := 0) rfl
        have s1 := (HS6.out.keep m9).cell (i := 1) rfl
        clear c0 c1 c2 d0 d1 m9 hp9
        go_wp2_with fail
        go_ret
        exact ⟨rfl, HN9.out⟩
      | false =>
        go_wp2_with fail
        refine (HVP.out _ HQ6.out).mono ?_
        rintro e w9 ⟨n9, h9, rfl, m9, hp9⟩
        obtain ⟨h91, h92⟩ := HPON.out _ _ _ hp9 HPO.out
        have h92 : n9 = lo := h92
        have g91 : (h9 == 0) = true := by simp [h91]
        have g92 : (n9 == lo) = true := by simp [h92]
        clear h91 h92
        have HN9 := Lib.hid (HN6.out.trans m9)
        have s0 := (HS6.out.keep m9).cell (i := 0) rfl
        have s1 := (HS6.out.keep m9).cell (i := 1) rfl
        clear c0 c1 c2 d0 d1 m9 hp9
        go_wp2_with fail
        go_ret
        exact ⟨rfl, HN9.out⟩
  · have HNE : Hid (¬ErrP s [⟨rl, rn⟩] 0) := Lib.hid fun h => hg h.zero
    have HK0 : Hid (∀ n, PathE s ⟨rl, rn⟩ latest x n 0 → keepsB s l = false ∧ checkE s = 0) := Lib.hid fun n h => by
      have hle : linesE s [⟨rl, rn⟩] = 0 := by
        rcases h with ⟨h1, -, h2⟩ | ⟨h1, -⟩
        · exact h2.symm
        · exact h1
      exact ⟨keeps_not fun k => hg ⟨hle, k.2⟩, (linesE_ok.1 hle).1⟩
    clear hg
    have HKP := Lib.hid (fun w' h => ck_Keeps s l A D L c d lc w' (HM.out.keep h) (HB.out w' h) (HL.out.keep h))
    generalize keepsB s l = kp at HK0 HKP
    generalize checkE s = ce at HK0 HKP
    go_wp2_with fail
    refine HP.out.mono ?_
    rintro e w3 (⟨er, he, hE, rfl, m3⟩ | ⟨hE, -⟩)
    case inr => exact absurd hE HNE.out
    have HE := Lib.hid hE
    have e1 : (er != 0) = true := by simp [he]
    clear HP he hE
    have HM23 := Lib.hid m3
    have HN3 := Lib.hid (HN2.out.trans m3)
    have HX3 := Lib.hid (HX2.out.keep m3)
    have HY3 := Lib.hid (HY2.out.keep m3)
    clear c0 c1 c2 d0 d1 m3 HX2 HY2
    have c0 := HX3.out.cell (i := 0) rfl
    have c1 := HX3.out.cell (i := 1) rfl
    have c2 := HX3.out.cell (i := 2) rfl
    have d0 := HY3.out.cell (i := 0) rfl
    have d1 := HY3.out.cell (i := 1) rfl
    have HIG := Lib.hid (ck_IntervalG s A D c d w3 (HM.out.keep HN3.out) (HB.out _ HN3.out) ⟨rl, rn⟩)
    dsimp only at HIG
    go_wp2_with fail
    refine HIG.out.mono ?_
    rintro e w4 ⟨lo, hi, er2, rfl, m4, hA⟩
    obtain rfl := HE.out.unique hA.1
    clear HIG hA
    have HM34 := Lib.hid m4
    have HN4 := Lib.hid (HN3.out.trans m4)
    have HX4 := Lib.hid (HX3.out.keep m4)
    have HY4 := Lib.hid (HY3.out.keep m4)
    clear c0 c1 c2 d0 d1 m4 HX3 HY3
    have c0 := HX4.out.cell (i := 0) rfl
    have c1 := HX4.out.cell (i := 1) rfl
    have c2 := HX4.out.cell (i := 2) rfl
    have d0 := HY4.out.cell (i := 0) rfl
    have d1 := HY4.out.cell (i := 1) rfl
    have q1 := HX4.out.lt
    have q2 := HY4.out.lt
    go_wp2_with fail
    clear q1 q2
    have nA := (New.refl w4).alloc (.cells #[.int .i64 lo, .int .i64 hi] 55)
    refine (HKP.out _ (HN4.out.trans nA)).mono ?_
    rintro e w5 ⟨rfl, m5'⟩
    have m5 := nA.trans m5'
    clear nA m5' HKP
    have HM45 := Lib.hid m5
    have HN5 := Lib.hid (HN4.out.trans m5)
    have HX5 := Lib.hid (HX4.out.keep m5)
    have HY5 := Lib.hid (HY4.out.keep m5)
    clear c0 c1 c2 d0 d1 m5 HX4 HY4
    have c0 := HX5.out.cell (i := 0) rfl
    have c1 := HX5.out.cell (i := 1) rfl
    have c2 := HX5.out.cell (i := 2) rfl
    have d0 := HY5.out.cell (i := 0) rfl
    have d1 := HY5.out.cell (i := 1) rfl
    have HVX := Lib.hid (ck_ValidPath s ⟨rl, rn⟩ latest x A D X c d xc w5 (HM.out.keep HN5.out) (HB.out _ HN5.out) (HXX.out.keep HN5.out) HXW.out)
    dsimp only at HVX
    go_wp2_with fail
    refine HVX.out.mono ?_
    rintro e w6 ⟨n, h, rfl, m6, hPE⟩
    have HPE := Lib.hid hPE
    clear hPE HVX
    have HM56 := Lib.hid m6
    have HN6 := Lib.hid (HN5.out.trans m6)
    have HX6 := Lib.hid (HX5.out.keep m6)
    have HY6 := Lib.hid (HY5.out.keep m6)
    clear c0 c1 c2 d0 d1 m6 HX5 HY5
    have c0 := HX6.out.cell (i := 0) rfl
    have c1 := HX6.out.cell (i := 1) rfl
    have c2 := HX6.out.cell (i := 2) rfl
    have d0 := HY6.out.cell (i := 0) rfl
    have d1 := HY6.out.cell (i := 1) rfl
    by_cases hh : h = 0
    · subst hh
      obtain ⟨rfl, rfl⟩ := HK0.out n HPE.out
      go_wp2_with fail
      go_ret
      exact ⟨rfl, HN6.out⟩
    · have hne : (h == 0) = false := by simp [hh]
      clear hh
      go_wp2_with fail
      go_ret
      exact ⟨rfl, HN6.out⟩
end Go.Proofs.YtcjekibebmenjaaDoor
