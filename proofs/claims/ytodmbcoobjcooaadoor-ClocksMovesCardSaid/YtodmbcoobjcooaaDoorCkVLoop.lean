/-
  ValidLoop and ValidPath of the program. Condition: the system and the bounds lie in memory, the bounds' numbers are 64 bit ones.
-/
import Derived.Test.YtodmbcoobjcooaaDoorCkLeads
namespace Go.Proofs.YtodmbcoobjcooaaDoor
open Go Go.RowKit Go.Shelf
attribute [local go_sem] Oper.semAt_some
/-- Sums of bounds of a system are no great numbers. -/
theorem sum_small {s : Sy} (hs : Ok s) : ∀ l : List Bd, (∀ b ∈ l, b ∈ bnds s) → -(22001 * (l.length : Int)) ≤ sumB l ∧ sumB l ≤ 22001 * (l.length : Int)
  | [], _ => by simp [sumB]
  | b :: l, h => by
    have h1 := sum_small hs l (fun c hc => h c (List.mem_cons_of_mem _ hc))
    obtain ⟨-, -, -, h2, h3⟩ := bnds_ok hs (h b (List.mem_cons_self ..))
    have e : sumB (b :: l) = b.most + sumB l := by simp [sumB]
    rw [e, List.length_cons]
    constructor <;> (push_cast; omega)
theorem sums_small {s : Sy} (hs : Ok s) {l : List Bd} {f t : Rf} (h : LeadsP s l f t) : ∀ k, k ≤ l.length → -1000000000000 ≤ sumB (l.take k) ∧ sumB (l.take k) ≤ 1000000000000 := fun k hk => by
  have h1 := sum_small hs (l.take k) (fun b hb => h.2.2 b (List.mem_of_mem_take hb))
  have h2 : (l.take k).length ≤ 30000 := by rw [List.length_take]; have := h.1.2; omega
  omega
/-- A loop of a system. -/
def LoopP (s : Sy) (l : List Bd) : Prop := checkE s = 0 ∧ LeadsP s l (l[0]?.getD default).frm (l[0]?.getD default).frm ∧ sumB l < 0
/-- What ValidLoop answers. -/
def VlA (s : Sy) (l : List Bd) (w : World) (e : Ending) (w' : World) : Prop := ∃ r : Bool, e = .returned (.tuple #[.bool r, .int .i64 (checkE s)]) ∧ New w w' ∧ (r = true ↔ LoopP s l)
set_option maxRecDepth 100000 in
set_option maxHeartbeats 8000000 in
theorem ck_ValidLoop (s : Sy) (l : List Bd) (A D L : Option Addr) (c d lc : Nat) (w : World) (hM : SysM w A D s) (hbeg : BegA w) (hL : BnsA w L l) (hw : ∀ b ∈ l, BdW b) :
    Calls Tryd.prog 50 #[.agg #[.slice A s.tracks.length c, .slice D s.ties.length d, .int .i64 s.window], .slice L l.length lc] w fun e w' => VlA s l w e w' := by
  have n1 := (New.refl w).alloc (.cells #[.slice A s.tracks.length c, .slice D s.ties.length d, .int .i64 s.window] 25)
  have HR := Lib.hid (RowIs.new w 25 [.slice A s.tracks.length c, .slice D s.ties.length d, .int .i64 s.window])
  have HN := Lib.hid n1
  have HC := Lib.hid (ck_Check s A D c d _ (hM.keep n1))
  have HLD : Hid (∀ w', checkE s = 0 → New w w' → ∀ f t, _) := Lib.hid fun w' hs h f t => ck_leads s hs l A D L c d lc f t w' (hM.keep h) ⟨h.cellOf hbeg.1, h.cellOf hbeg.2⟩ (hL.keep h) hw
  have HTO : Hid (∀ w', checkE s = 0 → New w w' → ∀ f t, LeadsP s l f t → _) := Lib.hid fun w' hs h f t hl => ck_total l L lc w' (hL.keep h) (sums_small hs hl)
  have HL := Lib.hid hL
  have hll := hL.1
  clear n1 hM hbeg hL hw
  have c0 := HR.out.cell (i := 0) rfl
  have c1 := HR.out.cell (i := 1) rfl
  have c2 := HR.out.cell (i := 2) rfl
  by_cases he : checkE s = 0
  · have HE := Lib.hid he
    by_cases hz : l.length = 0
    · have hno : ¬LoopP s l := fun h => by have := h.2.1.1.1; omega
      rw [he] at HC
      have hz' : ((l.length : Int) == 0) = true := by simp [hz]
      go_enter Tryd.func50, Tryd.ntmps50
      go_wp2_with fail
      refine HC.out.mono ?_
      rintro e w1 ⟨rfl, m1⟩
      go_wp2_with fail
      go_ret2
      exact ⟨false, by rw [HE.out]; rfl, HN.out.trans m1, ⟨(fun h => by cases h), fun h => absurd h hno⟩⟩
    · have hz' : ((l.length : Int) == 0) = false := by simp [hz]
      rw [he] at HC
      have HLZ : Hid (0 < l.length) := Lib.hid (by omega)
      obtain ⟨lb, lo, rfl, hlb, hlc⟩ := HL.out.2 (by omega)
      obtain ⟨z0, z1, z2, z3, z4, z5, z6⟩ := hlc 0 HLZ.out
      rw [Nat.zero_mul, Nat.add_zero] at z0 z1
      have HZ := Lib.hid (And.intro z0 z1)
      have HSF : Hid (LoopP s l ↔ LeadsP s l (l[0]?.getD default).frm (l[0]?.getD default).frm ∧ sumB l < 0) := Lib.hid ⟨fun h => h.2, fun h => ⟨he, h⟩⟩
      have i0 : (0 : Int) < (l.length : Int) := by omega
      clear hlc z0 z1 z2 z3 z4 z5 z6
      generalize (l[0]?.getD default).frm = st at *
      obtain ⟨sl, sn⟩ := st
      go_enter Tryd.func50, Tryd.ntmps50
      go_wp2_with fail
      refine HC.out.mono ?_
      rintro e w1 ⟨rfl, m1⟩
      have HN1 := Lib.hid (HN.out.trans m1)
      have HR1 := Lib.hid (HR.out.keep m1)
      have z0 := HN1.out.cellOf HZ.out.1
      have z1 := HN1.out.cellOf HZ.out.2
      clear c0 c1 c2 m1
      try dsimp only at z0 z1
      have c0 := HR1.out.cell (i := 0) rfl
      have c1 := HR1.out.cell (i := 1) rfl
      have c2 := HR1.out.cell (i := 2) rfl
      have q0 := HR1.out.lt
      go_wp2_with fail
      have HN2 := Lib.hid (HN1.out.alloc (.cells #[.int .i64 sl, .int .i64 sn] 53))
      refine (HLD.out _ HE.out HN2.out ⟨sl, sn⟩ ⟨sl, sn⟩).mono ?_
      rintro e w3 ⟨r, rfl, m3, hr⟩
      cases r with
      | false =>
        have hno : ¬LoopP s l := fun h => by have := hr.2 (HSF.out.1 h).1; cases this
        have HNO := Lib.hid hno
        have HN3 := Lib.hid (HN2.out.trans m3)
        clear hno hr m3 c0 c1 c2 z0 z1 q0
        go_wp2_with fail
        go_ret2
        exact ⟨false, by rw [HE.out]; rfl, HN3.out, ⟨(fun h => by cases h), fun h => absurd h HNO.out⟩⟩
      | true =>
        have hld := hr.1 rfl
        have HT := Lib.hid (HTO.out _ HE.out (HN2.out.trans m3) _ _ hld)
        have HN3 := Lib.hid (HN2.out.trans m3)
        have HIF : Hid (LoopP s l ↔ sumB l < 0) := Lib.hid (HSF.out.trans ⟨fun h => h.2, fun h => ⟨hld, h⟩⟩)
        clear hr hld m3 c0 c1 c2 z0 z1 q0
        go_wp2_with fail
        refine HT.out.mono ?_
        rintro e w4 ⟨rfl, m4⟩
        have HN4 := Lib.hid (HN3.out.trans m4)
        clear m4 HT HTO HLD HSF
        cases hd : decide (sumB l < 0) with
        | true =>
          have HY := Lib.hid (HIF.out.2 (of_decide_eq_true hd))
          go_wp2_with fail
          go_ret2
          exact ⟨true, by rw [HE.out]; rfl, HN4.out, ⟨fun _ => HY.out, fun _ => rfl⟩⟩
        | false =>
          have HY : Hid (¬LoopP s l) := Lib.hid fun h => (of_decide_eq_false hd) (HIF.out.1 h)
          go_wp2_with fail
          go_ret2
          exact ⟨false, by rw [HE.out]; rfl, HN4.out, ⟨(fun h => by cases h), fun h => absurd h HY.out⟩⟩
  · have hne : (checkE s != 0) = true := by simp [he]
    have hno : ¬LoopP s l := fun h => he h.1
    unfold VlA
    generalize checkE s = er at *
    go_enter Tryd.func50, Tryd.ntmps50
    go_wp2_with fail
    refine HC.out.mono ?_
    rintro e w1 ⟨rfl, m1⟩
    go_wp2_with fail
    go_ret2
    exact ⟨false, rfl, HN.out.trans m1, ⟨(fun h => by cases h), fun h => absurd h hno⟩⟩
/-- What ValidPath answers. -/
def PathE (s : Sy) (r : Rf) (latest : Bool) (l : List Bd) (n er : Int) : Prop :=
  (linesE s [r] ≠ 0 ∧ n = 0 ∧ er = linesE s [r]) ∨ (linesE s [r] = 0 ∧ ((latest = true ∧ LeadsP s l beg r ∧ n = sumB l ∧ er = 0) ∨ (latest = false ∧ LeadsP s l r beg ∧ n = -sumB l ∧ er = 0) ∨ (¬(if latest then LeadsP s l beg r else LeadsP s l r beg) ∧ n = 0 ∧ er = 32)))
def VpA (s : Sy) (r : Rf) (latest : Bool) (l : List Bd) (w : World) (e : Ending) (w' : World) : Prop := ∃ n er : Int, e = .returned (.tuple #[.int .i64 n, .int .i64 er]) ∧ New w w' ∧ PathE s r latest l n er
set_option maxRecDepth 100000 in
set_option maxHeartbeats 8000000 in
theorem ck_ValidPath (s : Sy) (r : Rf) (latest : Bool) (l : List Bd) (A D L : Option Addr) (c d lc : Nat) (w : World) (hM : SysM w A D s) (hbeg : BegA w) (hL : BnsA w L l) (hw : ∀ b ∈ l, BdW b) :
    Calls Tryd.prog 52 #[.agg #[.slice A s.tracks.length c, .slice D s.ties.length d, .int .i64 s.window], .agg #[.int .i64 r.log, .int .i64 r.line], .bool latest, .slice L l.length lc] w fun e w' => VpA s r latest l w e w' := by
  obtain ⟨rl, rn⟩ := r
  dsimp only
  have n2 := ((New.refl w).alloc (.cells #[.slice A s.tracks.length c, .slice D s.ties.length d, .int .i64 s.window] 25)).alloc (.cells #[.int .i64 rl, .int .i64 rn] 53)
  have r0 := (RowIs.new w 25 [.slice A s.tracks.length c, .slice D s.ties.length d, .int .i64 s.window]).keep ((New.refl _).alloc (.cells #[.int .i64 rl, .int .i64 rn] 53))
  have r1 := RowIs.new (w.alloc (.cells #[.slice A s.tracks.length c, .slice D s.ties.length d, .int .i64 s.window] 25)) 53 [.int .i64 rl, .int .i64 rn]
  simp only [World.size_alloc] at r1
  have HR0 := Lib.hid r0
  have HR1 := Lib.hid r1
  have HN := Lib.hid n2
  have HM := Lib.hid hM
  have HB := Lib.hid hbeg
  have HLD : Hid (∀ w', checkE s = 0 → New w w' → ∀ f t, _) := Lib.hid fun w' hs h f t => ck_leads s hs l A D L c d lc f t w' (hM.keep h) ⟨h.cellOf hbeg.1, h.cellOf hbeg.2⟩ (hL.keep h) hw
  have HTO : Hid (∀ w', checkE s = 0 → New w w' → ∀ f t, LeadsP s l f t → _) := Lib.hid fun w' hs h f t hl => ck_total l L lc w' (hL.keep h) (sums_small hs hl)
  have HSS : Hid (∀ f t, checkE s = 0 → LeadsP s l f t → -1000000000000 ≤ sumB l ∧ sumB l ≤ 1000000000000) := Lib.hid fun f t hs h => by
    have := sums_small hs h l.length (Nat.le_refl _)
    rwa [List.take_length] at this
  have hll := hL.1
  clear n2 hM hbeg hL hw r0 r1
  have c0 := HR0.out.cell (i := 0) rfl
  have c1 := HR0.out.cell (i := 1) rfl
  have c2 := HR0.out.cell (i := 2) rfl
  have d0 := HR1.out.cell (i := 0) rfl
  have d1 := HR1.out.cell (i := 1) rfl
  have n3 := HN.out.alloc (.cells #[.int .i64 rl, .int .i64 rn] 53)
  have r3 := RowIs.new ((w.alloc (.cells #[.slice A s.tracks.length c, .slice D s.ties.length d, .int .i64 s.window] 25)).alloc (.cells #[.int .i64 rl, .int .i64 rn] 53)) 53 [.int .i64 rl, .int .i64 rn]
  simp only [World.size_alloc] at r3
  have HCK := Lib.hid (ck_checkLines s A D (some ⟨w.heap.size + 1 + 1, 0, none⟩) c d 1 [⟨rl, rn⟩] _ (HM.out.keep n3) (RfsA.row r3 (by simp)))
  have HR2 := Lib.hid (HR0.out.keep ((New.refl _).alloc (.cells #[.int .i64 rl, .int .i64 rn] 53)))
  have HR3 := Lib.hid (HR1.out.keep ((New.refl _).alloc (.cells #[.int .i64 rl, .int .i64 rn] 53)))
  have HN3 := Lib.hid n3
  clear n3 r3
  unfold VpA PathE
  have HER : Hid (linesE s [⟨rl, rn⟩] = 0 → checkE s = 0) := Lib.hid fun h => (linesE_ok.1 h).1
  generalize linesE s [⟨rl, rn⟩] = er at *
  obtain ⟨RR, HRR⟩ : ∃ RR : Ending → World → Prop, Hid (RR = fun e w' => ∃ n er2 : Int, e = .returned (.tuple #[.int .i64 n, .int .i64 er2]) ∧ New w w' ∧ ((er ≠ 0 ∧ n = 0 ∧ er2 = er) ∨ (er = 0 ∧ ((latest = true ∧ LeadsP s l beg ⟨rl, rn⟩ ∧ n = sumB l ∧ er2 = 0) ∨ (latest = false ∧ LeadsP s l ⟨rl, rn⟩ beg ∧ n = -sumB l ∧ er2 = 0) ∨ (¬(if latest then LeadsP s l beg ⟨rl, rn⟩ else LeadsP s l ⟨rl, rn⟩ beg) ∧ n = 0 ∧ er2 = 32))))) := ⟨_, Lib.hid rfl⟩
  rw [← HRR.out]
  go_enter Tryd.func52, Tryd.ntmps52
  go_wp2_with fail
  refine HCK.out.mono ?_
  rintro e w1 ⟨rfl, m1⟩
  have HN4 := Lib.hid (HN3.out.trans m1)
  have HA0 := Lib.hid (HR2.out.keep m1)
  have HA1 := Lib.hid (HR3.out.keep m1)
  have g0 := HN4.out.cellOf HB.out.1
  have g1 := HN4.out.cellOf HB.out.2
  clear m1 c0 c1 c2 d0 d1 HR2 HR3 HR0 HR1 HN3 HN HCK
  by_cases he : er = 0
  · have hz : checkE s = 0 := HER.out he
    subst he
    have c0 := HA0.out.cell (i := 0) rfl
    have c1 := HA0.out.cell (i := 1) rfl
    have c2 := HA0.out.cell (i := 2) rfl
    have d0 := HA1.out.cell (i := 0) rfl
    have d1 := HA1.out.cell (i := 1) rfl
    have HZ := Lib.hid hz
    clear hz
    cases latest with
    | true =>
      go_wp2_with fail
      refine (HLD.out _ HZ.out HN4.out beg ⟨rl, rn⟩).mono ?_
      rintro e w3 ⟨q, rfl, m3, hr⟩
      have HN5 := Lib.hid (HN4.out.trans m3)
      cases q with
      | true =>
        have hld := hr.1 rfl
        have HT := Lib.hid (HTO.out _ HZ.out HN5.out _ _ hld)
        have HLDD := Lib.hid hld
        clear hr hld m3 c0 c1 c2 d0 d1 g0 g1
        go_wp2_with fail
        refine HT.out.mono ?_
        rintro e w4 ⟨rfl, m4⟩
        have HN6 := Lib.hid (HN5.out.trans m4)
        clear m4
        go_wp2_with fail
        try go_ret2
        rw [HRR.out]
        exact ⟨_, 0, rfl, HN6.out, .inr ⟨(by first | rfl | trivial), .inl ⟨(by first | rfl | trivial), HLDD.out, (by first | rfl | trivial), (by first | rfl | trivial)⟩⟩⟩
      | false =>
        have HNO : Hid (¬LeadsP s l beg ⟨rl, rn⟩) := Lib.hid fun h => by have := hr.2 h; cases this
        clear hr m3 c0 c1 c2 d0 d1 g0 g1
        go_wp2_with fail
        try go_ret2
        rw [HRR.out]
        exact ⟨0, 32, rfl, HN5.out, .inr ⟨(by first | rfl | trivial), .inr (.inr ⟨by simpa using HNO.out, (by first | rfl | trivial), (by first | rfl | trivial)⟩)⟩⟩
    | false =>
      go_wp2_with fail
      refine (HLD.out _ HZ.out HN4.out ⟨rl, rn⟩ beg).mono ?_
      rintro e w3 ⟨q, rfl, m3, hr⟩
      have HN5 := Lib.hid (HN4.out.trans m3)
      cases q with
      | true =>
        have hld := hr.1 rfl
        have HT := Lib.hid (HTO.out _ HZ.out HN5.out _ _ hld)
        have HLDD := Lib.hid hld
        have hs2 := HSS.out _ _ HZ.out hld
        have hw : IntKind.i64.wrap (-sumB l) = -sumB l := IntWalk.i64_in _ (by omega)
        clear hr hld m3 c0 c1 c2 d0 d1 g0 g1
        go_wp2_with fail
        refine HT.out.mono ?_
        rintro e w4 ⟨rfl, m4⟩
        have HN6 := Lib.hid (HN5.out.trans m4)
        clear m4
        go_wp2_with fail
        try go_ret2
        rw [HRR.out]
        exact ⟨_, 0, rfl, HN6.out, .inr ⟨(by first | rfl | trivial), .inr (.inl ⟨(by first | rfl | trivial), HLDD.out, (by first | rfl | trivial), (by first | rfl | trivial)⟩)⟩⟩
      | false =>
        have HNO : Hid (¬LeadsP s l ⟨rl, rn⟩ beg) := Lib.hid fun h => by have := hr.2 h; cases this
        clear hr m3 c0 c1 c2 d0 d1 g0 g1
        go_wp2_with fail
        try go_ret2
        rw [HRR.out]
        exact ⟨0, 32, rfl, HN5.out, .inr ⟨(by first | rfl | trivial), .inr (.inr ⟨by simpa using HNO.out, (by first | rfl | trivial), (by first | rfl | trivial)⟩)⟩⟩
  · have hne : (er != 0) = true := by simp [he]
    have HEN := Lib.hid he
    clear he
    go_wp2_with fail
    try go_ret2
    rw [HRR.out]
    exact ⟨0, er, rfl, HN4.out, .inl ⟨HEN.out, rfl, rfl⟩⟩
end Go.Proofs.YtodmbcoobjcooaaDoor
