/-
  The specification: ValidLoop. Condition: the system and the bounds lie in memory.
  The specification: ValidPath. Condition: the system and the bounds lie in memory.
  ClocksKeeps, its walk. Condition: the system, the times and the bounds lie in memory, the variable beginning holds what the program's text lays.
-/
import Derived.Test.YtodmbcoobjcooaaDoorCkRfL
import Derived.Test.YtodmbcoobjcooaaDoorCkVLoop
import Derived.Test.YtodmbcoobjcooaaDoorCkLoops
namespace Go.Proofs.YtodmbcoobjcooaaDoor
open Go Go.RowKit Go.Shelf
attribute [local go_sem] Oper.semAt_some
attribute [-go_sem] Go.run_eql_struct Go.run_neq_struct
theorem eql_rf (a b : Rf) (w : World) : (binOp .eql 53 (.agg #[.int .i64 a.log, .int .i64 a.line]) (.agg #[.int .i64 b.log, .int .i64 b.line])).run Tryd.prog w = .ok (.bool (decide (a = b))) w := by
  obtain ⟨a1, a2⟩ := a
  obtain ⟨b1, b2⟩ := b
  dsimp only
  have e : decide ((⟨a1, a2⟩ : Rf) = ⟨b1, b2⟩) = (decide (a1 = b1) && decide (a2 = b2)) := by
    rw [Bool.eq_iff_iff]
    simp only [decide_eq_true_eq, Bool.and_eq_true, Rf.mk.injEq]
  rw [e]
  rw [Go.run_eql_struct]
  by_cases h1 : a1 = b1 <;> by_cases h2 : a2 = b2 <;> simp [go_sem, Tryd.underlying53, Tryd.underlying3, h1, h2]
theorem chn_leads {s : Sy} {l : List Bd} {f t : Rf} : LeadsP s l f t ↔ Chn s l ∧ (l[0]?.getD default).frm = f ∧ (l[l.length - 1]?.getD default).to = t := by
  have cz : curF f l 0 = f := rfl
  have cs : ∀ i, curF f l (i + 1) = (l[i]?.getD default).to := fun i => rfl
  constructor
  · rintro ⟨h1, ⟨h2, h3⟩, h4⟩
    refine ⟨⟨h1, fun i hi => ⟨fun h0 => ?_, h4 _ ?_⟩⟩, ?_, ?_⟩
    · obtain ⟨j, rfl⟩ : ∃ j, i = j + 1 := ⟨i - 1, by omega⟩
      rw [h2 _ hi, cs]
      rfl
    · rw [List.getElem?_eq_getElem hi]
      exact List.getElem_mem hi
    · rw [h2 0 (by omega), cz]
    · obtain ⟨j, hj⟩ : ∃ j, l.length = j + 1 := ⟨l.length - 1, by omega⟩
      rw [hj, cs] at h3
      rw [hj]
      exact h3
  · rintro ⟨⟨h1, h2⟩, h3, h4⟩
    refine ⟨h1, ⟨fun i hi => ?_, ?_⟩, fun b hb => ?_⟩
    · cases i with
      | zero => rw [cz]; exact h3
      | succ j => rw [cs]; exact (h2 _ hi).1 (by omega)
    · obtain ⟨j, hj⟩ : ∃ j, l.length = j + 1 := ⟨l.length - 1, by omega⟩
      rw [hj, cs]
      rw [hj] at h4
      exact h4
    · obtain ⟨i, hi, rfl⟩ := List.mem_iff_getElem.1 hb
      have := (h2 i hi).2
      rwa [List.getElem?_eq_getElem hi] at this
theorem chn_mem {s : Sy} {l : List Bd} (h : Chn s l) : ∀ b ∈ l, b ∈ bnds s := (chn_leads.2 ⟨h, rfl, rfl⟩).2.2
theorem chn_sum {s : Sy} (hs : Ok s) {l : List Bd} (h : Chn s l) : ∀ k, k ≤ l.length → -1000000000000 ≤ sumB (l.take k) ∧ sumB (l.take k) ≤ 1000000000000 := fun k hk => by
  have := sum_small hs (l.take k) (fun b hb => chn_mem h b (List.mem_of_mem_take hb))
  have h2 := h.1
  have h3 : (l.take k).length ≤ 30000 := by rw [List.length_take]; omega
  omega
set_option maxRecDepth 100000 in
set_option maxHeartbeats 8000000 in
theorem rf_ValidLoop (s : Sy) (l : List Bd) (A D L : Option Addr) (c d lc : Nat) (w : World) (hM : SysM w A D s) (hL : BnsA w L l) :
    Calls Tryd.prog 51 #[.agg #[.slice A s.tracks.length c, .slice D s.ties.length d, .int .i64 s.window], .slice L l.length lc] w fun e w' => VlA s l w e w' := by
  have n1 := (New.refl w).alloc (.cells #[.slice A s.tracks.length c, .slice D s.ties.length d, .int .i64 s.window] 25)
  have HR1 := Lib.hid (RowIs.new w 25 [.slice A s.tracks.length c, .slice D s.ties.length d, .int .i64 s.window])
  have HN := Lib.hid n1
  have HM := Lib.hid hM
  have HL := Lib.hid hL
  have HC := Lib.hid (rf_Check s A D c d _ (hM.keep n1))
  have hll := hL.1
  clear n1 hM hL
  have c0 := HR1.out.cell (i := 0) rfl
  have c1 := HR1.out.cell (i := 1) rfl
  have c2 := HR1.out.cell (i := 2) rfl
  go_enter Tryd.func51, Tryd.ntmps51
  by_cases he : checkE s = 0
  · have hs : Ok s := he
    have HS := Lib.hid hs
    rw [he] at HC
    have HCE := Lib.hid he
    clear he hs
    go_wp2_with fail
    refine HC.out.mono ?_
    rintro e w1 ⟨rfl, m1⟩
    have HN1 := Lib.hid (HN.out.trans m1)
    have HA1 := Lib.hid (HR1.out.keep m1)
    clear c0 c1 c2 m1 HR1 HN HC
    have HCH : Hid (∀ w', New w1 w' → _) := Lib.hid fun w' h => rf_chained s HS.out l A D L c d lc w' (HM.out.keep (HN1.out.trans h)) (HL.out.keep (HN1.out.trans h))
    by_cases hch : Chn s l
    · have hl1 := hch.1
      have HSM : Hid (∀ w', New w1 w' → _) := Lib.hid fun w' h => rf_sum l L lc w' (HL.out.keep (HN1.out.trans h)) (chn_sum HS.out hch)
      have HCT : Hid (∀ w', New w1 w' → Calls Tryd.prog 93 #[.agg #[.slice A s.tracks.length c, .slice D s.ties.length d, .int .i64 s.window], .slice L l.length lc] w' fun e w'' => e = .returned (.bool true) ∧ New w' w'') := Lib.hid fun w' h => (HCH.out w' h).mono (by
        rintro e w'' ⟨⟨-, h1⟩ | ⟨h1, -⟩, h2⟩
        · exact ⟨h1, h2⟩
        · exact absurd hch h1)
      have HLP : Hid (LoopP s l ↔ (l[l.length - 1]?.getD default).to = (l[0]?.getD default).frm ∧ sumB l < 0) := Lib.hid (by
        unfold LoopP
        rw [chn_leads]
        exact ⟨fun h => ⟨h.2.1.2.2, h.2.2⟩, fun h => ⟨HS.out, ⟨hch, rfl, h.1⟩, h.2⟩⟩)
      obtain ⟨lb, lo, rfl, hlb, hc⟩ := (HL.out.keep HN1.out).2 (by omega)
      have hz := hc 0 (by omega)
      have hj := hc (l.length - 1) (by omega)
      have hw : IntKind.i64.wrap ((l.length : Int) - 1) = ((l.length - 1 : Nat) : Int) := by rw [IntWalk.i64_in _ (by omega)]; omega
      have ij : ((l.length - 1 : Nat) : Int) < (l.length : Int) := by omega
      have i0 : (0 : Int) < (l.length : Int) := by omega
      have i1 : 0 < l.length := by omega
      have i2 : l.length ≠ 0 := by omega
      have hn1 := eql_rf (l[l.length - 1]?.getD default).to (l[0]?.getD default).frm
      generalize l.length - 1 = j at *
      generalize (l[j]?.getD default) = bj at *
      generalize (l[0]?.getD default) = bz at *
      generalize sumB l = sm at *
      obtain ⟨⟨jfl, jfn⟩, ⟨jtl, jtn⟩, jmo, jkd, jix⟩ := bj
      obtain ⟨⟨zfl, zfn⟩, ⟨ztl, ztn⟩, zmo, zkd, zix⟩ := bz
      obtain ⟨j0, j1, j2, j3, j4, j5, j6⟩ := hj
      obtain ⟨z0, z1, z2, z3, z4, z5, z6⟩ := hz
      dsimp only at j2 j3 z0 z1 hn1 HLP
      simp only [Nat.zero_mul, Nat.add_zero] at z0 z1
      have HSD : Hid (∀ w', New w1 w' → (fun w' => ((w'.cell? ⟨w.heap.size, 0, none⟩ = some (.slice A s.tracks.length c) ∧ w'.cell? ⟨w.heap.size, 1, none⟩ = some (.slice D s.ties.length d) ∧ w'.cell? ⟨w.heap.size, 2, none⟩ = some (.int .i64 s.window)) ∧ (w'.cell? ⟨lb, lo + j * 7 + 2, none⟩ = some (.int .i64 jtl) ∧ w'.cell? ⟨lb, lo + j * 7 + 3, none⟩ = some (.int .i64 jtn)) ∧ (w'.cell? ⟨lb, lo, none⟩ = some (.int .i64 zfl) ∧ w'.cell? ⟨lb, lo + 1, none⟩ = some (.int .i64 zfn)))) w') := Lib.hid fun w' h => ⟨⟨(HA1.out.keep h).cell rfl, (HA1.out.keep h).cell rfl, (HA1.out.keep h).cell rfl⟩, ⟨h.cellOf j2, h.cellOf j3⟩, h.cellOf z0, h.cellOf z1⟩
      dsimp only at HSD
      clear hc j0 j1 j2 j3 j4 j5 j6 z0 z1 z2 z3 z4 z5 z6 hch hl1 HCH hlb
      by_cases hE : (⟨jtl, jtn⟩ : Rf) = ⟨zfl, zfn⟩
      · have HEE := Lib.hid hE
        rw [decide_eq_true hE] at hn1
        have HLQ : Hid (LoopP s l ↔ decide (sm < 0) = true) := Lib.hid (HLP.out.trans ⟨fun h => decide_eq_true h.2, fun h => ⟨hE, of_decide_eq_true h⟩⟩)
        generalize hsb : decide (sm < 0) = sb at *
        clear hE HLP
        go_wp2_with fail
        refine region_plain (by kernel_rfl) (wpAny_of_held (S := (fun w' => ((w'.cell? ⟨w.heap.size, 0, none⟩ = some (.slice A s.tracks.length c) ∧ w'.cell? ⟨w.heap.size, 1, none⟩ = some (.slice D s.ties.length d) ∧ w'.cell? ⟨w.heap.size, 2, none⟩ = some (.int .i64 s.window)) ∧ (w'.cell? ⟨lb, lo + j * 7 + 2, none⟩ = some (.int .i64 jtl) ∧ w'.cell? ⟨lb, lo + j * 7 + 3, none⟩ = some (.int .i64 jtn)) ∧ (w'.cell? ⟨lb, lo, none⟩ = some (.int .i64 zfl) ∧ w'.cell? ⟨lb, lo + 1, none⟩ = some (.int .i64 zfn))))) _ _ _ _ ?_)
        change wpAnyH _ _ _ _ _ _ _ _ w1.drew
        have hS := HSD.out w1.drew (New.refl w1).drew
        refine wpAnyH_take (i := 0) (v := ?_) rfl (by kernel_rfl) (by kernel_rfl) (by kernel_rfl) (fun _ _ _ h => h) (Or.inl ⟨by rfl, fun w' hS' => ?_⟩) hS ?_
        rotate_left
        · obtain ⟨⟨s0, s1, s2⟩, ⟨s3, s4⟩, s5, s6⟩ := hS'
          go_simp
          try rfl
        try simp only [List.getElem_toArray, List.getElem_cons_zero, Act.put, List.setIfInBounds_toArray, List.set_cons_zero, List.set_cons_succ]
        refine wpAnyH_take (i := 1) (v := ?_) rfl (by kernel_rfl) (by kernel_rfl) (by kernel_rfl) (fun _ _ _ h => h) (Or.inl ⟨by rfl, fun w' hS' => ?_⟩) hS ?_
        rotate_left
        · obtain ⟨⟨s0, s1, s2⟩, ⟨s3, s4⟩, s5, s6⟩ := hS'
          go_simp
          try rfl
        try simp only [List.getElem_toArray, List.getElem_cons_zero, List.getElem_cons_succ, Act.put, List.setIfInBounds_toArray, List.set_cons_zero, List.set_cons_succ]
        clear hS
        refine wpAnyH_ready (rs := [2]) (by kernel_rfl) (by simp) ?_
        refine AllReadyH.cons rfl (fun K hK => ?_) AllReadyH.nil
        go_simp
        refine (HCT.out _ ((New.refl w1).drew)).mono ?_
        rintro e w2 ⟨rfl, mw2⟩
        have nw2 := ((New.refl w1).drew).trans mw2
        refine hK.out _ _ (HSD.out w2 nw2) (fun hS => ?_)
        clear hK K
        try simp only [List.getElem_toArray, List.getElem_cons_zero, List.getElem_cons_succ, Act.put, List.setIfInBounds_toArray, List.set_cons_zero, List.set_cons_succ]
        refine wpAnyH_take (i := 3) (v := ?_) rfl (by kernel_rfl) (by kernel_rfl) (by kernel_rfl) (fun _ _ _ h => h) (Or.inl ⟨by rfl, fun w' hS' => ?_⟩) hS ?_
        rotate_left
        · obtain ⟨⟨s0, s1, s2⟩, ⟨s3, s4⟩, s5, s6⟩ := hS'
          go_simp
          try rfl
        try simp only [List.getElem_toArray, List.getElem_cons_zero, List.getElem_cons_succ, Act.put, List.setIfInBounds_toArray, List.set_cons_zero, List.set_cons_succ]
        refine wpAnyH_take (i := 4) (v := ?_) rfl (by kernel_rfl) (by kernel_rfl) (by kernel_rfl) (fun _ _ _ h => h) (Or.inl ⟨by rfl, fun w' hS' => ?_⟩) hS ?_
        rotate_left
        · obtain ⟨⟨s0, s1, s2⟩, ⟨s3, s4⟩, s5, s6⟩ := hS'
          go_simp
          try rfl
        try simp only [List.getElem_toArray, List.getElem_cons_zero, List.getElem_cons_succ, Act.put, List.setIfInBounds_toArray, List.set_cons_zero, List.set_cons_succ]
        refine wpAnyH_take (i := 5) (v := ?_) rfl (by kernel_rfl) (by kernel_rfl) (by kernel_rfl) (fun _ _ _ h => h) (Or.inl ⟨by rfl, fun w' hS' => ?_⟩) hS ?_
        rotate_left
        · obtain ⟨⟨s0, s1, s2⟩, ⟨s3, s4⟩, s5, s6⟩ := hS'
          go_simp
          try rfl
        try simp only [List.getElem_toArray, List.getElem_cons_zero, List.getElem_cons_succ, Act.put, List.setIfInBounds_toArray, List.set_cons_zero, List.set_cons_succ]
        refine wpAnyH_take (i := 6) (v := ?_) rfl (by kernel_rfl) (by kernel_rfl) (by kernel_rfl) (fun _ _ _ h => h) (Or.inl ⟨by rfl, fun w' hS' => ?_⟩) hS ?_
        rotate_left
        · obtain ⟨⟨s0, s1, s2⟩, ⟨s3, s4⟩, s5, s6⟩ := hS'
          go_simp
          try rfl
        try simp only [List.getElem_toArray, List.getElem_cons_zero, List.getElem_cons_succ, Act.put, List.setIfInBounds_toArray, List.set_cons_zero, List.set_cons_succ]
        refine wpAnyH_take (i := 7) (v := ?_) rfl (by kernel_rfl) (by kernel_rfl) (by kernel_rfl) (fun _ _ _ h => h) (Or.inl ⟨by rfl, fun w' hS' => ?_⟩) hS ?_
        rotate_left
        · obtain ⟨⟨s0, s1, s2⟩, ⟨s3, s4⟩, s5, s6⟩ := hS'
          go_simp
          try rfl
        try simp only [List.getElem_toArray, List.getElem_cons_zero, List.getElem_cons_succ, Act.put, List.setIfInBounds_toArray, List.set_cons_zero, List.set_cons_succ]
        refine wpAnyH_take (i := 8) (v := ?_) rfl (by kernel_rfl) (by kernel_rfl) (by kernel_rfl) (fun _ _ _ h => h) (Or.inl ⟨by rfl, fun w' hS' => ?_⟩) hS ?_
        rotate_left
        · obtain ⟨⟨s0, s1, s2⟩, ⟨s3, s4⟩, s5, s6⟩ := hS'
          go_simp
          try rfl
        try simp only [List.getElem_toArray, List.getElem_cons_zero, List.getElem_cons_succ, Act.put, List.setIfInBounds_toArray, List.set_cons_zero, List.set_cons_succ]
        refine wpAnyH_take (i := 9) (v := ?_) rfl (by kernel_rfl) (by kernel_rfl) (by kernel_rfl) (fun _ _ _ h => h) (Or.inl ⟨by rfl, fun w' hS' => ?_⟩) hS ?_
        rotate_left
        · obtain ⟨⟨s0, s1, s2⟩, ⟨s3, s4⟩, s5, s6⟩ := hS'
          go_simp
          try rfl
        try simp only [List.getElem_toArray, List.getElem_cons_zero, List.getElem_cons_succ, Act.put, List.setIfInBounds_toArray, List.set_cons_zero, List.set_cons_succ]
        refine wpAnyH_take (i := 10) (v := ?_) rfl (by kernel_rfl) (by kernel_rfl) (by kernel_rfl) (fun _ _ _ h => h) (Or.inl ⟨by rfl, fun w' hS' => ?_⟩) hS ?_
        rotate_left
        · obtain ⟨⟨s0, s1, s2⟩, ⟨s3, s4⟩, s5, s6⟩ := hS'
          go_simp
          try rfl
        try simp only [List.getElem_toArray, List.getElem_cons_zero, List.getElem_cons_succ, Act.put, List.setIfInBounds_toArray, List.set_cons_zero, List.set_cons_succ]
        refine wpAnyH_take (i := 11) (v := ?_) rfl (by kernel_rfl) (by kernel_rfl) (by kernel_rfl) (fun _ _ _ h => h) (Or.inl ⟨by rfl, fun w' hS' => ?_⟩) hS ?_
        rotate_left
        · obtain ⟨⟨s0, s1, s2⟩, ⟨s3, s4⟩, s5, s6⟩ := hS'
          go_simp
          try rfl
        try simp only [List.getElem_toArray, List.getElem_cons_zero, List.getElem_cons_succ, Act.put, List.setIfInBounds_toArray, List.set_cons_zero, List.set_cons_succ]
        refine wpAnyH_take (i := 12) (v := ?_) rfl (by kernel_rfl) (by kernel_rfl) (by kernel_rfl) (fun _ _ _ h => h) (Or.inl ⟨by rfl, fun w' hS' => ?_⟩) hS ?_
        rotate_left
        · obtain ⟨⟨s0, s1, s2⟩, ⟨s3, s4⟩, s5, s6⟩ := hS'
          go_simp
          try rfl
        try simp only [List.getElem_toArray, List.getElem_cons_zero, List.getElem_cons_succ, Act.put, List.setIfInBounds_toArray, List.set_cons_zero, List.set_cons_succ]
        refine wpAnyH_take (i := 13) (v := ?_) rfl (by kernel_rfl) (by kernel_rfl) (by kernel_rfl) (fun _ _ _ h => h) (Or.inl ⟨by rfl, fun w' hS' => ?_⟩) hS ?_
        rotate_left
        · obtain ⟨⟨s0, s1, s2⟩, ⟨s3, s4⟩, s5, s6⟩ := hS'
          go_simp
          try rfl
        try simp only [List.getElem_toArray, List.getElem_cons_zero, List.getElem_cons_succ, Act.put, List.setIfInBounds_toArray, List.set_cons_zero, List.set_cons_succ]
        refine wpAnyH_take (i := 14) (v := ?_) rfl (by kernel_rfl) (by kernel_rfl) (by kernel_rfl) (fun _ _ _ h => h) (Or.inl ⟨by rfl, fun w' hS' => ?_⟩) hS ?_
        rotate_left
        · obtain ⟨⟨s0, s1, s2⟩, ⟨s3, s4⟩, s5, s6⟩ := hS'
          go_simp
          try rfl
        try simp only [List.getElem_toArray, List.getElem_cons_zero, List.getElem_cons_succ, Act.put, List.setIfInBounds_toArray, List.set_cons_zero, List.set_cons_succ]
        refine wpAnyH_take (i := 15) (v := ?_) rfl (by kernel_rfl) (by kernel_rfl) (by kernel_rfl) (fun _ _ _ h => h) (Or.inl ⟨by rfl, fun w' hS' => ?_⟩) hS ?_
        rotate_left
        · obtain ⟨⟨s0, s1, s2⟩, ⟨s3, s4⟩, s5, s6⟩ := hS'
          go_simp
          try rfl
        try simp only [List.getElem_toArray, List.getElem_cons_zero, List.getElem_cons_succ, Act.put, List.setIfInBounds_toArray, List.set_cons_zero, List.set_cons_succ]
        refine wpAnyH_take (i := 16) (v := ?_) rfl (by kernel_rfl) (by kernel_rfl) (by kernel_rfl) (fun _ _ _ h => h) (Or.inl ⟨by rfl, fun w' hS' => ?_⟩) hS ?_
        rotate_left
        · obtain ⟨⟨s0, s1, s2⟩, ⟨s3, s4⟩, s5, s6⟩ := hS'
          go_simp
          try rfl
        try simp only [List.getElem_toArray, List.getElem_cons_zero, List.getElem_cons_succ, Act.put, List.setIfInBounds_toArray, List.set_cons_zero, List.set_cons_succ]
        refine wpAnyH_take (i := 17) (v := ?_) rfl (by kernel_rfl) (by kernel_rfl) (by kernel_rfl) (fun _ _ _ h => h) (Or.inl ⟨by rfl, fun w' hS' => ?_⟩) hS ?_
        rotate_left
        · obtain ⟨⟨s0, s1, s2⟩, ⟨s3, s4⟩, s5, s6⟩ := hS'
          go_simp
          try rfl
        try simp only [List.getElem_toArray, List.getElem_cons_zero, List.getElem_cons_succ, Act.put, List.setIfInBounds_toArray, List.set_cons_zero, List.set_cons_succ]
        refine wpAnyH_take (i := 18) (v := ?_) rfl (by kernel_rfl) (by kernel_rfl) (by kernel_rfl) (fun _ _ _ h => h) (Or.inl ⟨by rfl, fun w' hS' => ?_⟩) hS ?_
        rotate_left
        · obtain ⟨⟨s0, s1, s2⟩, ⟨s3, s4⟩, s5, s6⟩ := hS'
          go_simp
          try rfl
        try simp only [List.getElem_toArray, List.getElem_cons_zero, List.getElem_cons_succ, Act.put, List.setIfInBounds_toArray, List.set_cons_zero, List.set_cons_succ]
        clear hS
        refine wpAnyH_ready (rs := [19]) (by kernel_rfl) (by simp) ?_
        refine AllReadyH.cons rfl (fun K hK => ?_) AllReadyH.nil
        go_simp
        refine (HSM.out _ (nw2)).mono ?_
        rintro e w3 ⟨rfl, mw3⟩
        have nw3 := (nw2).trans mw3
        refine hK.out _ _ (HSD.out w3 nw3) (fun hS => ?_)
        clear hK K
        try simp only [List.getElem_toArray, List.getElem_cons_zero, List.getElem_cons_succ, Act.put, List.setIfInBounds_toArray, List.set_cons_zero, List.set_cons_succ]
        refine wpAnyH_take (i := 20) (v := ?_) rfl (by kernel_rfl) (by kernel_rfl) (by kernel_rfl) (fun _ _ _ h => h) (Or.inl ⟨by rfl, fun w' hS' => ?_⟩) hS ?_
        rotate_left
        · obtain ⟨⟨s0, s1, s2⟩, ⟨s3, s4⟩, s5, s6⟩ := hS'
          go_simp
          try rfl
        try simp only [List.getElem_toArray, List.getElem_cons_zero, List.getElem_cons_succ, Act.put, List.setIfInBounds_toArray, List.set_cons_zero, List.set_cons_succ]
        refine wpAnyH_take (i := 21) (v := ?_) rfl (by kernel_rfl) (by kernel_rfl) (by kernel_rfl) (fun _ _ _ h => h) (Or.inl ⟨by rfl, fun w' hS' => ?_⟩) hS ?_
        rotate_left
        · obtain ⟨⟨s0, s1, s2⟩, ⟨s3, s4⟩, s5, s6⟩ := hS'
          go_simp
          try rfl
        try simp only [List.getElem_toArray, List.getElem_cons_zero, List.getElem_cons_succ, Act.put, List.setIfInBounds_toArray, List.set_cons_zero, List.set_cons_succ]
        refine wpAnyH_take (i := 22) (v := ?_) rfl (by kernel_rfl) (by kernel_rfl) (by kernel_rfl) (fun _ _ _ h => h) (Or.inl ⟨by rfl, fun w' hS' => ?_⟩) hS ?_
        rotate_left
        · obtain ⟨⟨s0, s1, s2⟩, ⟨s3, s4⟩, s5, s6⟩ := hS'
          go_simp
          try rfl
        try simp only [List.getElem_toArray, List.getElem_cons_zero, List.getElem_cons_succ, Act.put, List.setIfInBounds_toArray, List.set_cons_zero, List.set_cons_succ]
        refine wpAnyH_take (i := 23) (v := ?_) rfl (by kernel_rfl) (by kernel_rfl) (by kernel_rfl) (fun _ _ _ h => h) (Or.inl ⟨by rfl, fun w' hS' => ?_⟩) hS ?_
        rotate_left
        · obtain ⟨⟨s0, s1, s2⟩, ⟨s3, s4⟩, s5, s6⟩ := hS'
          go_simp
          try rfl
        try simp only [List.getElem_toArray, List.getElem_cons_zero, List.getElem_cons_succ, Act.put, List.setIfInBounds_toArray, List.set_cons_zero, List.set_cons_succ]
        clear hS
        refine wpAnyH_done (by kernel_rfl) ?_ _
        unfold NormQ
        dsimp only [Exit.then]
        have HNZ := Lib.hid (HN1.out.trans nw3)
        go_wp2_with fail
        go_ret2
        exact ⟨sb, by rw [HCE.out]; rfl, HNZ.out, HLQ.out.symm⟩
      · have HLQ : Hid (¬LoopP s l) := Lib.hid fun h => hE (HLP.out.1 h).1
        rw [decide_eq_false hE] at hn1
        clear hE HLP
        go_wp2_with fail
        refine region_plain (by kernel_rfl) (wpAny_of_held (S := (fun w' => ((w'.cell? ⟨w.heap.size, 0, none⟩ = some (.slice A s.tracks.length c) ∧ w'.cell? ⟨w.heap.size, 1, none⟩ = some (.slice D s.ties.length d) ∧ w'.cell? ⟨w.heap.size, 2, none⟩ = some (.int .i64 s.window)) ∧ (w'.cell? ⟨lb, lo + j * 7 + 2, none⟩ = some (.int .i64 jtl) ∧ w'.cell? ⟨lb, lo + j * 7 + 3, none⟩ = some (.int .i64 jtn)) ∧ (w'.cell? ⟨lb, lo, none⟩ = some (.int .i64 zfl) ∧ w'.cell? ⟨lb, lo + 1, none⟩ = some (.int .i64 zfn))))) _ _ _ _ ?_)
        change wpAnyH _ _ _ _ _ _ _ _ w1.drew
        have hS := HSD.out w1.drew (New.refl w1).drew
        refine wpAnyH_take (i := 0) (v := ?_) rfl (by kernel_rfl) (by kernel_rfl) (by kernel_rfl) (fun _ _ _ h => h) (Or.inl ⟨by rfl, fun w' hS' => ?_⟩) hS ?_
        rotate_left
        · obtain ⟨⟨s0, s1, s2⟩, ⟨s3, s4⟩, s5, s6⟩ := hS'
          go_simp
          try rfl
        try simp only [List.getElem_toArray, List.getElem_cons_zero, Act.put, List.setIfInBounds_toArray, List.set_cons_zero, List.set_cons_succ]
        refine wpAnyH_take (i := 1) (v := ?_) rfl (by kernel_rfl) (by kernel_rfl) (by kernel_rfl) (fun _ _ _ h => h) (Or.inl ⟨by rfl, fun w' hS' => ?_⟩) hS ?_
        rotate_left
        · obtain ⟨⟨s0, s1, s2⟩, ⟨s3, s4⟩, s5, s6⟩ := hS'
          go_simp
          try rfl
        try simp only [List.getElem_toArray, List.getElem_cons_zero, List.getElem_cons_succ, Act.put, List.setIfInBounds_toArray, List.set_cons_zero, List.set_cons_succ]
        clear hS
        refine wpAnyH_ready (rs := [2]) (by kernel_rfl) (by simp) ?_
        refine AllReadyH.cons rfl (fun K hK => ?_) AllReadyH.nil
        go_simp
        refine (HCT.out _ ((New.refl w1).drew)).mono ?_
        rintro e w2 ⟨rfl, mw2⟩
        have nw2 := ((New.refl w1).drew).trans mw2
        refine hK.out _ _ (HSD.out w2 nw2) (fun hS => ?_)
        clear hK K
        try simp only [List.getElem_toArray, List.getElem_cons_zero, List.getElem_cons_succ, Act.put, List.setIfInBounds_toArray, List.set_cons_zero, List.set_cons_succ]
        refine wpAnyH_take (i := 3) (v := ?_) rfl (by kernel_rfl) (by kernel_rfl) (by kernel_rfl) (fun _ _ _ h => h) (Or.inl ⟨by rfl, fun w' hS' => ?_⟩) hS ?_
        rotate_left
        · obtain ⟨⟨s0, s1, s2⟩, ⟨s3, s4⟩, s5, s6⟩ := hS'
          go_simp
          try rfl
        try simp only [List.getElem_toArray, List.getElem_cons_zero, List.getElem_cons_succ, Act.put, List.setIfInBounds_toArray, List.set_cons_zero, List.set_cons_succ]
        refine wpAnyH_take (i := 4) (v := ?_) rfl (by kernel_rfl) (by kernel_rfl) (by kernel_rfl) (fun _ _ _ h => h) (Or.inl ⟨by rfl, fun w' hS' => ?_⟩) hS ?_
        rotate_left
        · obtain ⟨⟨s0, s1, s2⟩, ⟨s3, s4⟩, s5, s6⟩ := hS'
          go_simp
          try rfl
        try simp only [List.getElem_toArray, List.getElem_cons_zero, List.getElem_cons_succ, Act.put, List.setIfInBounds_toArray, List.set_cons_zero, List.set_cons_succ]
        refine wpAnyH_take (i := 5) (v := ?_) rfl (by kernel_rfl) (by kernel_rfl) (by kernel_rfl) (fun _ _ _ h => h) (Or.inl ⟨by rfl, fun w' hS' => ?_⟩) hS ?_
        rotate_left
        · obtain ⟨⟨s0, s1, s2⟩, ⟨s3, s4⟩, s5, s6⟩ := hS'
          go_simp
          try rfl
        try simp only [List.getElem_toArray, List.getElem_cons_zero, List.getElem_cons_succ, Act.put, List.setIfInBounds_toArray, List.set_cons_zero, List.set_cons_succ]
        refine wpAnyH_take (i := 6) (v := ?_) rfl (by kernel_rfl) (by kernel_rfl) (by kernel_rfl) (fun _ _ _ h => h) (Or.inl ⟨by rfl, fun w' hS' => ?_⟩) hS ?_
        rotate_left
        · obtain ⟨⟨s0, s1, s2⟩, ⟨s3, s4⟩, s5, s6⟩ := hS'
          go_simp
          try rfl
        try simp only [List.getElem_toArray, List.getElem_cons_zero, List.getElem_cons_succ, Act.put, List.setIfInBounds_toArray, List.set_cons_zero, List.set_cons_succ]
        refine wpAnyH_take (i := 7) (v := ?_) rfl (by kernel_rfl) (by kernel_rfl) (by kernel_rfl) (fun _ _ _ h => h) (Or.inl ⟨by rfl, fun w' hS' => ?_⟩) hS ?_
        rotate_left
        · obtain ⟨⟨s0, s1, s2⟩, ⟨s3, s4⟩, s5, s6⟩ := hS'
          go_simp
          try rfl
        try simp only [List.getElem_toArray, List.getElem_cons_zero, List.getElem_cons_succ, Act.put, List.setIfInBounds_toArray, List.set_cons_zero, List.set_cons_succ]
        refine wpAnyH_take (i := 8) (v := ?_) rfl (by kernel_rfl) (by kernel_rfl) (by kernel_rfl) (fun _ _ _ h => h) (Or.inl ⟨by rfl, fun w' hS' => ?_⟩) hS ?_
        rotate_left
        · obtain ⟨⟨s0, s1, s2⟩, ⟨s3, s4⟩, s5, s6⟩ := hS'
          go_simp
          try rfl
        try simp only [List.getElem_toArray, List.getElem_cons_zero, List.getElem_cons_succ, Act.put, List.setIfInBounds_toArray, List.set_cons_zero, List.set_cons_succ]
        refine wpAnyH_take (i := 9) (v := ?_) rfl (by kernel_rfl) (by kernel_rfl) (by kernel_rfl) (fun _ _ _ h => h) (Or.inl ⟨by rfl, fun w' hS' => ?_⟩) hS ?_
        rotate_left
        · obtain ⟨⟨s0, s1, s2⟩, ⟨s3, s4⟩, s5, s6⟩ := hS'
          go_simp
          try rfl
        try simp only [List.getElem_toArray, List.getElem_cons_zero, List.getElem_cons_succ, Act.put, List.setIfInBounds_toArray, List.set_cons_zero, List.set_cons_succ]
        refine wpAnyH_take (i := 10) (v := ?_) rfl (by kernel_rfl) (by kernel_rfl) (by kernel_rfl) (fun _ _ _ h => h) (Or.inl ⟨by rfl, fun w' hS' => ?_⟩) hS ?_
        rotate_left
        · obtain ⟨⟨s0, s1, s2⟩, ⟨s3, s4⟩, s5, s6⟩ := hS'
          go_simp
          try rfl
        try simp only [List.getElem_toArray, List.getElem_cons_zero, List.getElem_cons_succ, Act.put, List.setIfInBounds_toArray, List.set_cons_zero, List.set_cons_succ]
        refine wpAnyH_take (i := 11) (v := ?_) rfl (by kernel_rfl) (by kernel_rfl) (by kernel_rfl) (fun _ _ _ h => h) (Or.inl ⟨by rfl, fun w' hS' => ?_⟩) hS ?_
        rotate_left
        · obtain ⟨⟨s0, s1, s2⟩, ⟨s3, s4⟩, s5, s6⟩ := hS'
          go_simp
          try rfl
        try simp only [List.getElem_toArray, List.getElem_cons_zero, List.getElem_cons_succ, Act.put, List.setIfInBounds_toArray, List.set_cons_zero, List.set_cons_succ]
        refine wpAnyH_take (i := 12) (v := ?_) rfl (by kernel_rfl) (by kernel_rfl) (by kernel_rfl) (fun _ _ _ h => h) (Or.inl ⟨by rfl, fun w' hS' => ?_⟩) hS ?_
        rotate_left
        · obtain ⟨⟨s0, s1, s2⟩, ⟨s3, s4⟩, s5, s6⟩ := hS'
          go_simp
          try rfl
        try simp only [List.getElem_toArray, List.getElem_cons_zero, List.getElem_cons_succ, Act.put, List.setIfInBounds_toArray, List.set_cons_zero, List.set_cons_succ]
        refine wpAnyH_take (i := 13) (v := ?_) rfl (by kernel_rfl) (by kernel_rfl) (by kernel_rfl) (fun _ _ _ h => h) (Or.inl ⟨by rfl, fun w' hS' => ?_⟩) hS ?_
        rotate_left
        · obtain ⟨⟨s0, s1, s2⟩, ⟨s3, s4⟩, s5, s6⟩ := hS'
          go_simp
          try rfl
        try simp only [List.getElem_toArray, List.getElem_cons_zero, List.getElem_cons_succ, Act.put, List.setIfInBounds_toArray, List.set_cons_zero, List.set_cons_succ]
        refine wpAnyH_take (i := 14) (v := ?_) rfl (by kernel_rfl) (by kernel_rfl) (by kernel_rfl) (fun _ _ _ h => h) (Or.inl ⟨by rfl, fun w' hS' => ?_⟩) hS ?_
        rotate_left
        · obtain ⟨⟨s0, s1, s2⟩, ⟨s3, s4⟩, s5, s6⟩ := hS'
          go_simp
          try rfl
        try simp only [List.getElem_toArray, List.getElem_cons_zero, List.getElem_cons_succ, Act.put, List.setIfInBounds_toArray, List.set_cons_zero, List.set_cons_succ]
        refine wpAnyH_take (i := 15) (v := ?_) rfl (by kernel_rfl) (by kernel_rfl) (by kernel_rfl) (fun _ _ _ h => h) (Or.inl ⟨by rfl, fun w' hS' => ?_⟩) hS ?_
        rotate_left
        · obtain ⟨⟨s0, s1, s2⟩, ⟨s3, s4⟩, s5, s6⟩ := hS'
          go_simp
          try rfl
        try simp only [List.getElem_toArray, List.getElem_cons_zero, List.getElem_cons_succ, Act.put, List.setIfInBounds_toArray, List.set_cons_zero, List.set_cons_succ]
        refine wpAnyH_take (i := 16) (v := ?_) rfl (by kernel_rfl) (by kernel_rfl) (by kernel_rfl) (fun _ _ _ h => h) (Or.inl ⟨by rfl, fun w' hS' => ?_⟩) hS ?_
        rotate_left
        · obtain ⟨⟨s0, s1, s2⟩, ⟨s3, s4⟩, s5, s6⟩ := hS'
          go_simp
          try rfl
        try simp only [List.getElem_toArray, List.getElem_cons_zero, List.getElem_cons_succ, Act.put, List.setIfInBounds_toArray, List.set_cons_zero, List.set_cons_succ]
        refine wpAnyH_take (i := 17) (v := ?_) rfl (by kernel_rfl) (by kernel_rfl) (by kernel_rfl) (fun _ _ _ h => h) (Or.inl ⟨by rfl, fun w' hS' => ?_⟩) hS ?_
        rotate_left
        · obtain ⟨⟨s0, s1, s2⟩, ⟨s3, s4⟩, s5, s6⟩ := hS'
          go_simp
          try rfl
        try simp only [List.getElem_toArray, List.getElem_cons_zero, List.getElem_cons_succ, Act.put, List.setIfInBounds_toArray, List.set_cons_zero, List.set_cons_succ]
        refine wpAnyH_take (i := 18) (v := undef) rfl (by kernel_rfl) (by kernel_rfl) (by kernel_rfl) (fun _ _ _ h => h) (Or.inr ⟨by rfl, rfl⟩) hS ?_
        try simp only [List.getElem_toArray, List.getElem_cons_zero, List.getElem_cons_succ, Act.put, List.setIfInBounds_toArray, List.set_cons_zero, List.set_cons_succ]
        refine wpAnyH_take (i := 19) (v := undef) rfl (by kernel_rfl) (by kernel_rfl) (by kernel_rfl) (fun _ _ _ h => h) (Or.inr ⟨by rfl, rfl⟩) hS ?_
        try simp only [List.getElem_toArray, List.getElem_cons_zero, List.getElem_cons_succ, Act.put, List.setIfInBounds_toArray, List.set_cons_zero, List.set_cons_succ]
        refine wpAnyH_take (i := 20) (v := undef) rfl (by kernel_rfl) (by kernel_rfl) (by kernel_rfl) (fun _ _ _ h => h) (Or.inr ⟨by rfl, rfl⟩) hS ?_
        try simp only [List.getElem_toArray, List.getElem_cons_zero, List.getElem_cons_succ, Act.put, List.setIfInBounds_toArray, List.set_cons_zero, List.set_cons_succ]
        refine wpAnyH_take (i := 21) (v := ?_) rfl (by kernel_rfl) (by kernel_rfl) (by kernel_rfl) (fun _ _ _ h => h) (Or.inl ⟨by rfl, fun w' hS' => ?_⟩) hS ?_
        rotate_left
        · obtain ⟨⟨s0, s1, s2⟩, ⟨s3, s4⟩, s5, s6⟩ := hS'
          go_simp
          try rfl
        try simp only [List.getElem_toArray, List.getElem_cons_zero, List.getElem_cons_succ, Act.put, List.setIfInBounds_toArray, List.set_cons_zero, List.set_cons_succ]
        refine wpAnyH_take (i := 22) (v := ?_) rfl (by kernel_rfl) (by kernel_rfl) (by kernel_rfl) (fun _ _ _ h => h) (Or.inl ⟨by rfl, fun w' hS' => ?_⟩) hS ?_
        rotate_left
        · obtain ⟨⟨s0, s1, s2⟩, ⟨s3, s4⟩, s5, s6⟩ := hS'
          go_simp
          try rfl
        try simp only [List.getElem_toArray, List.getElem_cons_zero, List.getElem_cons_succ, Act.put, List.setIfInBounds_toArray, List.set_cons_zero, List.set_cons_succ]
        refine wpAnyH_take (i := 23) (v := ?_) rfl (by kernel_rfl) (by kernel_rfl) (by kernel_rfl) (fun _ _ _ h => h) (Or.inl ⟨by rfl, fun w' hS' => ?_⟩) hS ?_
        rotate_left
        · obtain ⟨⟨s0, s1, s2⟩, ⟨s3, s4⟩, s5, s6⟩ := hS'
          go_simp
          try rfl
        try simp only [List.getElem_toArray, List.getElem_cons_zero, List.getElem_cons_succ, Act.put, List.setIfInBounds_toArray, List.set_cons_zero, List.set_cons_succ]
        clear hS
        refine wpAnyH_done (by kernel_rfl) ?_ _
        unfold NormQ
        dsimp only [Exit.then]
        have HNZ := Lib.hid (HN1.out.trans nw2)
        go_wp2_with fail
        go_ret2
        exact ⟨false, by rw [HCE.out]; rfl, HNZ.out, ⟨fun h => (by cases h), fun h => absurd h HLQ.out⟩⟩
    · have HLQ : Hid (¬LoopP s l) := Lib.hid fun h => hch (chn_leads.1 h.2.1).1
      have HCF : Hid (∀ w', New w1 w' → Calls Tryd.prog 93 #[.agg #[.slice A s.tracks.length c, .slice D s.ties.length d, .int .i64 s.window], .slice L l.length lc] w' fun e w'' => e = .returned (.bool false) ∧ New w' w'') := Lib.hid fun w' h => (HCH.out w' h).mono (by
        rintro e w'' ⟨⟨h1, -⟩ | ⟨-, h1⟩, h2⟩
        · exact absurd h1 hch
        · exact ⟨h1, h2⟩)
      have HSD : Hid (∀ w', New w1 w' → (fun w' => (w'.cell? ⟨w.heap.size, 0, none⟩ = some (.slice A s.tracks.length c) ∧ w'.cell? ⟨w.heap.size, 1, none⟩ = some (.slice D s.ties.length d) ∧ w'.cell? ⟨w.heap.size, 2, none⟩ = some (.int .i64 s.window))) w') := Lib.hid fun w' h => ⟨(HA1.out.keep h).cell rfl, (HA1.out.keep h).cell rfl, (HA1.out.keep h).cell rfl⟩
      dsimp only at HSD
      clear hch HCH
      go_wp2_with fail
      refine region_plain (by kernel_rfl) (wpAny_of_held (S := (fun w' => (w'.cell? ⟨w.heap.size, 0, none⟩ = some (.slice A s.tracks.length c) ∧ w'.cell? ⟨w.heap.size, 1, none⟩ = some (.slice D s.ties.length d) ∧ w'.cell? ⟨w.heap.size, 2, none⟩ = some (.int .i64 s.window)))) _ _ _ _ ?_)
      change wpAnyH _ _ _ _ _ _ _ _ w1.drew
      have hS := HSD.out w1.drew (New.refl w1).drew
      refine wpAnyH_take (i := 0) (v := ?_) rfl (by kernel_rfl) (by kernel_rfl) (by kernel_rfl) (fun _ _ _ h => h) (Or.inl ⟨by rfl, fun w' hS' => ?_⟩) hS ?_
      rotate_left
      · obtain ⟨s0, s1, s2⟩ := hS'
        go_simp
        try rfl
      try simp only [List.getElem_toArray, List.getElem_cons_zero, Act.put, List.setIfInBounds_toArray, List.set_cons_zero, List.set_cons_succ]
      refine wpAnyH_take (i := 1) (v := ?_) rfl (by kernel_rfl) (by kernel_rfl) (by kernel_rfl) (fun _ _ _ h => h) (Or.inl ⟨by rfl, fun w' hS' => ?_⟩) hS ?_
      rotate_left
      · obtain ⟨s0, s1, s2⟩ := hS'
        go_simp
        try rfl
      try simp only [List.getElem_toArray, List.getElem_cons_zero, List.getElem_cons_succ, Act.put, List.setIfInBounds_toArray, List.set_cons_zero, List.set_cons_succ]
      clear hS
      refine wpAnyH_ready (rs := [2]) (by kernel_rfl) (by simp) ?_
      refine AllReadyH.cons rfl (fun K hK => ?_) AllReadyH.nil
      go_simp
      refine (HCF.out _ ((New.refl w1).drew)).mono ?_
      rintro e w2 ⟨rfl, mw2⟩
      have nw2 := ((New.refl w1).drew).trans mw2
      refine hK.out _ _ (HSD.out w2 nw2) (fun hS => ?_)
      clear hK K
      try simp only [List.getElem_toArray, List.getElem_cons_zero, List.getElem_cons_succ, Act.put, List.setIfInBounds_toArray, List.set_cons_zero, List.set_cons_succ]
      refine wpAnyH_take (i := 3) (v := ?_) rfl (by kernel_rfl) (by kernel_rfl) (by kernel_rfl) (fun _ _ _ h => h) (Or.inl ⟨by rfl, fun w' hS' => ?_⟩) hS ?_
      rotate_left
      · obtain ⟨s0, s1, s2⟩ := hS'
        go_simp
        try rfl
      try simp only [List.getElem_toArray, List.getElem_cons_zero, List.getElem_cons_succ, Act.put, List.setIfInBounds_toArray, List.set_cons_zero, List.set_cons_succ]
      refine wpAnyH_take (i := 4) (v := undef) rfl (by kernel_rfl) (by kernel_rfl) (by kernel_rfl) (fun _ _ _ h => h) (Or.inr ⟨by rfl, rfl⟩) hS ?_
      try simp only [List.getElem_toArray, List.getElem_cons_zero, List.getElem_cons_succ, Act.put, List.setIfInBounds_toArray, List.set_cons_zero, List.set_cons_succ]
      refine wpAnyH_take (i := 5) (v := undef) rfl (by kernel_rfl) (by kernel_rfl) (by kernel_rfl) (fun _ _ _ h => h) (Or.inr ⟨by rfl, rfl⟩) hS ?_
      try simp only [List.getElem_toArray, List.getElem_cons_zero, List.getElem_cons_succ, Act.put, List.setIfInBounds_toArray, List.set_cons_zero, List.set_cons_succ]
      refine wpAnyH_take (i := 6) (v := undef) rfl (by kernel_rfl) (by kernel_rfl) (by kernel_rfl) (fun _ _ _ h => h) (Or.inr ⟨by rfl, rfl⟩) hS ?_
      try simp only [List.getElem_toArray, List.getElem_cons_zero, List.getElem_cons_succ, Act.put, List.setIfInBounds_toArray, List.set_cons_zero, List.set_cons_succ]
      refine wpAnyH_take (i := 7) (v := undef) rfl (by kernel_rfl) (by kernel_rfl) (by kernel_rfl) (fun _ _ _ h => h) (Or.inr ⟨by rfl, rfl⟩) hS ?_
      try simp only [List.getElem_toArray, List.getElem_cons_zero, List.getElem_cons_succ, Act.put, List.setIfInBounds_toArray, List.set_cons_zero, List.set_cons_succ]
      refine wpAnyH_take (i := 8) (v := undef) rfl (by kernel_rfl) (by kernel_rfl) (by kernel_rfl) (fun _ _ _ h => h) (Or.inr ⟨by rfl, rfl⟩) hS ?_
      try simp only [List.getElem_toArray, List.getElem_cons_zero, List.getElem_cons_succ, Act.put, List.setIfInBounds_toArray, List.set_cons_zero, List.set_cons_succ]
      refine wpAnyH_take (i := 9) (v := undef) rfl (by kernel_rfl) (by kernel_rfl) (by kernel_rfl) (fun _ _ _ h => h) (Or.inr ⟨by rfl, rfl⟩) hS ?_
      try simp only [List.getElem_toArray, List.getElem_cons_zero, List.getElem_cons_succ, Act.put, List.setIfInBounds_toArray, List.set_cons_zero, List.set_cons_succ]
      refine wpAnyH_take (i := 10) (v := undef) rfl (by kernel_rfl) (by kernel_rfl) (by kernel_rfl) (fun _ _ _ h => h) (Or.inr ⟨by rfl, rfl⟩) hS ?_
      try simp only [List.getElem_toArray, List.getElem_cons_zero, List.getElem_cons_succ, Act.put, List.setIfInBounds_toArray, List.set_cons_zero, List.set_cons_succ]
      refine wpAnyH_take (i := 11) (v := undef) rfl (by kernel_rfl) (by kernel_rfl) (by kernel_rfl) (fun _ _ _ h => h) (Or.inr ⟨by rfl, rfl⟩) hS ?_
      try simp only [List.getElem_toArray, List.getElem_cons_zero, List.getElem_cons_succ, Act.put, List.setIfInBounds_toArray, List.set_cons_zero, List.set_cons_succ]
      refine wpAnyH_take (i := 12) (v := undef) rfl (by kernel_rfl) (by kernel_rfl) (by kernel_rfl) (fun _ _ _ h => h) (Or.inr ⟨by rfl, rfl⟩) hS ?_
      try simp only [List.getElem_toArray, List.getElem_cons_zero, List.getElem_cons_succ, Act.put, List.setIfInBounds_toArray, List.set_cons_zero, List.set_cons_succ]
      refine wpAnyH_take (i := 13) (v := undef) rfl (by kernel_rfl) (by kernel_rfl) (by kernel_rfl) (fun _ _ _ h => h) (Or.inr ⟨by rfl, rfl⟩) hS ?_
      try simp only [List.getElem_toArray, List.getElem_cons_zero, List.getElem_cons_succ, Act.put, List.setIfInBounds_toArray, List.set_cons_zero, List.set_cons_succ]
      refine wpAnyH_take (i := 14) (v := undef) rfl (by kernel_rfl) (by kernel_rfl) (by kernel_rfl) (fun _ _ _ h => h) (Or.inr ⟨by rfl, rfl⟩) hS ?_
      try simp only [List.getElem_toArray, List.getElem_cons_zero, List.getElem_cons_succ, Act.put, List.setIfInBounds_toArray, List.set_cons_zero, List.set_cons_succ]
      refine wpAnyH_take (i := 15) (v := undef) rfl (by kernel_rfl) (by kernel_rfl) (by kernel_rfl) (fun _ _ _ h => h) (Or.inr ⟨by rfl, rfl⟩) hS ?_
      try simp only [List.getElem_toArray, List.getElem_cons_zero, List.getElem_cons_succ, Act.put, List.setIfInBounds_toArray, List.set_cons_zero, List.set_cons_succ]
      refine wpAnyH_take (i := 16) (v := ?_) rfl (by kernel_rfl) (by kernel_rfl) (by kernel_rfl) (fun _ _ _ h => h) (Or.inl ⟨by rfl, fun w' hS' => ?_⟩) hS ?_
      rotate_left
      · obtain ⟨s0, s1, s2⟩ := hS'
        go_simp
        try rfl
      try simp only [List.getElem_toArray, List.getElem_cons_zero, List.getElem_cons_succ, Act.put, List.setIfInBounds_toArray, List.set_cons_zero, List.set_cons_succ]
      refine wpAnyH_take (i := 17) (v := ?_) rfl (by kernel_rfl) (by kernel_rfl) (by kernel_rfl) (fun _ _ _ h => h) (Or.inl ⟨by rfl, fun w' hS' => ?_⟩) hS ?_
      rotate_left
      · obtain ⟨s0, s1, s2⟩ := hS'
        go_simp
        try rfl
      try simp only [List.getElem_toArray, List.getElem_cons_zero, List.getElem_cons_succ, Act.put, List.setIfInBounds_toArray, List.set_cons_zero, List.set_cons_succ]
      refine wpAnyH_take (i := 18) (v := undef) rfl (by kernel_rfl) (by kernel_rfl) (by kernel_rfl) (fun _ _ _ h => h) (Or.inr ⟨by rfl, rfl⟩) hS ?_
      try simp only [List.getElem_toArray, List.getElem_cons_zero, List.getElem_cons_succ, Act.put, List.setIfInBounds_toArray, List.set_cons_zero, List.set_cons_succ]
      refine wpAnyH_take (i := 19) (v := undef) rfl (by kernel_rfl) (by kernel_rfl) (by kernel_rfl) (fun _ _ _ h => h) (Or.inr ⟨by rfl, rfl⟩) hS ?_
      try simp only [List.getElem_toArray, List.getElem_cons_zero, List.getElem_cons_succ, Act.put, List.setIfInBounds_toArray, List.set_cons_zero, List.set_cons_succ]
      refine wpAnyH_take (i := 20) (v := undef) rfl (by kernel_rfl) (by kernel_rfl) (by kernel_rfl) (fun _ _ _ h => h) (Or.inr ⟨by rfl, rfl⟩) hS ?_
      try simp only [List.getElem_toArray, List.getElem_cons_zero, List.getElem_cons_succ, Act.put, List.setIfInBounds_toArray, List.set_cons_zero, List.set_cons_succ]
      refine wpAnyH_take (i := 21) (v := ?_) rfl (by kernel_rfl) (by kernel_rfl) (by kernel_rfl) (fun _ _ _ h => h) (Or.inl ⟨by rfl, fun w' hS' => ?_⟩) hS ?_
      rotate_left
      · obtain ⟨s0, s1, s2⟩ := hS'
        go_simp
        try rfl
      try simp only [List.getElem_toArray, List.getElem_cons_zero, List.getElem_cons_succ, Act.put, List.setIfInBounds_toArray, List.set_cons_zero, List.set_cons_succ]
      refine wpAnyH_take (i := 22) (v := ?_) rfl (by kernel_rfl) (by kernel_rfl) (by kernel_rfl) (fun _ _ _ h => h) (Or.inl ⟨by rfl, fun w' hS' => ?_⟩) hS ?_
      rotate_left
      · obtain ⟨s0, s1, s2⟩ := hS'
        go_simp
        try rfl
      try simp only [List.getElem_toArray, List.getElem_cons_zero, List.getElem_cons_succ, Act.put, List.setIfInBounds_toArray, List.set_cons_zero, List.set_cons_succ]
      refine wpAnyH_take (i := 23) (v := ?_) rfl (by kernel_rfl) (by kernel_rfl) (by kernel_rfl) (fun _ _ _ h => h) (Or.inl ⟨by rfl, fun w' hS' => ?_⟩) hS ?_
      rotate_left
      · obtain ⟨s0, s1, s2⟩ := hS'
        go_simp
        try rfl
      try simp only [List.getElem_toArray, List.getElem_cons_zero, List.getElem_cons_succ, Act.put, List.setIfInBounds_toArray, List.set_cons_zero, List.set_cons_succ]
      clear hS
      refine wpAnyH_done (by kernel_rfl) ?_ _
      unfold NormQ
      dsimp only [Exit.then]
      have HNZ := Lib.hid (HN1.out.trans nw2)
      go_wp2_with fail
      go_ret2
      exact ⟨false, by rw [HCE.out]; rfl, HNZ.out, ⟨fun h => (by cases h), fun h => absurd h HLQ.out⟩⟩
  · have hne : (checkE s != 0) = true := by simp [he]
    have HNO : Hid (¬LoopP s l) := Lib.hid fun h => he h.1
    unfold VlA
    generalize checkE s = er at *
    clear he
    go_wp2_with fail
    refine HC.out.mono ?_
    rintro e w1 ⟨rfl, m1⟩
    go_wp2_with fail
    try go_ret2
    exact ⟨false, rfl, HN.out.trans m1, ⟨fun h => (by cases h), fun h => absurd h HNO.out⟩⟩
end Go.Proofs.YtodmbcoobjcooaaDoor

namespace Go.Proofs.YtodmbcoobjcooaaDoor
open Go Go.RowKit Go.Shelf
attribute [local go_sem] Oper.semAt_some
attribute [-go_sem] Go.run_eql_struct Go.run_neq_struct
set_option maxRecDepth 100000 in
set_option maxHeartbeats 8000000 in
theorem rf_ValidPath (s : Sy) (r : Rf) (latest : Bool) (l : List Bd) (A D L : Option Addr) (c d lc : Nat) (w : World) (hM : SysM w A D s) (hL : BnsA w L l) :
    Calls Tryd.prog 53 #[.agg #[.slice A s.tracks.length c, .slice D s.ties.length d, .int .i64 s.window], .agg #[.int .i64 r.log, .int .i64 r.line], .bool latest, .slice L l.length lc] w fun e w' => VpA s r latest l w e w' := by
  obtain ⟨rl, rn⟩ := r
  dsimp only
  have n2 := ((New.refl w).alloc (.cells #[.slice A s.tracks.length c, .slice D s.ties.length d, .int .i64 s.window] 25)).alloc (.cells #[.int .i64 rl, .int .i64 rn] 53)
  have r0 := (RowIs.new w 25 [.slice A s.tracks.length c, .slice D s.ties.length d, .int .i64 s.window]).keep ((New.refl _).alloc (.cells #[.int .i64 rl, .int .i64 rn] 53))
  have r1 := RowIs.new (w.alloc (.cells #[.slice A s.tracks.length c, .slice D s.ties.length d, .int .i64 s.window] 25)) 53 [.int .i64 rl, .int .i64 rn]
  simp only [World.size_alloc] at r1
  have HR0 := Lib.hid r0
  have HR1 := Lib.hid r1
  have HN := Lib.hid n2
  have HM := Lib.hid hM
  have HL := Lib.hid hL
  have HC := Lib.hid (rf_Check s A D c d _ (hM.keep n2))
  have HHS : Hid (∀ w', New w w' → _) := Lib.hid fun w' h => rf_Has s ⟨rl, rn⟩ A D c s.ties.length d s.window w' (hM.keep h).1
  have hll := hL.1
  clear n2 hM hL r0 r1
  have c0 := HR0.out.cell (i := 0) rfl
  have c1 := HR0.out.cell (i := 1) rfl
  have c2 := HR0.out.cell (i := 2) rfl
  have d0 := HR1.out.cell (i := 0) rfl
  have d1 := HR1.out.cell (i := 1) rfl
  go_enter Tryd.func53, Tryd.ntmps53
  by_cases he : checkE s = 0
  · have hs : Ok s := he
    have HS := Lib.hid hs
    rw [he] at HC
    have HCE := Lib.hid he
    clear he hs
    go_wp2_with fail
    refine HC.out.mono ?_
    rintro e w1 ⟨rfl, m1⟩
    have HN1 := Lib.hid (HN.out.trans m1)
    have HX0 := Lib.hid (HR0.out.keep m1)
    have HX1 := Lib.hid (HR1.out.keep m1)
    clear c0 c1 c2 d0 d1 m1 HC HN
    have c0 := HX0.out.cell (i := 0) rfl
    have c1 := HX0.out.cell (i := 1) rfl
    have c2 := HX0.out.cell (i := 2) rfl
    have d0 := HX1.out.cell (i := 0) rfl
    have d1 := HX1.out.cell (i := 1) rfl
    go_wp2_with fail
    refine (HHS.out _ HN1.out).mono ?_
    rintro e w2 ⟨rfl, m2⟩
    have HN2 := Lib.hid (HN1.out.trans m2)
    have HY0 := Lib.hid (HX0.out.keep m2)
    have HY1 := Lib.hid (HX1.out.keep m2)
    clear c0 c1 c2 d0 d1 m2 HX0 HX1 HHS
    cases hb : lineB s ⟨rl, rn⟩ with
    | false =>
      have HLE : Hid (linesE s [⟨rl, rn⟩] = 3) := Lib.hid (by simp [linesE, HCE.out, hb])
      clear hb
      go_wp2_with fail
      go_ret2
      exact ⟨0, 3, rfl, HN2.out, .inl ⟨(by rw [HLE.out]; decide), rfl, HLE.out.symm⟩⟩
    | true =>
      have HLE : Hid (linesE s [⟨rl, rn⟩] = 0) := Lib.hid (by simp [linesE, HCE.out, hb])
      clear hb
      go_wp2_with fail
      refine (rf_Beginning _).mono ?_
      rintro e w3 ⟨rfl, m3⟩
      have HN3 := Lib.hid (HN2.out.trans m3)
      have HZ0 := Lib.hid (HY0.out.keep m3)
      have HZ1 := Lib.hid (HY1.out.keep m3)
      clear m3 HY0 HY1
      have d0 := HZ1.out.cell (i := 0) rfl
      have d1 := HZ1.out.cell (i := 1) rfl
      have q1 := HZ1.out.lt
      have HF1 := Lib.hid (RowIs.new w3 53 [.int .i64 (-1), .int .i64 0])
      have HFN := Lib.hid ((New.refl w3).alloc (.cells #[.int .i64 (-1), .int .i64 0] 53))
      have HT1 := RowIs.new (w3.alloc (.cells #[.int .i64 (-1), .int .i64 0] 53)) 53 [.int .i64 rl, .int .i64 rn]
      simp only [World.size_alloc] at HT1
      have HT1 := Lib.hid HT1
      have HTN := Lib.hid ((New.refl (w3.alloc (.cells #[.int .i64 (-1), .int .i64 0] 53))).alloc (.cells #[.int .i64 rl, .int .i64 rn] 53))
      have HL3 := Lib.hid HN3.out.size
      cases latest with
      | true =>
        go_wp2_with fail
        have HNW := Lib.hid (HN3.out.trans (HFN.out.trans HTN.out))
        have HA0 := Lib.hid (HZ0.out.keep (HFN.out.trans HTN.out))
        have HF := Lib.hid (HF1.out.keep HTN.out)
        have HT := Lib.hid HT1.out
        clear d0 d1 q1
        generalize (w3.alloc (.cells #[.int .i64 (-1), .int .i64 0] 53)).alloc (.cells #[.int .i64 rl, .int .i64 rn] 53) = W1 at *
        generalize w3.heap.size + 1 = bt at *
        generalize w3.heap.size = bf at *
        have HCH : Hid (∀ w', New W1 w' → _) := Lib.hid fun w' h => rf_chained s HS.out l A D L c d lc w' (HM.out.keep (HNW.out.trans h)) (HL.out.keep (HNW.out.trans h))
        by_cases hch : Chn s l
        · have hl1 := hch.1
          have HCT : Hid (∀ w', New W1 w' → Calls Tryd.prog 93 #[.agg #[.slice A s.tracks.length c, .slice D s.ties.length d, .int .i64 s.window], .slice L l.length lc] w' fun e w'' => e = .returned (.bool true) ∧ New w' w'') := Lib.hid fun w' h => (HCH.out w' h).mono (by
            rintro e w'' ⟨⟨-, h1⟩ | ⟨h1, -⟩, h2⟩
            · exact ⟨h1, h2⟩
            · exact absurd hch h1)
          have HLP : Hid (LeadsP s l (⟨-1, 0⟩ : Rf) (⟨rl, rn⟩ : Rf) ↔ (l[0]?.getD default).frm = (⟨-1, 0⟩ : Rf) ∧ (l[l.length - 1]?.getD default).to = (⟨rl, rn⟩ : Rf)) := Lib.hid (chn_leads.trans ⟨fun h => h.2, fun h => ⟨hch, h⟩⟩)
          have HSM : Hid (∀ w', New W1 w' → _) := Lib.hid fun w' h => rf_sum l L lc w' (HL.out.keep (HNW.out.trans h)) (chn_sum HS.out hch)
          have hsum := chn_sum HS.out hch l.length (Nat.le_refl _)
          rw [List.take_length] at hsum
          obtain ⟨lb, lo, rfl, hlb, hc⟩ := (HL.out.keep HNW.out).2 (by omega)
          have hz := hc 0 (by omega)
          have hj := hc (l.length - 1) (by omega)
          have hw : IntKind.i64.wrap ((l.length : Int) - 1) = ((l.length - 1 : Nat) : Int) := by rw [IntWalk.i64_in _ (by omega)]; omega
          have ij : ((l.length - 1 : Nat) : Int) < (l.length : Int) := by omega
          have i0 : (0 : Int) < (l.length : Int) := by omega
          have i1 : 0 < l.length := by omega
          have i2 : l.length ≠ 0 := by omega
          have hn1 := neq_rf (l[0]?.getD default).frm (⟨-1, 0⟩ : Rf)
          have hn2 := neq_rf (l[l.length - 1]?.getD default).to (⟨rl, rn⟩ : Rf)
          generalize l.length - 1 = j at *
          generalize (l[j]?.getD default) = bj at *
          generalize (l[0]?.getD default) = bz at *
          generalize hsm : sumB l = sm at *
          obtain ⟨⟨jfl, jfn⟩, ⟨jtl, jtn⟩, jmo, jkd, jix⟩ := bj
          obtain ⟨⟨zfl, zfn⟩, ⟨ztl, ztn⟩, zmo, zkd, zix⟩ := bz
          obtain ⟨j0, j1, j2, j3, j4, j5, j6⟩ := hj
          obtain ⟨z0, z1, z2, z3, z4, z5, z6⟩ := hz
          dsimp only at j2 j3 z0 z1 hn1 hn2 HLP
          simp only [Nat.zero_mul, Nat.add_zero] at z0 z1
          have HSD : Hid (∀ w', New W1 w' → (fun w' => ((w'.cell? ⟨w.heap.size, 0, none⟩ = some (.slice A s.tracks.length c) ∧ w'.cell? ⟨w.heap.size, 1, none⟩ = some (.slice D s.ties.length d) ∧ w'.cell? ⟨w.heap.size, 2, none⟩ = some (.int .i64 s.window)) ∧ (w'.cell? ⟨lb, lo + j * 7 + 2, none⟩ = some (.int .i64 jtl) ∧ w'.cell? ⟨lb, lo + j * 7 + 3, none⟩ = some (.int .i64 jtn)) ∧ (w'.cell? ⟨lb, lo, none⟩ = some (.int .i64 zfl) ∧ w'.cell? ⟨lb, lo + 1, none⟩ = some (.int .i64 zfn)) ∧ (w'.cell? ⟨bf, 0, none⟩ = some (.int .i64 (-1)) ∧ w'.cell? ⟨bf, 1, none⟩ = some (.int .i64 0)) ∧ (w'.cell? ⟨bt, 0, none⟩ = some (.int .i64 rl) ∧ w'.cell? ⟨bt, 1, none⟩ = some (.int .i64 rn)))) w') := Lib.hid fun w' h => ⟨⟨(HA0.out.keep h).cell rfl, (HA0.out.keep h).cell rfl, (HA0.out.keep h).cell rfl⟩, ⟨h.cellOf j2, h.cellOf j3⟩, ⟨h.cellOf z0, h.cellOf z1⟩, ⟨(HF.out.keep h).cell rfl, (HF.out.keep h).cell rfl⟩, (HT.out.keep h).cell rfl, (HT.out.keep h).cell rfl⟩
          dsimp only at HSD
          clear hc j0 j1 j2 j3 j4 j5 j6 z0 z1 z2 z3 z4 z5 z6 hch hl1 HCH hlb
          by_cases hE : (⟨zfl, zfn⟩ : Rf) = (⟨-1, 0⟩ : Rf)
          · rw [decide_eq_true hE] at hn1
            by_cases hT : (⟨jtl, jtn⟩ : Rf) = (⟨rl, rn⟩ : Rf)
            · rw [decide_eq_true hT] at hn2
              have HLQ := Lib.hid (HLP.out.2 ⟨hE, hT⟩)
              clear hE hT HLP
              have hw0 : IntKind.i64.wrap (0 - sm) = -sm := by rw [IntWalk.i64_in _ (by omega)]; omega
              simp only [Bool.not_true] at hn1 hn2
              go_wp2_with fail
              refine region_plain (by kernel_rfl) (wpAny_of_held (S := (fun w' => ((w'.cell? ⟨w.heap.size, 0, none⟩ = some (.slice A s.tracks.length c) ∧ w'.cell? ⟨w.heap.size, 1, none⟩ = some (.slice D s.ties.length d) ∧ w'.cell? ⟨w.heap.size, 2, none⟩ = some (.int .i64 s.window)) ∧ (w'.cell? ⟨lb, lo + j * 7 + 2, none⟩ = some (.int .i64 jtl) ∧ w'.cell? ⟨lb, lo + j * 7 + 3, none⟩ = some (.int .i64 jtn)) ∧ (w'.cell? ⟨lb, lo, none⟩ = some (.int .i64 zfl) ∧ w'.cell? ⟨lb, lo + 1, none⟩ = some (.int .i64 zfn)) ∧ (w'.cell? ⟨bf, 0, none⟩ = some (.int .i64 (-1)) ∧ w'.cell? ⟨bf, 1, none⟩ = some (.int .i64 0)) ∧ (w'.cell? ⟨bt, 0, none⟩ = some (.int .i64 rl) ∧ w'.cell? ⟨bt, 1, none⟩ = some (.int .i64 rn))))) _ _ _ _ ?_)
              change wpAnyH _ _ _ _ _ _ _ _ W1.drew
              have hS := HSD.out W1.drew (New.refl W1).drew
              refine wpAnyH_take (i := 0) (v := ?_) rfl (by kernel_rfl) (by kernel_rfl) (by kernel_rfl) (fun _ _ _ h => h) (Or.inl ⟨by rfl, fun w' hS' => ?_⟩) hS ?_
              rotate_left
              · obtain ⟨⟨s0, s1, s2⟩, ⟨s3, s4⟩, ⟨s5, s6⟩, ⟨s7, s8⟩, s9, s10⟩ := hS'
                go_simp
                try rfl
              try simp only [List.getElem_toArray, List.getElem_cons_zero, Act.put, List.setIfInBounds_toArray, List.set_cons_zero, List.set_cons_succ]
              refine wpAnyH_take (i := 1) (v := ?_) rfl (by kernel_rfl) (by kernel_rfl) (by kernel_rfl) (fun _ _ _ h => h) (Or.inl ⟨by rfl, fun w' hS' => ?_⟩) hS ?_
              rotate_left
              · obtain ⟨⟨s0, s1, s2⟩, ⟨s3, s4⟩, ⟨s5, s6⟩, ⟨s7, s8⟩, s9, s10⟩ := hS'
                go_simp
                try rfl
              try simp only [List.getElem_toArray, List.getElem_cons_zero, List.getElem_cons_succ, Act.put, List.setIfInBounds_toArray, List.set_cons_zero, List.set_cons_succ]
              clear hS
              refine wpAnyH_ready (rs := [2]) (by kernel_rfl) (by simp) ?_
              refine AllReadyH.cons rfl (fun K hK => ?_) AllReadyH.nil
              go_simp
              refine (HCT.out _ ((New.refl W1).drew)).mono ?_
              rintro e w7 ⟨rfl, mw7⟩
              have nw7 := ((New.refl W1).drew).trans mw7
              refine hK.out _ _ (HSD.out w7 nw7) (fun hS => ?_)
              clear hK K
              try simp only [List.getElem_toArray, List.getElem_cons_zero, List.getElem_cons_succ, Act.put, List.setIfInBounds_toArray, List.set_cons_zero, List.set_cons_succ]
              refine wpAnyH_take (i := 3) (v := ?_) rfl (by kernel_rfl) (by kernel_rfl) (by kernel_rfl) (fun _ _ _ h => h) (Or.inl ⟨by rfl, fun w' hS' => ?_⟩) hS ?_
              rotate_left
              · obtain ⟨⟨s0, s1, s2⟩, ⟨s3, s4⟩, ⟨s5, s6⟩, ⟨s7, s8⟩, s9, s10⟩ := hS'
                go_simp
                try rfl
              try simp only [List.getElem_toArray, List.getElem_cons_zero, List.getElem_cons_succ, Act.put, List.setIfInBounds_toArray, List.set_cons_zero, List.set_cons_succ]
              refine wpAnyH_take (i := 4) (v := ?_) rfl (by kernel_rfl) (by kernel_rfl) (by kernel_rfl) (fun _ _ _ h => h) (Or.inl ⟨by rfl, fun w' hS' => ?_⟩) hS ?_
              rotate_left
              · obtain ⟨⟨s0, s1, s2⟩, ⟨s3, s4⟩, ⟨s5, s6⟩, ⟨s7, s8⟩, s9, s10⟩ := hS'
                go_simp
                try rfl
              try simp only [List.getElem_toArray, List.getElem_cons_zero, List.getElem_cons_succ, Act.put, List.setIfInBounds_toArray, List.set_cons_zero, List.set_cons_succ]
              refine wpAnyH_take (i := 5) (v := ?_) rfl (by kernel_rfl) (by kernel_rfl) (by kernel_rfl) (fun _ _ _ h => h) (Or.inl ⟨by rfl, fun w' hS' => ?_⟩) hS ?_
              rotate_left
              · obtain ⟨⟨s0, s1, s2⟩, ⟨s3, s4⟩, ⟨s5, s6⟩, ⟨s7, s8⟩, s9, s10⟩ := hS'
                go_simp
                try rfl
              try simp only [List.getElem_toArray, List.getElem_cons_zero, List.getElem_cons_succ, Act.put, List.setIfInBounds_toArray, List.set_cons_zero, List.set_cons_succ]
              refine wpAnyH_take (i := 6) (v := ?_) rfl (by kernel_rfl) (by kernel_rfl) (by kernel_rfl) (fun _ _ _ h => h) (Or.inl ⟨by rfl, fun w' hS' => ?_⟩) hS ?_
              rotate_left
              · obtain ⟨⟨s0, s1, s2⟩, ⟨s3, s4⟩, ⟨s5, s6⟩, ⟨s7, s8⟩, s9, s10⟩ := hS'
                go_simp
                try rfl
              try simp only [List.getElem_toArray, List.getElem_cons_zero, List.getElem_cons_succ, Act.put, List.setIfInBounds_toArray, List.set_cons_zero, List.set_cons_succ]
              refine wpAnyH_take (i := 7) (v := ?_) rfl (by kernel_rfl) (by kernel_rfl) (by kernel_rfl) (fun _ _ _ h => h) (Or.inl ⟨by rfl, fun w' hS' => ?_⟩) hS ?_
              rotate_left
              · obtain ⟨⟨s0, s1, s2⟩, ⟨s3, s4⟩, ⟨s5, s6⟩, ⟨s7, s8⟩, s9, s10⟩ := hS'
                go_simp
                try rfl
              try simp only [List.getElem_toArray, List.getElem_cons_zero, List.getElem_cons_succ, Act.put, List.setIfInBounds_toArray, List.set_cons_zero, List.set_cons_succ]
              refine wpAnyH_take (i := 8) (v := ?_) rfl (by kernel_rfl) (by kernel_rfl) (by kernel_rfl) (fun _ _ _ h => h) (Or.inl ⟨by rfl, fun w' hS' => ?_⟩) hS ?_
              rotate_left
              · obtain ⟨⟨s0, s1, s2⟩, ⟨s3, s4⟩, ⟨s5, s6⟩, ⟨s7, s8⟩, s9, s10⟩ := hS'
                go_simp
                try rfl
              try simp only [List.getElem_toArray, List.getElem_cons_zero, List.getElem_cons_succ, Act.put, List.setIfInBounds_toArray, List.set_cons_zero, List.set_cons_succ]
              refine wpAnyH_take (i := 9) (v := ?_) rfl (by kernel_rfl) (by kernel_rfl) (by kernel_rfl) (fun _ _ _ h => h) (Or.inl ⟨by rfl, fun w' hS' => ?_⟩) hS ?_
              rotate_left
              · obtain ⟨⟨s0, s1, s2⟩, ⟨s3, s4⟩, ⟨s5, s6⟩, ⟨s7, s8⟩, s9, s10⟩ := hS'
                go_simp
                try rfl
              try simp only [List.getElem_toArray, List.getElem_cons_zero, List.getElem_cons_succ, Act.put, List.setIfInBounds_toArray, List.set_cons_zero, List.set_cons_succ]
              refine wpAnyH_take (i := 10) (v := ?_) rfl (by kernel_rfl) (by kernel_rfl) (by kernel_rfl) (fun _ _ _ h => h) (Or.inl ⟨by rfl, fun w' hS' => ?_⟩) hS ?_
              rotate_left
              · obtain ⟨⟨s0, s1, s2⟩, ⟨s3, s4⟩, ⟨s5, s6⟩, ⟨s7, s8⟩, s9, s10⟩ := hS'
                go_simp
                try rfl
              try simp only [List.getElem_toArray, List.getElem_cons_zero, List.getElem_cons_succ, Act.put, List.setIfInBounds_toArray, List.set_cons_zero, List.set_cons_succ]
              refine wpAnyH_take (i := 11) (v := ?_) rfl (by kernel_rfl) (by kernel_rfl) (by kernel_rfl) (fun _ _ _ h => h) (Or.inl ⟨by rfl, fun w' hS' => ?_⟩) hS ?_
              rotate_left
              · obtain ⟨⟨s0, s1, s2⟩, ⟨s3, s4⟩, ⟨s5, s6⟩, ⟨s7, s8⟩, s9, s10⟩ := hS'
                go_simp
                try rfl
              try simp only [List.getElem_toArray, List.getElem_cons_zero, List.getElem_cons_succ, Act.put, List.setIfInBounds_toArray, List.set_cons_zero, List.set_cons_succ]
              refine wpAnyH_take (i := 12) (v := ?_) rfl (by kernel_rfl) (by kernel_rfl) (by kernel_rfl) (fun _ _ _ h => h) (Or.inl ⟨by rfl, fun w' hS' => ?_⟩) hS ?_
              rotate_left
              · obtain ⟨⟨s0, s1, s2⟩, ⟨s3, s4⟩, ⟨s5, s6⟩, ⟨s7, s8⟩, s9, s10⟩ := hS'
                go_simp
                try rfl
              try simp only [List.getElem_toArray, List.getElem_cons_zero, List.getElem_cons_succ, Act.put, List.setIfInBounds_toArray, List.set_cons_zero, List.set_cons_succ]
              refine wpAnyH_take (i := 13) (v := ?_) rfl (by kernel_rfl) (by kernel_rfl) (by kernel_rfl) (fun _ _ _ h => h) (Or.inl ⟨by rfl, fun w' hS' => ?_⟩) hS ?_
              rotate_left
              · obtain ⟨⟨s0, s1, s2⟩, ⟨s3, s4⟩, ⟨s5, s6⟩, ⟨s7, s8⟩, s9, s10⟩ := hS'
                go_simp
                try rfl
              try simp only [List.getElem_toArray, List.getElem_cons_zero, List.getElem_cons_succ, Act.put, List.setIfInBounds_toArray, List.set_cons_zero, List.set_cons_succ]
              refine wpAnyH_take (i := 14) (v := ?_) rfl (by kernel_rfl) (by kernel_rfl) (by kernel_rfl) (fun _ _ _ h => h) (Or.inl ⟨by rfl, fun w' hS' => ?_⟩) hS ?_
              rotate_left
              · obtain ⟨⟨s0, s1, s2⟩, ⟨s3, s4⟩, ⟨s5, s6⟩, ⟨s7, s8⟩, s9, s10⟩ := hS'
                go_simp
                try rfl
              try simp only [List.getElem_toArray, List.getElem_cons_zero, List.getElem_cons_succ, Act.put, List.setIfInBounds_toArray, List.set_cons_zero, List.set_cons_succ]
              refine wpAnyH_take (i := 15) (v := ?_) rfl (by kernel_rfl) (by kernel_rfl) (by kernel_rfl) (fun _ _ _ h => h) (Or.inl ⟨by rfl, fun w' hS' => ?_⟩) hS ?_
              rotate_left
              · obtain ⟨⟨s0, s1, s2⟩, ⟨s3, s4⟩, ⟨s5, s6⟩, ⟨s7, s8⟩, s9, s10⟩ := hS'
                go_simp
                try rfl
              try simp only [List.getElem_toArray, List.getElem_cons_zero, List.getElem_cons_succ, Act.put, List.setIfInBounds_toArray, List.set_cons_zero, List.set_cons_succ]
              refine wpAnyH_take (i := 16) (v := ?_) rfl (by kernel_rfl) (by kernel_rfl) (by kernel_rfl) (fun _ _ _ h => h) (Or.inl ⟨by rfl, fun w' hS' => ?_⟩) hS ?_
              rotate_left
              · obtain ⟨⟨s0, s1, s2⟩, ⟨s3, s4⟩, ⟨s5, s6⟩, ⟨s7, s8⟩, s9, s10⟩ := hS'
                go_simp
                try rfl
              try simp only [List.getElem_toArray, List.getElem_cons_zero, List.getElem_cons_succ, Act.put, List.setIfInBounds_toArray, List.set_cons_zero, List.set_cons_succ]
              refine wpAnyH_take (i := 17) (v := ?_) rfl (by kernel_rfl) (by kernel_rfl) (by kernel_rfl) (fun _ _ _ h => h) (Or.inl ⟨by rfl, fun w' hS' => ?_⟩) hS ?_
              rotate_left
              · obtain ⟨⟨s0, s1, s2⟩, ⟨s3, s4⟩, ⟨s5, s6⟩, ⟨s7, s8⟩, s9, s10⟩ := hS'
                go_simp
                try rfl
              try simp only [List.getElem_toArray, List.getElem_cons_zero, List.getElem_cons_succ, Act.put, List.setIfInBounds_toArray, List.set_cons_zero, List.set_cons_succ]
              refine wpAnyH_take (i := 18) (v := ?_) rfl (by kernel_rfl) (by kernel_rfl) (by kernel_rfl) (fun _ _ _ h => h) (Or.inl ⟨by rfl, fun w' hS' => ?_⟩) hS ?_
              rotate_left
              · obtain ⟨⟨s0, s1, s2⟩, ⟨s3, s4⟩, ⟨s5, s6⟩, ⟨s7, s8⟩, s9, s10⟩ := hS'
                go_simp
                try rfl
              try simp only [List.getElem_toArray, List.getElem_cons_zero, List.getElem_cons_succ, Act.put, List.setIfInBounds_toArray, List.set_cons_zero, List.set_cons_succ]
              refine wpAnyH_take (i := 19) (v := ?_) rfl (by kernel_rfl) (by kernel_rfl) (by kernel_rfl) (fun _ _ _ h => h) (Or.inl ⟨by rfl, fun w' hS' => ?_⟩) hS ?_
              rotate_left
              · obtain ⟨⟨s0, s1, s2⟩, ⟨s3, s4⟩, ⟨s5, s6⟩, ⟨s7, s8⟩, s9, s10⟩ := hS'
                go_simp
                try rfl
              try simp only [List.getElem_toArray, List.getElem_cons_zero, List.getElem_cons_succ, Act.put, List.setIfInBounds_toArray, List.set_cons_zero, List.set_cons_succ]
              refine wpAnyH_take (i := 20) (v := ?_) rfl (by kernel_rfl) (by kernel_rfl) (by kernel_rfl) (fun _ _ _ h => h) (Or.inl ⟨by rfl, fun w' hS' => ?_⟩) hS ?_
              rotate_left
              · obtain ⟨⟨s0, s1, s2⟩, ⟨s3, s4⟩, ⟨s5, s6⟩, ⟨s7, s8⟩, s9, s10⟩ := hS'
                go_simp
                try rfl
              try simp only [List.getElem_toArray, List.getElem_cons_zero, List.getElem_cons_succ, Act.put, List.setIfInBounds_toArray, List.set_cons_zero, List.set_cons_succ]
              refine wpAnyH_take (i := 21) (v := ?_) rfl (by kernel_rfl) (by kernel_rfl) (by kernel_rfl) (fun _ _ _ h => h) (Or.inl ⟨by rfl, fun w' hS' => ?_⟩) hS ?_
              rotate_left
              · obtain ⟨⟨s0, s1, s2⟩, ⟨s3, s4⟩, ⟨s5, s6⟩, ⟨s7, s8⟩, s9, s10⟩ := hS'
                go_simp
                try rfl
              try simp only [List.getElem_toArray, List.getElem_cons_zero, List.getElem_cons_succ, Act.put, List.setIfInBounds_toArray, List.set_cons_zero, List.set_cons_succ]
              refine wpAnyH_take (i := 22) (v := ?_) rfl (by kernel_rfl) (by kernel_rfl) (by kernel_rfl) (fun _ _ _ h => h) (Or.inl ⟨by rfl, fun w' hS' => ?_⟩) hS ?_
              rotate_left
              · obtain ⟨⟨s0, s1, s2⟩, ⟨s3, s4⟩, ⟨s5, s6⟩, ⟨s7, s8⟩, s9, s10⟩ := hS'
                go_simp
                try rfl
              try simp only [List.getElem_toArray, List.getElem_cons_zero, List.getElem_cons_succ, Act.put, List.setIfInBounds_toArray, List.set_cons_zero, List.set_cons_succ]
              clear hS
              refine wpAnyH_done (by kernel_rfl) ?_ _
              unfold NormQ
              dsimp only [Exit.then]
              have HNZ := Lib.hid (HNW.out.trans nw7)
              have HSMM := Lib.hid (HSM.out _ nw7)
              clear HSM HCT HSD
              go_wp2_with fail
              refine HSMM.out.mono ?_
              rintro e w8 ⟨rfl, m8⟩
              go_wp2_with fail
              go_ret2
              exact ⟨sm, 0, rfl, HNZ.out.trans m8, .inr ⟨HLE.out, .inl ⟨rfl, HLQ.out, (by rw [hsm]), rfl⟩⟩⟩
            · rw [decide_eq_false hT] at hn2
              have HLQ : Hid (¬LeadsP s l (⟨-1, 0⟩ : Rf) (⟨rl, rn⟩ : Rf)) := Lib.hid fun h => hT (HLP.out.1 h).2
              clear hE hT HLP
              simp only [Bool.not_true, Bool.not_false] at hn1 hn2
              go_wp2_with fail
              refine region_plain (by kernel_rfl) (wpAny_of_held (S := (fun w' => ((w'.cell? ⟨w.heap.size, 0, none⟩ = some (.slice A s.tracks.length c) ∧ w'.cell? ⟨w.heap.size, 1, none⟩ = some (.slice D s.ties.length d) ∧ w'.cell? ⟨w.heap.size, 2, none⟩ = some (.int .i64 s.window)) ∧ (w'.cell? ⟨lb, lo + j * 7 + 2, none⟩ = some (.int .i64 jtl) ∧ w'.cell? ⟨lb, lo + j * 7 + 3, none⟩ = some (.int .i64 jtn)) ∧ (w'.cell? ⟨lb, lo, none⟩ = some (.int .i64 zfl) ∧ w'.cell? ⟨lb, lo + 1, none⟩ = some (.int .i64 zfn)) ∧ (w'.cell? ⟨bf, 0, none⟩ = some (.int .i64 (-1)) ∧ w'.cell? ⟨bf, 1, none⟩ = some (.int .i64 0)) ∧ (w'.cell? ⟨bt, 0, none⟩ = some (.int .i64 rl) ∧ w'.cell? ⟨bt, 1, none⟩ = some (.int .i64 rn))))) _ _ _ _ ?_)
              change wpAnyH _ _ _ _ _ _ _ _ W1.drew
              have hS := HSD.out W1.drew (New.refl W1).drew
              refine wpAnyH_take (i := 0) (v := ?_) rfl (by kernel_rfl) (by kernel_rfl) (by kernel_rfl) (fun _ _ _ h => h) (Or.inl ⟨by rfl, fun w' hS' => ?_⟩) hS ?_
              rotate_left
              · obtain ⟨⟨s0, s1, s2⟩, ⟨s3, s4⟩, ⟨s5, s6⟩, ⟨s7, s8⟩, s9, s10⟩ := hS'
                go_simp
                try rfl
              try simp only [List.getElem_toArray, List.getElem_cons_zero, Act.put, List.setIfInBounds_toArray, List.set_cons_zero, List.set_cons_succ]
              refine wpAnyH_take (i := 1) (v := ?_) rfl (by kernel_rfl) (by kernel_rfl) (by kernel_rfl) (fun _ _ _ h => h) (Or.inl ⟨by rfl, fun w' hS' => ?_⟩) hS ?_
              rotate_left
              · obtain ⟨⟨s0, s1, s2⟩, ⟨s3, s4⟩, ⟨s5, s6⟩, ⟨s7, s8⟩, s9, s10⟩ := hS'
                go_simp
                try rfl
              try simp only [List.getElem_toArray, List.getElem_cons_zero, List.getElem_cons_succ, Act.put, List.setIfInBounds_toArray, List.set_cons_zero, List.set_cons_succ]
              clear hS
              refine wpAnyH_ready (rs := [2]) (by kernel_rfl) (by simp) ?_
              refine AllReadyH.cons rfl (fun K hK => ?_) AllReadyH.nil
              go_simp
              refine (HCT.out _ ((New.refl W1).drew)).mono ?_
              rintro e w7 ⟨rfl, mw7⟩
              have nw7 := ((New.refl W1).drew).trans mw7
              refine hK.out _ _ (HSD.out w7 nw7) (fun hS => ?_)
              clear hK K
              try simp only [List.getElem_toArray, List.getElem_cons_zero, List.getElem_cons_succ, Act.put, List.setIfInBounds_toArray, List.set_cons_zero, List.set_cons_succ]
              refine wpAnyH_take (i := 3) (v := ?_) rfl (by kernel_rfl) (by kernel_rfl) (by kernel_rfl) (fun _ _ _ h => h) (Or.inl ⟨by rfl, fun w' hS' => ?_⟩) hS ?_
              rotate_left
              · obtain ⟨⟨s0, s1, s2⟩, ⟨s3, s4⟩, ⟨s5, s6⟩, ⟨s7, s8⟩, s9, s10⟩ := hS'
                go_simp
                try rfl
              try simp only [List.getElem_toArray, List.getElem_cons_zero, List.getElem_cons_succ, Act.put, List.setIfInBounds_toArray, List.set_cons_zero, List.set_cons_succ]
              refine wpAnyH_take (i := 4) (v := ?_) rfl (by kernel_rfl) (by kernel_rfl) (by kernel_rfl) (fun _ _ _ h => h) (Or.inl ⟨by rfl, fun w' hS' => ?_⟩) hS ?_
              rotate_left
              · obtain ⟨⟨s0, s1, s2⟩, ⟨s3, s4⟩, ⟨s5, s6⟩, ⟨s7, s8⟩, s9, s10⟩ := hS'
                go_simp
                try rfl
              try simp only [List.getElem_toArray, List.getElem_cons_zero, List.getElem_cons_succ, Act.put, List.setIfInBounds_toArray, List.set_cons_zero, List.set_cons_succ]
              refine wpAnyH_take (i := 5) (v := ?_) rfl (by kernel_rfl) (by kernel_rfl) (by kernel_rfl) (fun _ _ _ h => h) (Or.inl ⟨by rfl, fun w' hS' => ?_⟩) hS ?_
              rotate_left
              · obtain ⟨⟨s0, s1, s2⟩, ⟨s3, s4⟩, ⟨s5, s6⟩, ⟨s7, s8⟩, s9, s10⟩ := hS'
                go_simp
                try rfl
              try simp only [List.getElem_toArray, List.getElem_cons_zero, List.getElem_cons_succ, Act.put, List.setIfInBounds_toArray, List.set_cons_zero, List.set_cons_succ]
              refine wpAnyH_take (i := 6) (v := ?_) rfl (by kernel_rfl) (by kernel_rfl) (by kernel_rfl) (fun _ _ _ h => h) (Or.inl ⟨by rfl, fun w' hS' => ?_⟩) hS ?_
              rotate_left
              · obtain ⟨⟨s0, s1, s2⟩, ⟨s3, s4⟩, ⟨s5, s6⟩, ⟨s7, s8⟩, s9, s10⟩ := hS'
                go_simp
                try rfl
              try simp only [List.getElem_toArray, List.getElem_cons_zero, List.getElem_cons_succ, Act.put, List.setIfInBounds_toArray, List.set_cons_zero, List.set_cons_succ]
              refine wpAnyH_take (i := 7) (v := ?_) rfl (by kernel_rfl) (by kernel_rfl) (by kernel_rfl) (fun _ _ _ h => h) (Or.inl ⟨by rfl, fun w' hS' => ?_⟩) hS ?_
              rotate_left
              · obtain ⟨⟨s0, s1, s2⟩, ⟨s3, s4⟩, ⟨s5, s6⟩, ⟨s7, s8⟩, s9, s10⟩ := hS'
                go_simp
                try rfl
              try simp only [List.getElem_toArray, List.getElem_cons_zero, List.getElem_cons_succ, Act.put, List.setIfInBounds_toArray, List.set_cons_zero, List.set_cons_succ]
              refine wpAnyH_take (i := 8) (v := ?_) rfl (by kernel_rfl) (by kernel_rfl) (by kernel_rfl) (fun _ _ _ h => h) (Or.inl ⟨by rfl, fun w' hS' => ?_⟩) hS ?_
              rotate_left
              · obtain ⟨⟨s0, s1, s2⟩, ⟨s3, s4⟩, ⟨s5, s6⟩, ⟨s7, s8⟩, s9, s10⟩ := hS'
                go_simp
                try rfl
              try simp only [List.getElem_toArray, List.getElem_cons_zero, List.getElem_cons_succ, Act.put, List.setIfInBounds_toArray, List.set_cons_zero, List.set_cons_succ]
              refine wpAnyH_take (i := 9) (v := ?_) rfl (by kernel_rfl) (by kernel_rfl) (by kernel_rfl) (fun _ _ _ h => h) (Or.inl ⟨by rfl, fun w' hS' => ?_⟩) hS ?_
              rotate_left
              · obtain ⟨⟨s0, s1, s2⟩, ⟨s3, s4⟩, ⟨s5, s6⟩, ⟨s7, s8⟩, s9, s10⟩ := hS'
                go_simp
                try rfl
              try simp only [List.getElem_toArray, List.getElem_cons_zero, List.getElem_cons_succ, Act.put, List.setIfInBounds_toArray, List.set_cons_zero, List.set_cons_succ]
              refine wpAnyH_take (i := 10) (v := ?_) rfl (by kernel_rfl) (by kernel_rfl) (by kernel_rfl) (fun _ _ _ h => h) (Or.inl ⟨by rfl, fun w' hS' => ?_⟩) hS ?_
              rotate_left
              · obtain ⟨⟨s0, s1, s2⟩, ⟨s3, s4⟩, ⟨s5, s6⟩, ⟨s7, s8⟩, s9, s10⟩ := hS'
                go_simp
                try rfl
              try simp only [List.getElem_toArray, List.getElem_cons_zero, List.getElem_cons_succ, Act.put, List.setIfInBounds_toArray, List.set_cons_zero, List.set_cons_succ]
              refine wpAnyH_take (i := 11) (v := ?_) rfl (by kernel_rfl) (by kernel_rfl) (by kernel_rfl) (fun _ _ _ h => h) (Or.inl ⟨by rfl, fun w' hS' => ?_⟩) hS ?_
              rotate_left
              · obtain ⟨⟨s0, s1, s2⟩, ⟨s3, s4⟩, ⟨s5, s6⟩, ⟨s7, s8⟩, s9, s10⟩ := hS'
                go_simp
                try rfl
              try simp only [List.getElem_toArray, List.getElem_cons_zero, List.getElem_cons_succ, Act.put, List.setIfInBounds_toArray, List.set_cons_zero, List.set_cons_succ]
              refine wpAnyH_take (i := 12) (v := ?_) rfl (by kernel_rfl) (by kernel_rfl) (by kernel_rfl) (fun _ _ _ h => h) (Or.inl ⟨by rfl, fun w' hS' => ?_⟩) hS ?_
              rotate_left
              · obtain ⟨⟨s0, s1, s2⟩, ⟨s3, s4⟩, ⟨s5, s6⟩, ⟨s7, s8⟩, s9, s10⟩ := hS'
                go_simp
                try rfl
              try simp only [List.getElem_toArray, List.getElem_cons_zero, List.getElem_cons_succ, Act.put, List.setIfInBounds_toArray, List.set_cons_zero, List.set_cons_succ]
              refine wpAnyH_take (i := 13) (v := ?_) rfl (by kernel_rfl) (by kernel_rfl) (by kernel_rfl) (fun _ _ _ h => h) (Or.inl ⟨by rfl, fun w' hS' => ?_⟩) hS ?_
              rotate_left
              · obtain ⟨⟨s0, s1, s2⟩, ⟨s3, s4⟩, ⟨s5, s6⟩, ⟨s7, s8⟩, s9, s10⟩ := hS'
                go_simp
                try rfl
              try simp only [List.getElem_toArray, List.getElem_cons_zero, List.getElem_cons_succ, Act.put, List.setIfInBounds_toArray, List.set_cons_zero, List.set_cons_succ]
              refine wpAnyH_take (i := 14) (v := ?_) rfl (by kernel_rfl) (by kernel_rfl) (by kernel_rfl) (fun _ _ _ h => h) (Or.inl ⟨by rfl, fun w' hS' => ?_⟩) hS ?_
              rotate_left
              · obtain ⟨⟨s0, s1, s2⟩, ⟨s3, s4⟩, ⟨s5, s6⟩, ⟨s7, s8⟩, s9, s10⟩ := hS'
                go_simp
                try rfl
              try simp only [List.getElem_toArray, List.getElem_cons_zero, List.getElem_cons_succ, Act.put, List.setIfInBounds_toArray, List.set_cons_zero, List.set_cons_succ]
              refine wpAnyH_take (i := 15) (v := ?_) rfl (by kernel_rfl) (by kernel_rfl) (by kernel_rfl) (fun _ _ _ h => h) (Or.inl ⟨by rfl, fun w' hS' => ?_⟩) hS ?_
              rotate_left
              · obtain ⟨⟨s0, s1, s2⟩, ⟨s3, s4⟩, ⟨s5, s6⟩, ⟨s7, s8⟩, s9, s10⟩ := hS'
                go_simp
                try rfl
              try simp only [List.getElem_toArray, List.getElem_cons_zero, List.getElem_cons_succ, Act.put, List.setIfInBounds_toArray, List.set_cons_zero, List.set_cons_succ]
              refine wpAnyH_take (i := 16) (v := ?_) rfl (by kernel_rfl) (by kernel_rfl) (by kernel_rfl) (fun _ _ _ h => h) (Or.inl ⟨by rfl, fun w' hS' => ?_⟩) hS ?_
              rotate_left
              · obtain ⟨⟨s0, s1, s2⟩, ⟨s3, s4⟩, ⟨s5, s6⟩, ⟨s7, s8⟩, s9, s10⟩ := hS'
                go_simp
                try rfl
              try simp only [List.getElem_toArray, List.getElem_cons_zero, List.getElem_cons_succ, Act.put, List.setIfInBounds_toArray, List.set_cons_zero, List.set_cons_succ]
              refine wpAnyH_take (i := 17) (v := ?_) rfl (by kernel_rfl) (by kernel_rfl) (by kernel_rfl) (fun _ _ _ h => h) (Or.inl ⟨by rfl, fun w' hS' => ?_⟩) hS ?_
              rotate_left
              · obtain ⟨⟨s0, s1, s2⟩, ⟨s3, s4⟩, ⟨s5, s6⟩, ⟨s7, s8⟩, s9, s10⟩ := hS'
                go_simp
                try rfl
              try simp only [List.getElem_toArray, List.getElem_cons_zero, List.getElem_cons_succ, Act.put, List.setIfInBounds_toArray, List.set_cons_zero, List.set_cons_succ]
              refine wpAnyH_take (i := 18) (v := ?_) rfl (by kernel_rfl) (by kernel_rfl) (by kernel_rfl) (fun _ _ _ h => h) (Or.inl ⟨by rfl, fun w' hS' => ?_⟩) hS ?_
              rotate_left
              · obtain ⟨⟨s0, s1, s2⟩, ⟨s3, s4⟩, ⟨s5, s6⟩, ⟨s7, s8⟩, s9, s10⟩ := hS'
                go_simp
                try rfl
              try simp only [List.getElem_toArray, List.getElem_cons_zero, List.getElem_cons_succ, Act.put, List.setIfInBounds_toArray, List.set_cons_zero, List.set_cons_succ]
              refine wpAnyH_take (i := 19) (v := ?_) rfl (by kernel_rfl) (by kernel_rfl) (by kernel_rfl) (fun _ _ _ h => h) (Or.inl ⟨by rfl, fun w' hS' => ?_⟩) hS ?_
              rotate_left
              · obtain ⟨⟨s0, s1, s2⟩, ⟨s3, s4⟩, ⟨s5, s6⟩, ⟨s7, s8⟩, s9, s10⟩ := hS'
                go_simp
                try rfl
              try simp only [List.getElem_toArray, List.getElem_cons_zero, List.getElem_cons_succ, Act.put, List.setIfInBounds_toArray, List.set_cons_zero, List.set_cons_succ]
              refine wpAnyH_take (i := 20) (v := ?_) rfl (by kernel_rfl) (by kernel_rfl) (by kernel_rfl) (fun _ _ _ h => h) (Or.inl ⟨by rfl, fun w' hS' => ?_⟩) hS ?_
              rotate_left
              · obtain ⟨⟨s0, s1, s2⟩, ⟨s3, s4⟩, ⟨s5, s6⟩, ⟨s7, s8⟩, s9, s10⟩ := hS'
                go_simp
                try rfl
              try simp only [List.getElem_toArray, List.getElem_cons_zero, List.getElem_cons_succ, Act.put, List.setIfInBounds_toArray, List.set_cons_zero, List.set_cons_succ]
              refine wpAnyH_take (i := 21) (v := ?_) rfl (by kernel_rfl) (by kernel_rfl) (by kernel_rfl) (fun _ _ _ h => h) (Or.inl ⟨by rfl, fun w' hS' => ?_⟩) hS ?_
              rotate_left
              · obtain ⟨⟨s0, s1, s2⟩, ⟨s3, s4⟩, ⟨s5, s6⟩, ⟨s7, s8⟩, s9, s10⟩ := hS'
                go_simp
                try rfl
              try simp only [List.getElem_toArray, List.getElem_cons_zero, List.getElem_cons_succ, Act.put, List.setIfInBounds_toArray, List.set_cons_zero, List.set_cons_succ]
              refine wpAnyH_take (i := 22) (v := ?_) rfl (by kernel_rfl) (by kernel_rfl) (by kernel_rfl) (fun _ _ _ h => h) (Or.inl ⟨by rfl, fun w' hS' => ?_⟩) hS ?_
              rotate_left
              · obtain ⟨⟨s0, s1, s2⟩, ⟨s3, s4⟩, ⟨s5, s6⟩, ⟨s7, s8⟩, s9, s10⟩ := hS'
                go_simp
                try rfl
              try simp only [List.getElem_toArray, List.getElem_cons_zero, List.getElem_cons_succ, Act.put, List.setIfInBounds_toArray, List.set_cons_zero, List.set_cons_succ]
              clear hS
              refine wpAnyH_done (by kernel_rfl) ?_ _
              unfold NormQ
              dsimp only [Exit.then]
              have HNZ := Lib.hid (HNW.out.trans nw7)
              go_wp2_with fail
              go_ret2
              exact ⟨0, 32, rfl, HNZ.out, .inr ⟨HLE.out, .inr (.inr ⟨(by simpa [beg] using HLQ.out), rfl, rfl⟩)⟩⟩
          · rw [decide_eq_false hE] at hn1
            have HLQ : Hid (¬LeadsP s l (⟨-1, 0⟩ : Rf) (⟨rl, rn⟩ : Rf)) := Lib.hid fun h => hE (HLP.out.1 h).1
            clear hE HLP
            simp only [Bool.not_false] at hn1
            go_wp2_with fail
            refine region_plain (by kernel_rfl) (wpAny_of_held (S := (fun w' => ((w'.cell? ⟨w.heap.size, 0, none⟩ = some (.slice A s.tracks.length c) ∧ w'.cell? ⟨w.heap.size, 1, none⟩ = some (.slice D s.ties.length d) ∧ w'.cell? ⟨w.heap.size, 2, none⟩ = some (.int .i64 s.window)) ∧ (w'.cell? ⟨lb, lo + j * 7 + 2, none⟩ = some (.int .i64 jtl) ∧ w'.cell? ⟨lb, lo + j * 7 + 3, none⟩ = some (.int .i64 jtn)) ∧ (w'.cell? ⟨lb, lo, none⟩ = some (.int .i64 zfl) ∧ w'.cell? ⟨lb, lo + 1, none⟩ = some (.int .i64 zfn)) ∧ (w'.cell? ⟨bf, 0, none⟩ = some (.int .i64 (-1)) ∧ w'.cell? ⟨bf, 1, none⟩ = some (.int .i64 0)) ∧ (w'.cell? ⟨bt, 0, none⟩ = some (.int .i64 rl) ∧ w'.cell? ⟨bt, 1, none⟩ = some (.int .i64 rn))))) _ _ _ _ ?_)
            change wpAnyH _ _ _ _ _ _ _ _ W1.drew
            have hS := HSD.out W1.drew (New.refl W1).drew
            refine wpAnyH_take (i := 0) (v := ?_) rfl (by kernel_rfl) (by kernel_rfl) (by kernel_rfl) (fun _ _ _ h => h) (Or.inl ⟨by rfl, fun w' hS' => ?_⟩) hS ?_
            rotate_left
            · obtain ⟨⟨s0, s1, s2⟩, ⟨s3, s4⟩, ⟨s5, s6⟩, ⟨s7, s8⟩, s9, s10⟩ := hS'
              go_simp
              try rfl
            try simp only [List.getElem_toArray, List.getElem_cons_zero, Act.put, List.setIfInBounds_toArray, List.set_cons_zero, List.set_cons_succ]
            refine wpAnyH_take (i := 1) (v := ?_) rfl (by kernel_rfl) (by kernel_rfl) (by kernel_rfl) (fun _ _ _ h => h) (Or.inl ⟨by rfl, fun w' hS' => ?_⟩) hS ?_
            rotate_left
            · obtain ⟨⟨s0, s1, s2⟩, ⟨s3, s4⟩, ⟨s5, s6⟩, ⟨s7, s8⟩, s9, s10⟩ := hS'
              go_simp
              try rfl
            try simp only [List.getElem_toArray, List.getElem_cons_zero, List.getElem_cons_succ, Act.put, List.setIfInBounds_toArray, List.set_cons_zero, List.set_cons_succ]
            clear hS
            refine wpAnyH_ready (rs := [2]) (by kernel_rfl) (by simp) ?_
            refine AllReadyH.cons rfl (fun K hK => ?_) AllReadyH.nil
            go_simp
            refine (HCT.out _ ((New.refl W1).drew)).mono ?_
            rintro e w7 ⟨rfl, mw7⟩
            have nw7 := ((New.refl W1).drew).trans mw7
            refine hK.out _ _ (HSD.out w7 nw7) (fun hS => ?_)
            clear hK K
            try simp only [List.getElem_toArray, List.getElem_cons_zero, List.getElem_cons_succ, Act.put, List.setIfInBounds_toArray, List.set_cons_zero, List.set_cons_succ]
            refine wpAnyH_take (i := 3) (v := ?_) rfl (by kernel_rfl) (by kernel_rfl) (by kernel_rfl) (fun _ _ _ h => h) (Or.inl ⟨by rfl, fun w' hS' => ?_⟩) hS ?_
            rotate_left
            · obtain ⟨⟨s0, s1, s2⟩, ⟨s3, s4⟩, ⟨s5, s6⟩, ⟨s7, s8⟩, s9, s10⟩ := hS'
              go_simp
              try rfl
            try simp only [List.getElem_toArray, List.getElem_cons_zero, List.getElem_cons_succ, Act.put, List.setIfInBounds_toArray, List.set_cons_zero, List.set_cons_succ]
            refine wpAnyH_take (i := 4) (v := ?_) rfl (by kernel_rfl) (by kernel_rfl) (by kernel_rfl) (fun _ _ _ h => h) (Or.inl ⟨by rfl, fun w' hS' => ?_⟩) hS ?_
            rotate_left
            · obtain ⟨⟨s0, s1, s2⟩, ⟨s3, s4⟩, ⟨s5, s6⟩, ⟨s7, s8⟩, s9, s10⟩ := hS'
              go_simp
              try rfl
            try simp only [List.getElem_toArray, List.getElem_cons_zero, List.getElem_cons_succ, Act.put, List.setIfInBounds_toArray, List.set_cons_zero, List.set_cons_succ]
            refine wpAnyH_take (i := 5) (v := ?_) rfl (by kernel_rfl) (by kernel_rfl) (by kernel_rfl) (fun _ _ _ h => h) (Or.inl ⟨by rfl, fun w' hS' => ?_⟩) hS ?_
            rotate_left
            · obtain ⟨⟨s0, s1, s2⟩, ⟨s3, s4⟩, ⟨s5, s6⟩, ⟨s7, s8⟩, s9, s10⟩ := hS'
              go_simp
              try rfl
            try simp only [List.getElem_toArray, List.getElem_cons_zero, List.getElem_cons_succ, Act.put, List.setIfInBounds_toArray, List.set_cons_zero, List.set_cons_succ]
            refine wpAnyH_take (i := 6) (v := ?_) rfl (by kernel_rfl) (by kernel_rfl) (by kernel_rfl) (fun _ _ _ h => h) (Or.inl ⟨by rfl, fun w' hS' => ?_⟩) hS ?_
            rotate_left
            · obtain ⟨⟨s0, s1, s2⟩, ⟨s3, s4⟩, ⟨s5, s6⟩, ⟨s7, s8⟩, s9, s10⟩ := hS'
              go_simp
              try rfl
            try simp only [List.getElem_toArray, List.getElem_cons_zero, List.getElem_cons_succ, Act.put, List.setIfInBounds_toArray, List.set_cons_zero, List.set_cons_succ]
            refine wpAnyH_take (i := 7) (v := ?_) rfl (by kernel_rfl) (by kernel_rfl) (by kernel_rfl) (fun _ _ _ h => h) (Or.inl ⟨by rfl, fun w' hS' => ?_⟩) hS ?_
            rotate_left
            · obtain ⟨⟨s0, s1, s2⟩, ⟨s3, s4⟩, ⟨s5, s6⟩, ⟨s7, s8⟩, s9, s10⟩ := hS'
              go_simp
              try rfl
            try simp only [List.getElem_toArray, List.getElem_cons_zero, List.getElem_cons_succ, Act.put, List.setIfInBounds_toArray, List.set_cons_zero, List.set_cons_succ]
            refine wpAnyH_take (i := 8) (v := ?_) rfl (by kernel_rfl) (by kernel_rfl) (by kernel_rfl) (fun _ _ _ h => h) (Or.inl ⟨by rfl, fun w' hS' => ?_⟩) hS ?_
            rotate_left
            · obtain ⟨⟨s0, s1, s2⟩, ⟨s3, s4⟩, ⟨s5, s6⟩, ⟨s7, s8⟩, s9, s10⟩ := hS'
              go_simp
              try rfl
            try simp only [List.getElem_toArray, List.getElem_cons_zero, List.getElem_cons_succ, Act.put, List.setIfInBounds_toArray, List.set_cons_zero, List.set_cons_succ]
            refine wpAnyH_take (i := 9) (v := ?_) rfl (by kernel_rfl) (by kernel_rfl) (by kernel_rfl) (fun _ _ _ h => h) (Or.inl ⟨by rfl, fun w' hS' => ?_⟩) hS ?_
            rotate_left
            · obtain ⟨⟨s0, s1, s2⟩, ⟨s3, s4⟩, ⟨s5, s6⟩, ⟨s7, s8⟩, s9, s10⟩ := hS'
              go_simp
              try rfl
            try simp only [List.getElem_toArray, List.getElem_cons_zero, List.getElem_cons_succ, Act.put, List.setIfInBounds_toArray, List.set_cons_zero, List.set_cons_succ]
            refine wpAnyH_take (i := 10) (v := ?_) rfl (by kernel_rfl) (by kernel_rfl) (by kernel_rfl) (fun _ _ _ h => h) (Or.inl ⟨by rfl, fun w' hS' => ?_⟩) hS ?_
            rotate_left
            · obtain ⟨⟨s0, s1, s2⟩, ⟨s3, s4⟩, ⟨s5, s6⟩, ⟨s7, s8⟩, s9, s10⟩ := hS'
              go_simp
              try rfl
            try simp only [List.getElem_toArray, List.getElem_cons_zero, List.getElem_cons_succ, Act.put, List.setIfInBounds_toArray, List.set_cons_zero, List.set_cons_succ]
            refine wpAnyH_take (i := 11) (v := ?_) rfl (by kernel_rfl) (by kernel_rfl) (by kernel_rfl) (fun _ _ _ h => h) (Or.inl ⟨by rfl, fun w' hS' => ?_⟩) hS ?_
            rotate_left
            · obtain ⟨⟨s0, s1, s2⟩, ⟨s3, s4⟩, ⟨s5, s6⟩, ⟨s7, s8⟩, s9, s10⟩ := hS'
              go_simp
              try rfl
            try simp only [List.getElem_toArray, List.getElem_cons_zero, List.getElem_cons_succ, Act.put, List.setIfInBounds_toArray, List.set_cons_zero, List.set_cons_succ]
            refine wpAnyH_take (i := 12) (v := ?_) rfl (by kernel_rfl) (by kernel_rfl) (by kernel_rfl) (fun _ _ _ h => h) (Or.inl ⟨by rfl, fun w' hS' => ?_⟩) hS ?_
            rotate_left
            · obtain ⟨⟨s0, s1, s2⟩, ⟨s3, s4⟩, ⟨s5, s6⟩, ⟨s7, s8⟩, s9, s10⟩ := hS'
              go_simp
              try rfl
            try simp only [List.getElem_toArray, List.getElem_cons_zero, List.getElem_cons_succ, Act.put, List.setIfInBounds_toArray, List.set_cons_zero, List.set_cons_succ]
            refine wpAnyH_take (i := 13) (v := undef) rfl (by kernel_rfl) (by kernel_rfl) (by kernel_rfl) (fun _ _ _ h => h) (Or.inr ⟨by rfl, rfl⟩) hS ?_
            try simp only [List.getElem_toArray, List.getElem_cons_zero, List.getElem_cons_succ, Act.put, List.setIfInBounds_toArray, List.set_cons_zero, List.set_cons_succ]
            refine wpAnyH_take (i := 14) (v := undef) rfl (by kernel_rfl) (by kernel_rfl) (by kernel_rfl) (fun _ _ _ h => h) (Or.inr ⟨by rfl, rfl⟩) hS ?_
            try simp only [List.getElem_toArray, List.getElem_cons_zero, List.getElem_cons_succ, Act.put, List.setIfInBounds_toArray, List.set_cons_zero, List.set_cons_succ]
            refine wpAnyH_take (i := 15) (v := undef) rfl (by kernel_rfl) (by kernel_rfl) (by kernel_rfl) (fun _ _ _ h => h) (Or.inr ⟨by rfl, rfl⟩) hS ?_
            try simp only [List.getElem_toArray, List.getElem_cons_zero, List.getElem_cons_succ, Act.put, List.setIfInBounds_toArray, List.set_cons_zero, List.set_cons_succ]
            refine wpAnyH_take (i := 16) (v := undef) rfl (by kernel_rfl) (by kernel_rfl) (by kernel_rfl) (fun _ _ _ h => h) (Or.inr ⟨by rfl, rfl⟩) hS ?_
            try simp only [List.getElem_toArray, List.getElem_cons_zero, List.getElem_cons_succ, Act.put, List.setIfInBounds_toArray, List.set_cons_zero, List.set_cons_succ]
            refine wpAnyH_take (i := 17) (v := undef) rfl (by kernel_rfl) (by kernel_rfl) (by kernel_rfl) (fun _ _ _ h => h) (Or.inr ⟨by rfl, rfl⟩) hS ?_
            try simp only [List.getElem_toArray, List.getElem_cons_zero, List.getElem_cons_succ, Act.put, List.setIfInBounds_toArray, List.set_cons_zero, List.set_cons_succ]
            refine wpAnyH_take (i := 18) (v := undef) rfl (by kernel_rfl) (by kernel_rfl) (by kernel_rfl) (fun _ _ _ h => h) (Or.inr ⟨by rfl, rfl⟩) hS ?_
            try simp only [List.getElem_toArray, List.getElem_cons_zero, List.getElem_cons_succ, Act.put, List.setIfInBounds_toArray, List.set_cons_zero, List.set_cons_succ]
            refine wpAnyH_take (i := 19) (v := undef) rfl (by kernel_rfl) (by kernel_rfl) (by kernel_rfl) (fun _ _ _ h => h) (Or.inr ⟨by rfl, rfl⟩) hS ?_
            try simp only [List.getElem_toArray, List.getElem_cons_zero, List.getElem_cons_succ, Act.put, List.setIfInBounds_toArray, List.set_cons_zero, List.set_cons_succ]
            refine wpAnyH_take (i := 20) (v := undef) rfl (by kernel_rfl) (by kernel_rfl) (by kernel_rfl) (fun _ _ _ h => h) (Or.inr ⟨by rfl, rfl⟩) hS ?_
            try simp only [List.getElem_toArray, List.getElem_cons_zero, List.getElem_cons_succ, Act.put, List.setIfInBounds_toArray, List.set_cons_zero, List.set_cons_succ]
            refine wpAnyH_take (i := 21) (v := undef) rfl (by kernel_rfl) (by kernel_rfl) (by kernel_rfl) (fun _ _ _ h => h) (Or.inr ⟨by rfl, rfl⟩) hS ?_
            try simp only [List.getElem_toArray, List.getElem_cons_zero, List.getElem_cons_succ, Act.put, List.setIfInBounds_toArray, List.set_cons_zero, List.set_cons_succ]
            refine wpAnyH_take (i := 22) (v := ?_) rfl (by kernel_rfl) (by kernel_rfl) (by kernel_rfl) (fun _ _ _ h => h) (Or.inl ⟨by rfl, fun w' hS' => ?_⟩) hS ?_
            rotate_left
            · obtain ⟨⟨s0, s1, s2⟩, ⟨s3, s4⟩, ⟨s5, s6⟩, ⟨s7, s8⟩, s9, s10⟩ := hS'
              go_simp
              try rfl
            try simp only [List.getElem_toArray, List.getElem_cons_zero, List.getElem_cons_succ, Act.put, List.setIfInBounds_toArray, List.set_cons_zero, List.set_cons_succ]
            clear hS
            refine wpAnyH_done (by kernel_rfl) ?_ _
            unfold NormQ
            dsimp only [Exit.then]
            have HNZ := Lib.hid (HNW.out.trans nw7)
            go_wp2_with fail
            go_ret2
            exact ⟨0, 32, rfl, HNZ.out, .inr ⟨HLE.out, .inr (.inr ⟨(by simpa [beg] using HLQ.out), rfl, rfl⟩)⟩⟩
        · have HLQ : Hid (¬LeadsP s l (⟨-1, 0⟩ : Rf) (⟨rl, rn⟩ : Rf)) := Lib.hid fun h => hch (chn_leads.1 h).1
          have HCF : Hid (∀ w', New W1 w' → Calls Tryd.prog 93 #[.agg #[.slice A s.tracks.length c, .slice D s.ties.length d, .int .i64 s.window], .slice L l.length lc] w' fun e w'' => e = .returned (.bool false) ∧ New w' w'') := Lib.hid fun w' h => (HCH.out w' h).mono (by
            rintro e w'' ⟨⟨h1, -⟩ | ⟨-, h1⟩, h2⟩
            · exact absurd h1 hch
            · exact ⟨h1, h2⟩)
          have HSD : Hid (∀ w', New W1 w' → (fun w' => (w'.cell? ⟨w.heap.size, 0, none⟩ = some (.slice A s.tracks.length c) ∧ w'.cell? ⟨w.heap.size, 1, none⟩ = some (.slice D s.ties.length d) ∧ w'.cell? ⟨w.heap.size, 2, none⟩ = some (.int .i64 s.window))) w') := Lib.hid fun w' h => ⟨(HA0.out.keep h).cell rfl, (HA0.out.keep h).cell rfl, (HA0.out.keep h).cell rfl⟩
          dsimp only at HSD
          clear hch HCH
          go_wp2_with fail
          refine region_plain (by kernel_rfl) (wpAny_of_held (S := (fun w' => (w'.cell? ⟨w.heap.size, 0, none⟩ = some (.slice A s.tracks.length c) ∧ w'.cell? ⟨w.heap.size, 1, none⟩ = some (.slice D s.ties.length d) ∧ w'.cell? ⟨w.heap.size, 2, none⟩ = some (.int .i64 s.window)))) _ _ _ _ ?_)
          change wpAnyH _ _ _ _ _ _ _ _ W1.drew
          have hS := HSD.out W1.drew (New.refl W1).drew
          refine wpAnyH_take (i := 0) (v := ?_) rfl (by kernel_rfl) (by kernel_rfl) (by kernel_rfl) (fun _ _ _ h => h) (Or.inl ⟨by rfl, fun w' hS' => ?_⟩) hS ?_
          rotate_left
          · obtain ⟨s0, s1, s2⟩ := hS'
            go_simp
            try rfl
          try simp only [List.getElem_toArray, List.getElem_cons_zero, Act.put, List.setIfInBounds_toArray, List.set_cons_zero, List.set_cons_succ]
          refine wpAnyH_take (i := 1) (v := ?_) rfl (by kernel_rfl) (by kernel_rfl) (by kernel_rfl) (fun _ _ _ h => h) (Or.inl ⟨by rfl, fun w' hS' => ?_⟩) hS ?_
          rotate_left
          · obtain ⟨s0, s1, s2⟩ := hS'
            go_simp
            try rfl
          try simp only [List.getElem_toArray, List.getElem_cons_zero, List.getElem_cons_succ, Act.put, List.setIfInBounds_toArray, List.set_cons_zero, List.set_cons_succ]
          clear hS
          refine wpAnyH_ready (rs := [2]) (by kernel_rfl) (by simp) ?_
          refine AllReadyH.cons rfl (fun K hK => ?_) AllReadyH.nil
          go_simp
          refine (HCF.out _ ((New.refl W1).drew)).mono ?_
          rintro e w7 ⟨rfl, mw7⟩
          have nw7 := ((New.refl W1).drew).trans mw7
          refine hK.out _ _ (HSD.out w7 nw7) (fun hS => ?_)
          clear hK K
          try simp only [List.getElem_toArray, List.getElem_cons_zero, List.getElem_cons_succ, Act.put, List.setIfInBounds_toArray, List.set_cons_zero, List.set_cons_succ]
          refine wpAnyH_take (i := 3) (v := ?_) rfl (by kernel_rfl) (by kernel_rfl) (by kernel_rfl) (fun _ _ _ h => h) (Or.inl ⟨by rfl, fun w' hS' => ?_⟩) hS ?_
          rotate_left
          · obtain ⟨s0, s1, s2⟩ := hS'
            go_simp
            try rfl
          try simp only [List.getElem_toArray, List.getElem_cons_zero, List.getElem_cons_succ, Act.put, List.setIfInBounds_toArray, List.set_cons_zero, List.set_cons_succ]
          refine wpAnyH_take (i := 4) (v := ?_) rfl (by kernel_rfl) (by kernel_rfl) (by kernel_rfl) (fun _ _ _ h => h) (Or.inl ⟨by rfl, fun w' hS' => ?_⟩) hS ?_
          rotate_left
          · obtain ⟨s0, s1, s2⟩ := hS'
            go_simp
            try rfl
          try simp only [List.getElem_toArray, List.getElem_cons_zero, List.getElem_cons_succ, Act.put, List.setIfInBounds_toArray, List.set_cons_zero, List.set_cons_succ]
          refine wpAnyH_take (i := 5) (v := undef) rfl (by kernel_rfl) (by kernel_rfl) (by kernel_rfl) (fun _ _ _ h => h) (Or.inr ⟨by rfl, rfl⟩) hS ?_
          try simp only [List.getElem_toArray, List.getElem_cons_zero, List.getElem_cons_succ, Act.put, List.setIfInBounds_toArray, List.set_cons_zero, List.set_cons_succ]
          refine wpAnyH_take (i := 6) (v := undef) rfl (by kernel_rfl) (by kernel_rfl) (by kernel_rfl) (fun _ _ _ h => h) (Or.inr ⟨by rfl, rfl⟩) hS ?_
          try simp only [List.getElem_toArray, List.getElem_cons_zero, List.getElem_cons_succ, Act.put, List.setIfInBounds_toArray, List.set_cons_zero, List.set_cons_succ]
          refine wpAnyH_take (i := 7) (v := undef) rfl (by kernel_rfl) (by kernel_rfl) (by kernel_rfl) (fun _ _ _ h => h) (Or.inr ⟨by rfl, rfl⟩) hS ?_
          try simp only [List.getElem_toArray, List.getElem_cons_zero, List.getElem_cons_succ, Act.put, List.setIfInBounds_toArray, List.set_cons_zero, List.set_cons_succ]
          refine wpAnyH_take (i := 8) (v := undef) rfl (by kernel_rfl) (by kernel_rfl) (by kernel_rfl) (fun _ _ _ h => h) (Or.inr ⟨by rfl, rfl⟩) hS ?_
          try simp only [List.getElem_toArray, List.getElem_cons_zero, List.getElem_cons_succ, Act.put, List.setIfInBounds_toArray, List.set_cons_zero, List.set_cons_succ]
          refine wpAnyH_take (i := 9) (v := undef) rfl (by kernel_rfl) (by kernel_rfl) (by kernel_rfl) (fun _ _ _ h => h) (Or.inr ⟨by rfl, rfl⟩) hS ?_
          try simp only [List.getElem_toArray, List.getElem_cons_zero, List.getElem_cons_succ, Act.put, List.setIfInBounds_toArray, List.set_cons_zero, List.set_cons_succ]
          refine wpAnyH_take (i := 10) (v := undef) rfl (by kernel_rfl) (by kernel_rfl) (by kernel_rfl) (fun _ _ _ h => h) (Or.inr ⟨by rfl, rfl⟩) hS ?_
          try simp only [List.getElem_toArray, List.getElem_cons_zero, List.getElem_cons_succ, Act.put, List.setIfInBounds_toArray, List.set_cons_zero, List.set_cons_succ]
          refine wpAnyH_take (i := 11) (v := ?_) rfl (by kernel_rfl) (by kernel_rfl) (by kernel_rfl) (fun _ _ _ h => h) (Or.inl ⟨by rfl, fun w' hS' => ?_⟩) hS ?_
          rotate_left
          · obtain ⟨s0, s1, s2⟩ := hS'
            go_simp
            try rfl
          try simp only [List.getElem_toArray, List.getElem_cons_zero, List.getElem_cons_succ, Act.put, List.setIfInBounds_toArray, List.set_cons_zero, List.set_cons_succ]
          refine wpAnyH_take (i := 12) (v := ?_) rfl (by kernel_rfl) (by kernel_rfl) (by kernel_rfl) (fun _ _ _ h => h) (Or.inl ⟨by rfl, fun w' hS' => ?_⟩) hS ?_
          rotate_left
          · obtain ⟨s0, s1, s2⟩ := hS'
            go_simp
            try rfl
          try simp only [List.getElem_toArray, List.getElem_cons_zero, List.getElem_cons_succ, Act.put, List.setIfInBounds_toArray, List.set_cons_zero, List.set_cons_succ]
          refine wpAnyH_take (i := 13) (v := undef) rfl (by kernel_rfl) (by kernel_rfl) (by kernel_rfl) (fun _ _ _ h => h) (Or.inr ⟨by rfl, rfl⟩) hS ?_
          try simp only [List.getElem_toArray, List.getElem_cons_zero, List.getElem_cons_succ, Act.put, List.setIfInBounds_toArray, List.set_cons_zero, List.set_cons_succ]
          refine wpAnyH_take (i := 14) (v := undef) rfl (by kernel_rfl) (by kernel_rfl) (by kernel_rfl) (fun _ _ _ h => h) (Or.inr ⟨by rfl, rfl⟩) hS ?_
          try simp only [List.getElem_toArray, List.getElem_cons_zero, List.getElem_cons_succ, Act.put, List.setIfInBounds_toArray, List.set_cons_zero, List.set_cons_succ]
          refine wpAnyH_take (i := 15) (v := undef) rfl (by kernel_rfl) (by kernel_rfl) (by kernel_rfl) (fun _ _ _ h => h) (Or.inr ⟨by rfl, rfl⟩) hS ?_
          try simp only [List.getElem_toArray, List.getElem_cons_zero, List.getElem_cons_succ, Act.put, List.setIfInBounds_toArray, List.set_cons_zero, List.set_cons_succ]
          refine wpAnyH_take (i := 16) (v := undef) rfl (by kernel_rfl) (by kernel_rfl) (by kernel_rfl) (fun _ _ _ h => h) (Or.inr ⟨by rfl, rfl⟩) hS ?_
          try simp only [List.getElem_toArray, List.getElem_cons_zero, List.getElem_cons_succ, Act.put, List.setIfInBounds_toArray, List.set_cons_zero, List.set_cons_succ]
          refine wpAnyH_take (i := 17) (v := undef) rfl (by kernel_rfl) (by kernel_rfl) (by kernel_rfl) (fun _ _ _ h => h) (Or.inr ⟨by rfl, rfl⟩) hS ?_
          try simp only [List.getElem_toArray, List.getElem_cons_zero, List.getElem_cons_succ, Act.put, List.setIfInBounds_toArray, List.set_cons_zero, List.set_cons_succ]
          refine wpAnyH_take (i := 18) (v := undef) rfl (by kernel_rfl) (by kernel_rfl) (by kernel_rfl) (fun _ _ _ h => h) (Or.inr ⟨by rfl, rfl⟩) hS ?_
          try simp only [List.getElem_toArray, List.getElem_cons_zero, List.getElem_cons_succ, Act.put, List.setIfInBounds_toArray, List.set_cons_zero, List.set_cons_succ]
          refine wpAnyH_take (i := 19) (v := undef) rfl (by kernel_rfl) (by kernel_rfl) (by kernel_rfl) (fun _ _ _ h => h) (Or.inr ⟨by rfl, rfl⟩) hS ?_
          try simp only [List.getElem_toArray, List.getElem_cons_zero, List.getElem_cons_succ, Act.put, List.setIfInBounds_toArray, List.set_cons_zero, List.set_cons_succ]
          refine wpAnyH_take (i := 20) (v := undef) rfl (by kernel_rfl) (by kernel_rfl) (by kernel_rfl) (fun _ _ _ h => h) (Or.inr ⟨by rfl, rfl⟩) hS ?_
          try simp only [List.getElem_toArray, List.getElem_cons_zero, List.getElem_cons_succ, Act.put, List.setIfInBounds_toArray, List.set_cons_zero, List.set_cons_succ]
          refine wpAnyH_take (i := 21) (v := undef) rfl (by kernel_rfl) (by kernel_rfl) (by kernel_rfl) (fun _ _ _ h => h) (Or.inr ⟨by rfl, rfl⟩) hS ?_
          try simp only [List.getElem_toArray, List.getElem_cons_zero, List.getElem_cons_succ, Act.put, List.setIfInBounds_toArray, List.set_cons_zero, List.set_cons_succ]
          refine wpAnyH_take (i := 22) (v := ?_) rfl (by kernel_rfl) (by kernel_rfl) (by kernel_rfl) (fun _ _ _ h => h) (Or.inl ⟨by rfl, fun w' hS' => ?_⟩) hS ?_
          rotate_left
          · obtain ⟨s0, s1, s2⟩ := hS'
            go_simp
            try rfl
          try simp only [List.getElem_toArray, List.getElem_cons_zero, List.getElem_cons_succ, Act.put, List.setIfInBounds_toArray, List.set_cons_zero, List.set_cons_succ]
          clear hS
          refine wpAnyH_done (by kernel_rfl) ?_ _
          unfold NormQ
          dsimp only [Exit.then]
          have HNZ := Lib.hid (HNW.out.trans nw7)
          go_wp2_with fail
          go_ret2
          exact ⟨0, 32, rfl, HNZ.out, .inr ⟨HLE.out, .inr (.inr ⟨(by simpa [beg] using HLQ.out), rfl, rfl⟩)⟩⟩
      | false =>
        have e0 := (HZ1.out.keep (HFN.out.trans HTN.out)).cell (i := 0) rfl
        have e1 := (HZ1.out.keep (HFN.out.trans HTN.out)).cell (i := 1) rfl
        have HFX := HF1.out.keep HTN.out
        have g0 := HFX.cell (i := 0) rfl
        have g1 := HFX.cell (i := 1) rfl
        have fr0 := HFX.free 0
        have fr1 := HFX.free 1
        have KF1 := Lib.hid (RowIs.new w3 53 [.int .i64 rl, .int .i64 rn])
        have KFN := Lib.hid ((New.refl w3).alloc (.cells #[.int .i64 rl, .int .i64 rn] 53))
        have KT1 := RowIs.new (w3.alloc (.cells #[.int .i64 rl, .int .i64 rn] 53)) 53 [.int .i64 rl, .int .i64 rn]
        simp only [World.size_alloc] at KT1
        have KT1 := Lib.hid KT1
        have KTN := Lib.hid ((New.refl (w3.alloc (.cells #[.int .i64 rl, .int .i64 rn] 53))).alloc (.cells #[.int .i64 rl, .int .i64 rn] 53))
        clear HFX
        go_wp2_with fail
        clear d0 d1 q1 e0 e1 g0 g1 fr0 fr1
        refine (rf_Beginning _).mono ?_
        rintro e w4 ⟨rfl, m4⟩
        have HK4 := Lib.hid (KFN.out.trans (KTN.out.trans m4))
        have HT4 := Lib.hid (KT1.out.keep m4)
        have HF4 := Lib.hid (KF1.out.keep (KTN.out.trans m4))
        have t0 := HT4.out.cell (i := 0) rfl
        have t1 := HT4.out.cell (i := 1) rfl
        have fr0 := HT4.out.free 0
        have fr1 := HT4.out.free 1
        clear m4
        go_wp2_with fail
        have hsz := HN3.out.size
        have HNW := Lib.hid (((HN3.out.trans HK4.out).setCell (p := ⟨w3.heap.size + 1, 0, none⟩) (by show w.heap.size ≤ w3.heap.size + 1; omega) (.int .i64 (-1))).setCell (p := ⟨w3.heap.size + 1, 1, none⟩) (by show w.heap.size ≤ w3.heap.size + 1; omega) (.int .i64 0))
        have HT := Lib.hid ((HT4.out.put 0 (.int .i64 (-1))).put 1 (.int .i64 0))
        have HF := Lib.hid ((HF4.out.other (k := w3.heap.size + 1) (by omega) 0 (.int .i64 (-1))).other (k := w3.heap.size + 1) (by omega) 1 (.int .i64 0))
        have hb1 := HZ0.out.lt
        have HA0 := Lib.hid (((HZ0.out.keep HK4.out).other (k := w3.heap.size + 1) (by omega) 0 (.int .i64 (-1))).other (k := w3.heap.size + 1) (by omega) 1 (.int .i64 0))
        clear t0 t1 fr0 fr1 hsz hb1 HF4 HT4 HK4 KF1 KFN KT1 KTN
        generalize (w4.setCell ⟨w3.heap.size + 1, 0, none⟩ (.int .i64 (-1))).setCell ⟨w3.heap.size + 1, 1, none⟩ (.int .i64 0) = W1 at *
        generalize w3.heap.size + 1 = bt at *
        generalize w3.heap.size = bf at *
        have HCH : Hid (∀ w', New W1 w' → _) := Lib.hid fun w' h => rf_chained s HS.out l A D L c d lc w' (HM.out.keep (HNW.out.trans h)) (HL.out.keep (HNW.out.trans h))
        by_cases hch : Chn s l
        · have hl1 := hch.1
          have HCT : Hid (∀ w', New W1 w' → Calls Tryd.prog 93 #[.agg #[.slice A s.tracks.length c, .slice D s.ties.length d, .int .i64 s.window], .slice L l.length lc] w' fun e w'' => e = .returned (.bool true) ∧ New w' w'') := Lib.hid fun w' h => (HCH.out w' h).mono (by
            rintro e w'' ⟨⟨-, h1⟩ | ⟨h1, -⟩, h2⟩
            · exact ⟨h1, h2⟩
            · exact absurd hch h1)
          have HLP : Hid (LeadsP s l (⟨rl, rn⟩ : Rf) (⟨-1, 0⟩ : Rf) ↔ (l[0]?.getD default).frm = (⟨rl, rn⟩ : Rf) ∧ (l[l.length - 1]?.getD default).to = (⟨-1, 0⟩ : Rf)) := Lib.hid (chn_leads.trans ⟨fun h => h.2, fun h => ⟨hch, h⟩⟩)
          have HSM : Hid (∀ w', New W1 w' → _) := Lib.hid fun w' h => rf_sum l L lc w' (HL.out.keep (HNW.out.trans h)) (chn_sum HS.out hch)
          have hsum := chn_sum HS.out hch l.length (Nat.le_refl _)
          rw [List.take_length] at hsum
          obtain ⟨lb, lo, rfl, hlb, hc⟩ := (HL.out.keep HNW.out).2 (by omega)
          have hz := hc 0 (by omega)
          have hj := hc (l.length - 1) (by omega)
          have hw : IntKind.i64.wrap ((l.length : Int) - 1) = ((l.length - 1 : Nat) : Int) := by rw [IntWalk.i64_in _ (by omega)]; omega
          have ij : ((l.length - 1 : Nat) : Int) < (l.length : Int) := by omega
          have i0 : (0 : Int) < (l.length : Int) := by omega
          have i1 : 0 < l.length := by omega
          have i2 : l.length ≠ 0 := by omega
          have hn1 := neq_rf (l[0]?.getD default).frm (⟨rl, rn⟩ : Rf)
          have hn2 := neq_rf (l[l.length - 1]?.getD default).to (⟨-1, 0⟩ : Rf)
          generalize l.length - 1 = j at *
          generalize (l[j]?.getD default) = bj at *
          generalize (l[0]?.getD default) = bz at *
          generalize hsm : sumB l = sm at *
          obtain ⟨⟨jfl, jfn⟩, ⟨jtl, jtn⟩, jmo, jkd, jix⟩ := bj
          obtain ⟨⟨zfl, zfn⟩, ⟨ztl, ztn⟩, zmo, zkd, zix⟩ := bz
          obtain ⟨j0, j1, j2, j3, j4, j5, j6⟩ := hj
          obtain ⟨z0, z1, z2, z3, z4, z5, z6⟩ := hz
          dsimp only at j2 j3 z0 z1 hn1 hn2 HLP
          simp only [Nat.zero_mul, Nat.add_zero] at z0 z1
          have HSD : Hid (∀ w', New W1 w' → (fun w' => ((w'.cell? ⟨w.heap.size, 0, none⟩ = some (.slice A s.tracks.length c) ∧ w'.cell? ⟨w.heap.size, 1, none⟩ = some (.slice D s.ties.length d) ∧ w'.cell? ⟨w.heap.size, 2, none⟩ = some (.int .i64 s.window)) ∧ (w'.cell? ⟨lb, lo + j * 7 + 2, none⟩ = some (.int .i64 jtl) ∧ w'.cell? ⟨lb, lo + j * 7 + 3, none⟩ = some (.int .i64 jtn)) ∧ (w'.cell? ⟨lb, lo, none⟩ = some (.int .i64 zfl) ∧ w'.cell? ⟨lb, lo + 1, none⟩ = some (.int .i64 zfn)) ∧ (w'.cell? ⟨bf, 0, none⟩ = some (.int .i64 rl) ∧ w'.cell? ⟨bf, 1, none⟩ = some (.int .i64 rn)) ∧ (w'.cell? ⟨bt, 0, none⟩ = some (.int .i64 (-1)) ∧ w'.cell? ⟨bt, 1, none⟩ = some (.int .i64 0)))) w') := Lib.hid fun w' h => ⟨⟨(HA0.out.keep h).cell rfl, (HA0.out.keep h).cell rfl, (HA0.out.keep h).cell rfl⟩, ⟨h.cellOf j2, h.cellOf j3⟩, ⟨h.cellOf z0, h.cellOf z1⟩, ⟨(HF.out.keep h).cell rfl, (HF.out.keep h).cell rfl⟩, (HT.out.keep h).cell rfl, (HT.out.keep h).cell rfl⟩
          dsimp only at HSD
          clear hc j0 j1 j2 j3 j4 j5 j6 z0 z1 z2 z3 z4 z5 z6 hch hl1 HCH hlb
          by_cases hE : (⟨zfl, zfn⟩ : Rf) = (⟨rl, rn⟩ : Rf)
          · rw [decide_eq_true hE] at hn1
            by_cases hT : (⟨jtl, jtn⟩ : Rf) = (⟨-1, 0⟩ : Rf)
            · rw [decide_eq_true hT] at hn2
              have HLQ := Lib.hid (HLP.out.2 ⟨hE, hT⟩)
              clear hE hT HLP
              have hw0 : IntKind.i64.wrap (0 - sm) = -sm := by rw [IntWalk.i64_in _ (by omega)]; omega
              simp only [Bool.not_true] at hn1 hn2
              go_wp2_with fail
              refine region_plain (by kernel_rfl) (wpAny_of_held (S := (fun w' => ((w'.cell? ⟨w.heap.size, 0, none⟩ = some (.slice A s.tracks.length c) ∧ w'.cell? ⟨w.heap.size, 1, none⟩ = some (.slice D s.ties.length d) ∧ w'.cell? ⟨w.heap.size, 2, none⟩ = some (.int .i64 s.window)) ∧ (w'.cell? ⟨lb, lo + j * 7 + 2, none⟩ = some (.int .i64 jtl) ∧ w'.cell? ⟨lb, lo + j * 7 + 3, none⟩ = some (.int .i64 jtn)) ∧ (w'.cell? ⟨lb, lo, none⟩ = some (.int .i64 zfl) ∧ w'.cell? ⟨lb, lo + 1, none⟩ = some (.int .i64 zfn)) ∧ (w'.cell? ⟨bf, 0, none⟩ = some (.int .i64 rl) ∧ w'.cell? ⟨bf, 1, none⟩ = some (.int .i64 rn)) ∧ (w'.cell? ⟨bt, 0, none⟩ = some (.int .i64 (-1)) ∧ w'.cell? ⟨bt, 1, none⟩ = some (.int .i64 0))))) _ _ _ _ ?_)
              change wpAnyH _ _ _ _ _ _ _ _ W1.drew
              have hS := HSD.out W1.drew (New.refl W1).drew
              refine wpAnyH_take (i := 0) (v := ?_) rfl (by kernel_rfl) (by kernel_rfl) (by kernel_rfl) (fun _ _ _ h => h) (Or.inl ⟨by rfl, fun w' hS' => ?_⟩) hS ?_
              rotate_left
              · obtain ⟨⟨s0, s1, s2⟩, ⟨s3, s4⟩, ⟨s5, s6⟩, ⟨s7, s8⟩, s9, s10⟩ := hS'
                go_simp
                try rfl
              try simp only [List.getElem_toArray, List.getElem_cons_zero, Act.put, List.setIfInBounds_toArray, List.set_cons_zero, List.set_cons_succ]
              refine wpAnyH_take (i := 1) (v := ?_) rfl (by kernel_rfl) (by kernel_rfl) (by kernel_rfl) (fun _ _ _ h => h) (Or.inl ⟨by rfl, fun w' hS' => ?_⟩) hS ?_
              rotate_left
              · obtain ⟨⟨s0, s1, s2⟩, ⟨s3, s4⟩, ⟨s5, s6⟩, ⟨s7, s8⟩, s9, s10⟩ := hS'
                go_simp
                try rfl
              try simp only [List.getElem_toArray, List.getElem_cons_zero, List.getElem_cons_succ, Act.put, List.setIfInBounds_toArray, List.set_cons_zero, List.set_cons_succ]
              clear hS
              refine wpAnyH_ready (rs := [2]) (by kernel_rfl) (by simp) ?_
              refine AllReadyH.cons rfl (fun K hK => ?_) AllReadyH.nil
              go_simp
              refine (HCT.out _ ((New.refl W1).drew)).mono ?_
              rintro e w7 ⟨rfl, mw7⟩
              have nw7 := ((New.refl W1).drew).trans mw7
              refine hK.out _ _ (HSD.out w7 nw7) (fun hS => ?_)
              clear hK K
              try simp only [List.getElem_toArray, List.getElem_cons_zero, List.getElem_cons_succ, Act.put, List.setIfInBounds_toArray, List.set_cons_zero, List.set_cons_succ]
              refine wpAnyH_take (i := 3) (v := ?_) rfl (by kernel_rfl) (by kernel_rfl) (by kernel_rfl) (fun _ _ _ h => h) (Or.inl ⟨by rfl, fun w' hS' => ?_⟩) hS ?_
              rotate_left
              · obtain ⟨⟨s0, s1, s2⟩, ⟨s3, s4⟩, ⟨s5, s6⟩, ⟨s7, s8⟩, s9, s10⟩ := hS'
                go_simp
                try rfl
              try simp only [List.getElem_toArray, List.getElem_cons_zero, List.getElem_cons_succ, Act.put, List.setIfInBounds_toArray, List.set_cons_zero, List.set_cons_succ]
              refine wpAnyH_take (i := 4) (v := ?_) rfl (by kernel_rfl) (by kernel_rfl) (by kernel_rfl) (fun _ _ _ h => h) (Or.inl ⟨by rfl, fun w' hS' => ?_⟩) hS ?_
              rotate_left
              · obtain ⟨⟨s0, s1, s2⟩, ⟨s3, s4⟩, ⟨s5, s6⟩, ⟨s7, s8⟩, s9, s10⟩ := hS'
                go_simp
                try rfl
              try simp only [List.getElem_toArray, List.getElem_cons_zero, List.getElem_cons_succ, Act.put, List.setIfInBounds_toArray, List.set_cons_zero, List.set_cons_succ]
              refine wpAnyH_take (i := 5) (v := ?_) rfl (by kernel_rfl) (by kernel_rfl) (by kernel_rfl) (fun _ _ _ h => h) (Or.inl ⟨by rfl, fun w' hS' => ?_⟩) hS ?_
              rotate_left
              · obtain ⟨⟨s0, s1, s2⟩, ⟨s3, s4⟩, ⟨s5, s6⟩, ⟨s7, s8⟩, s9, s10⟩ := hS'
                go_simp
                try rfl
              try simp only [List.getElem_toArray, List.getElem_cons_zero, List.getElem_cons_succ, Act.put, List.setIfInBounds_toArray, List.set_cons_zero, List.set_cons_succ]
              refine wpAnyH_take (i := 6) (v := ?_) rfl (by kernel_rfl) (by kernel_rfl) (by kernel_rfl) (fun _ _ _ h => h) (Or.inl ⟨by rfl, fun w' hS' => ?_⟩) hS ?_
              rotate_left
              · obtain ⟨⟨s0, s1, s2⟩, ⟨s3, s4⟩, ⟨s5, s6⟩, ⟨s7, s8⟩, s9, s10⟩ := hS'
                go_simp
                try rfl
              try simp only [List.getElem_toArray, List.getElem_cons_zero, List.getElem_cons_succ, Act.put, List.setIfInBounds_toArray, List.set_cons_zero, List.set_cons_succ]
              refine wpAnyH_take (i := 7) (v := ?_) rfl (by kernel_rfl) (by kernel_rfl) (by kernel_rfl) (fun _ _ _ h => h) (Or.inl ⟨by rfl, fun w' hS' => ?_⟩) hS ?_
              rotate_left
              · obtain ⟨⟨s0, s1, s2⟩, ⟨s3, s4⟩, ⟨s5, s6⟩, ⟨s7, s8⟩, s9, s10⟩ := hS'
                go_simp
                try rfl
              try simp only [List.getElem_toArray, List.getElem_cons_zero, List.getElem_cons_succ, Act.put, List.setIfInBounds_toArray, List.set_cons_zero, List.set_cons_succ]
              refine wpAnyH_take (i := 8) (v := ?_) rfl (by kernel_rfl) (by kernel_rfl) (by kernel_rfl) (fun _ _ _ h => h) (Or.inl ⟨by rfl, fun w' hS' => ?_⟩) hS ?_
              rotate_left
              · obtain ⟨⟨s0, s1, s2⟩, ⟨s3, s4⟩, ⟨s5, s6⟩, ⟨s7, s8⟩, s9, s10⟩ := hS'
                go_simp
                try rfl
              try simp only [List.getElem_toArray, List.getElem_cons_zero, List.getElem_cons_succ, Act.put, List.setIfInBounds_toArray, List.set_cons_zero, List.set_cons_succ]
              refine wpAnyH_take (i := 9) (v := ?_) rfl (by kernel_rfl) (by kernel_rfl) (by kernel_rfl) (fun _ _ _ h => h) (Or.inl ⟨by rfl, fun w' hS' => ?_⟩) hS ?_
              rotate_left
              · obtain ⟨⟨s0, s1, s2⟩, ⟨s3, s4⟩, ⟨s5, s6⟩, ⟨s7, s8⟩, s9, s10⟩ := hS'
                go_simp
                try rfl
              try simp only [List.getElem_toArray, List.getElem_cons_zero, List.getElem_cons_succ, Act.put, List.setIfInBounds_toArray, List.set_cons_zero, List.set_cons_succ]
              refine wpAnyH_take (i := 10) (v := ?_) rfl (by kernel_rfl) (by kernel_rfl) (by kernel_rfl) (fun _ _ _ h => h) (Or.inl ⟨by rfl, fun w' hS' => ?_⟩) hS ?_
              rotate_left
              · obtain ⟨⟨s0, s1, s2⟩, ⟨s3, s4⟩, ⟨s5, s6⟩, ⟨s7, s8⟩, s9, s10⟩ := hS'
                go_simp
                try rfl
              try simp only [List.getElem_toArray, List.getElem_cons_zero, List.getElem_cons_succ, Act.put, List.setIfInBounds_toArray, List.set_cons_zero, List.set_cons_succ]
              refine wpAnyH_take (i := 11) (v := ?_) rfl (by kernel_rfl) (by kernel_rfl) (by kernel_rfl) (fun _ _ _ h => h) (Or.inl ⟨by rfl, fun w' hS' => ?_⟩) hS ?_
              rotate_left
              · obtain ⟨⟨s0, s1, s2⟩, ⟨s3, s4⟩, ⟨s5, s6⟩, ⟨s7, s8⟩, s9, s10⟩ := hS'
                go_simp
                try rfl
              try simp only [List.getElem_toArray, List.getElem_cons_zero, List.getElem_cons_succ, Act.put, List.setIfInBounds_toArray, List.set_cons_zero, List.set_cons_succ]
              refine wpAnyH_take (i := 12) (v := ?_) rfl (by kernel_rfl) (by kernel_rfl) (by kernel_rfl) (fun _ _ _ h => h) (Or.inl ⟨by rfl, fun w' hS' => ?_⟩) hS ?_
              rotate_left
              · obtain ⟨⟨s0, s1, s2⟩, ⟨s3, s4⟩, ⟨s5, s6⟩, ⟨s7, s8⟩, s9, s10⟩ := hS'
                go_simp
                try rfl
              try simp only [List.getElem_toArray, List.getElem_cons_zero, List.getElem_cons_succ, Act.put, List.setIfInBounds_toArray, List.set_cons_zero, List.set_cons_succ]
              refine wpAnyH_take (i := 13) (v := ?_) rfl (by kernel_rfl) (by kernel_rfl) (by kernel_rfl) (fun _ _ _ h => h) (Or.inl ⟨by rfl, fun w' hS' => ?_⟩) hS ?_
              rotate_left
              · obtain ⟨⟨s0, s1, s2⟩, ⟨s3, s4⟩, ⟨s5, s6⟩, ⟨s7, s8⟩, s9, s10⟩ := hS'
                go_simp
                try rfl
              try simp only [List.getElem_toArray, List.getElem_cons_zero, List.getElem_cons_succ, Act.put, List.setIfInBounds_toArray, List.set_cons_zero, List.set_cons_succ]
              refine wpAnyH_take (i := 14) (v := ?_) rfl (by kernel_rfl) (by kernel_rfl) (by kernel_rfl) (fun _ _ _ h => h) (Or.inl ⟨by rfl, fun w' hS' => ?_⟩) hS ?_
              rotate_left
              · obtain ⟨⟨s0, s1, s2⟩, ⟨s3, s4⟩, ⟨s5, s6⟩, ⟨s7, s8⟩, s9, s10⟩ := hS'
                go_simp
                try rfl
              try simp only [List.getElem_toArray, List.getElem_cons_zero, List.getElem_cons_succ, Act.put, List.setIfInBounds_toArray, List.set_cons_zero, List.set_cons_succ]
              refine wpAnyH_take (i := 15) (v := ?_) rfl (by kernel_rfl) (by kernel_rfl) (by kernel_rfl) (fun _ _ _ h => h) (Or.inl ⟨by rfl, fun w' hS' => ?_⟩) hS ?_
              rotate_left
              · obtain ⟨⟨s0, s1, s2⟩, ⟨s3, s4⟩, ⟨s5, s6⟩, ⟨s7, s8⟩, s9, s10⟩ := hS'
                go_simp
                try rfl
              try simp only [List.getElem_toArray, List.getElem_cons_zero, List.getElem_cons_succ, Act.put, List.setIfInBounds_toArray, List.set_cons_zero, List.set_cons_succ]
              refine wpAnyH_take (i := 16) (v := ?_) rfl (by kernel_rfl) (by kernel_rfl) (by kernel_rfl) (fun _ _ _ h => h) (Or.inl ⟨by rfl, fun w' hS' => ?_⟩) hS ?_
              rotate_left
              · obtain ⟨⟨s0, s1, s2⟩, ⟨s3, s4⟩, ⟨s5, s6⟩, ⟨s7, s8⟩, s9, s10⟩ := hS'
                go_simp
                try rfl
              try simp only [List.getElem_toArray, List.getElem_cons_zero, List.getElem_cons_succ, Act.put, List.setIfInBounds_toArray, List.set_cons_zero, List.set_cons_succ]
              refine wpAnyH_take (i := 17) (v := ?_) rfl (by kernel_rfl) (by kernel_rfl) (by kernel_rfl) (fun _ _ _ h => h) (Or.inl ⟨by rfl, fun w' hS' => ?_⟩) hS ?_
              rotate_left
              · obtain ⟨⟨s0, s1, s2⟩, ⟨s3, s4⟩, ⟨s5, s6⟩, ⟨s7, s8⟩, s9, s10⟩ := hS'
                go_simp
                try rfl
              try simp only [List.getElem_toArray, List.getElem_cons_zero, List.getElem_cons_succ, Act.put, List.setIfInBounds_toArray, List.set_cons_zero, List.set_cons_succ]
              refine wpAnyH_take (i := 18) (v := ?_) rfl (by kernel_rfl) (by kernel_rfl) (by kernel_rfl) (fun _ _ _ h => h) (Or.inl ⟨by rfl, fun w' hS' => ?_⟩) hS ?_
              rotate_left
              · obtain ⟨⟨s0, s1, s2⟩, ⟨s3, s4⟩, ⟨s5, s6⟩, ⟨s7, s8⟩, s9, s10⟩ := hS'
                go_simp
                try rfl
              try simp only [List.getElem_toArray, List.getElem_cons_zero, List.getElem_cons_succ, Act.put, List.setIfInBounds_toArray, List.set_cons_zero, List.set_cons_succ]
              refine wpAnyH_take (i := 19) (v := ?_) rfl (by kernel_rfl) (by kernel_rfl) (by kernel_rfl) (fun _ _ _ h => h) (Or.inl ⟨by rfl, fun w' hS' => ?_⟩) hS ?_
              rotate_left
              · obtain ⟨⟨s0, s1, s2⟩, ⟨s3, s4⟩, ⟨s5, s6⟩, ⟨s7, s8⟩, s9, s10⟩ := hS'
                go_simp
                try rfl
              try simp only [List.getElem_toArray, List.getElem_cons_zero, List.getElem_cons_succ, Act.put, List.setIfInBounds_toArray, List.set_cons_zero, List.set_cons_succ]
              refine wpAnyH_take (i := 20) (v := ?_) rfl (by kernel_rfl) (by kernel_rfl) (by kernel_rfl) (fun _ _ _ h => h) (Or.inl ⟨by rfl, fun w' hS' => ?_⟩) hS ?_
              rotate_left
              · obtain ⟨⟨s0, s1, s2⟩, ⟨s3, s4⟩, ⟨s5, s6⟩, ⟨s7, s8⟩, s9, s10⟩ := hS'
                go_simp
                try rfl
              try simp only [List.getElem_toArray, List.getElem_cons_zero, List.getElem_cons_succ, Act.put, List.setIfInBounds_toArray, List.set_cons_zero, List.set_cons_succ]
              refine wpAnyH_take (i := 21) (v := ?_) rfl (by kernel_rfl) (by kernel_rfl) (by kernel_rfl) (fun _ _ _ h => h) (Or.inl ⟨by rfl, fun w' hS' => ?_⟩) hS ?_
              rotate_left
              · obtain ⟨⟨s0, s1, s2⟩, ⟨s3, s4⟩, ⟨s5, s6⟩, ⟨s7, s8⟩, s9, s10⟩ := hS'
                go_simp
                try rfl
              try simp only [List.getElem_toArray, List.getElem_cons_zero, List.getElem_cons_succ, Act.put, List.setIfInBounds_toArray, List.set_cons_zero, List.set_cons_succ]
              refine wpAnyH_take (i := 22) (v := ?_) rfl (by kernel_rfl) (by kernel_rfl) (by kernel_rfl) (fun _ _ _ h => h) (Or.inl ⟨by rfl, fun w' hS' => ?_⟩) hS ?_
              rotate_left
              · obtain ⟨⟨s0, s1, s2⟩, ⟨s3, s4⟩, ⟨s5, s6⟩, ⟨s7, s8⟩, s9, s10⟩ := hS'
                go_simp
                try rfl
              try simp only [List.getElem_toArray, List.getElem_cons_zero, List.getElem_cons_succ, Act.put, List.setIfInBounds_toArray, List.set_cons_zero, List.set_cons_succ]
              clear hS
              refine wpAnyH_done (by kernel_rfl) ?_ _
              unfold NormQ
              dsimp only [Exit.then]
              have HNZ := Lib.hid (HNW.out.trans nw7)
              have HSMM := Lib.hid (HSM.out _ nw7)
              clear HSM HCT HSD
              go_wp2_with fail
              refine HSMM.out.mono ?_
              rintro e w8 ⟨rfl, m8⟩
              go_wp2_with fail
              go_ret2
              exact ⟨-sm, 0, rfl, HNZ.out.trans m8, .inr ⟨HLE.out, .inr (.inl ⟨rfl, HLQ.out, (by rw [hsm]), rfl⟩)⟩⟩
            · rw [decide_eq_false hT] at hn2
              have HLQ : Hid (¬LeadsP s l (⟨rl, rn⟩ : Rf) (⟨-1, 0⟩ : Rf)) := Lib.hid fun h => hT (HLP.out.1 h).2
              clear hE hT HLP
              simp only [Bool.not_true, Bool.not_false] at hn1 hn2
              go_wp2_with fail
              refine region_plain (by kernel_rfl) (wpAny_of_held (S := (fun w' => ((w'.cell? ⟨w.heap.size, 0, none⟩ = some (.slice A s.tracks.length c) ∧ w'.cell? ⟨w.heap.size, 1, none⟩ = some (.slice D s.ties.length d) ∧ w'.cell? ⟨w.heap.size, 2, none⟩ = some (.int .i64 s.window)) ∧ (w'.cell? ⟨lb, lo + j * 7 + 2, none⟩ = some (.int .i64 jtl) ∧ w'.cell? ⟨lb, lo + j * 7 + 3, none⟩ = some (.int .i64 jtn)) ∧ (w'.cell? ⟨lb, lo, none⟩ = some (.int .i64 zfl) ∧ w'.cell? ⟨lb, lo + 1, none⟩ = some (.int .i64 zfn)) ∧ (w'.cell? ⟨bf, 0, none⟩ = some (.int .i64 rl) ∧ w'.cell? ⟨bf, 1, none⟩ = some (.int .i64 rn)) ∧ (w'.cell? ⟨bt, 0, none⟩ = some (.int .i64 (-1)) ∧ w'.cell? ⟨bt, 1, none⟩ = some (.int .i64 0))))) _ _ _ _ ?_)
              change wpAnyH _ _ _ _ _ _ _ _ W1.drew
              have hS := HSD.out W1.drew (New.refl W1).drew
              refine wpAnyH_take (i := 0) (v := ?_) rfl (by kernel_rfl) (by kernel_rfl) (by kernel_rfl) (fun _ _ _ h => h) (Or.inl ⟨by rfl, fun w' hS' => ?_⟩) hS ?_
              rotate_left
              · obtain ⟨⟨s0, s1, s2⟩, ⟨s3, s4⟩, ⟨s5, s6⟩, ⟨s7, s8⟩, s9, s10⟩ := hS'
                go_simp
                try rfl
              try simp only [List.getElem_toArray, List.getElem_cons_zero, Act.put, List.setIfInBounds_toArray, List.set_cons_zero, List.set_cons_succ]
              refine wpAnyH_take (i := 1) (v := ?_) rfl (by kernel_rfl) (by kernel_rfl) (by kernel_rfl) (fun _ _ _ h => h) (Or.inl ⟨by rfl, fun w' hS' => ?_⟩) hS ?_
              rotate_left
              · obtain ⟨⟨s0, s1, s2⟩, ⟨s3, s4⟩, ⟨s5, s6⟩, ⟨s7, s8⟩, s9, s10⟩ := hS'
                go_simp
                try rfl
              try simp only [List.getElem_toArray, List.getElem_cons_zero, List.getElem_cons_succ, Act.put, List.setIfInBounds_toArray, List.set_cons_zero, List.set_cons_succ]
              clear hS
              refine wpAnyH_ready (rs := [2]) (by kernel_rfl) (by simp) ?_
              refine AllReadyH.cons rfl (fun K hK => ?_) AllReadyH.nil
              go_simp
              refine (HCT.out _ ((New.refl W1).drew)).mono ?_
              rintro e w7 ⟨rfl, mw7⟩
              have nw7 := ((New.refl W1).drew).trans mw7
              refine hK.out _ _ (HSD.out w7 nw7) (fun hS => ?_)
              clear hK K
              try simp only [List.getElem_toArray, List.getElem_cons_zero, List.getElem_cons_succ, Act.put, List.setIfInBounds_toArray, List.set_cons_zero, List.set_cons_succ]
              refine wpAnyH_take (i := 3) (v := ?_) rfl (by kernel_rfl) (by kernel_rfl) (by kernel_rfl) (fun _ _ _ h => h) (Or.inl ⟨by rfl, fun w' hS' => ?_⟩) hS ?_
              rotate_left
              · obtain ⟨⟨s0, s1, s2⟩, ⟨s3, s4⟩, ⟨s5, s6⟩, ⟨s7, s8⟩, s9, s10⟩ := hS'
                go_simp
                try rfl
              try simp only [List.getElem_toArray, List.getElem_cons_zero, List.getElem_cons_succ, Act.put, List.setIfInBounds_toArray, List.set_cons_zero, List.set_cons_succ]
              refine wpAnyH_take (i := 4) (v := ?_) rfl (by kernel_rfl) (by kernel_rfl) (by kernel_rfl) (fun _ _ _ h => h) (Or.inl ⟨by rfl, fun w' hS' => ?_⟩) hS ?_
              rotate_left
              · obtain ⟨⟨s0, s1, s2⟩, ⟨s3, s4⟩, ⟨s5, s6⟩, ⟨s7, s8⟩, s9, s10⟩ := hS'
                go_simp
                try rfl
              try simp only [List.getElem_toArray, List.getElem_cons_zero, List.getElem_cons_succ, Act.put, List.setIfInBounds_toArray, List.set_cons_zero, List.set_cons_succ]
              refine wpAnyH_take (i := 5) (v := ?_) rfl (by kernel_rfl) (by kernel_rfl) (by kernel_rfl) (fun _ _ _ h => h) (Or.inl ⟨by rfl, fun w' hS' => ?_⟩) hS ?_
              rotate_left
              · obtain ⟨⟨s0, s1, s2⟩, ⟨s3, s4⟩, ⟨s5, s6⟩, ⟨s7, s8⟩, s9, s10⟩ := hS'
                go_simp
                try rfl
              try simp only [List.getElem_toArray, List.getElem_cons_zero, List.getElem_cons_succ, Act.put, List.setIfInBounds_toArray, List.set_cons_zero, List.set_cons_succ]
              refine wpAnyH_take (i := 6) (v := ?_) rfl (by kernel_rfl) (by kernel_rfl) (by kernel_rfl) (fun _ _ _ h => h) (Or.inl ⟨by rfl, fun w' hS' => ?_⟩) hS ?_
              rotate_left
              · obtain ⟨⟨s0, s1, s2⟩, ⟨s3, s4⟩, ⟨s5, s6⟩, ⟨s7, s8⟩, s9, s10⟩ := hS'
                go_simp
                try rfl
              try simp only [List.getElem_toArray, List.getElem_cons_zero, List.getElem_cons_succ, Act.put, List.setIfInBounds_toArray, List.set_cons_zero, List.set_cons_succ]
              refine wpAnyH_take (i := 7) (v := ?_) rfl (by kernel_rfl) (by kernel_rfl) (by kernel_rfl) (fun _ _ _ h => h) (Or.inl ⟨by rfl, fun w' hS' => ?_⟩) hS ?_
              rotate_left
              · obtain ⟨⟨s0, s1, s2⟩, ⟨s3, s4⟩, ⟨s5, s6⟩, ⟨s7, s8⟩, s9, s10⟩ := hS'
                go_simp
                try rfl
              try simp only [List.getElem_toArray, List.getElem_cons_zero, List.getElem_cons_succ, Act.put, List.setIfInBounds_toArray, List.set_cons_zero, List.set_cons_succ]
              refine wpAnyH_take (i := 8) (v := ?_) rfl (by kernel_rfl) (by kernel_rfl) (by kernel_rfl) (fun _ _ _ h => h) (Or.inl ⟨by rfl, fun w' hS' => ?_⟩) hS ?_
              rotate_left
              · obtain ⟨⟨s0, s1, s2⟩, ⟨s3, s4⟩, ⟨s5, s6⟩, ⟨s7, s8⟩, s9, s10⟩ := hS'
                go_simp
                try rfl
              try simp only [List.getElem_toArray, List.getElem_cons_zero, List.getElem_cons_succ, Act.put, List.setIfInBounds_toArray, List.set_cons_zero, List.set_cons_succ]
              refine wpAnyH_take (i := 9) (v := ?_) rfl (by kernel_rfl) (by kernel_rfl) (by kernel_rfl) (fun _ _ _ h => h) (Or.inl ⟨by rfl, fun w' hS' => ?_⟩) hS ?_
              rotate_left
              · obtain ⟨⟨s0, s1, s2⟩, ⟨s3, s4⟩, ⟨s5, s6⟩, ⟨s7, s8⟩, s9, s10⟩ := hS'
                go_simp
                try rfl
              try simp only [List.getElem_toArray, List.getElem_cons_zero, List.getElem_cons_succ, Act.put, List.setIfInBounds_toArray, List.set_cons_zero, List.set_cons_succ]
              refine wpAnyH_take (i := 10) (v := ?_) rfl (by kernel_rfl) (by kernel_rfl) (by kernel_rfl) (fun _ _ _ h => h) (Or.inl ⟨by rfl, fun w' hS' => ?_⟩) hS ?_
              rotate_left
              · obtain ⟨⟨s0, s1, s2⟩, ⟨s3, s4⟩, ⟨s5, s6⟩, ⟨s7, s8⟩, s9, s10⟩ := hS'
                go_simp
                try rfl
              try simp only [List.getElem_toArray, List.getElem_cons_zero, List.getElem_cons_succ, Act.put, List.setIfInBounds_toArray, List.set_cons_zero, List.set_cons_succ]
              refine wpAnyH_take (i := 11) (v := ?_) rfl (by kernel_rfl) (by kernel_rfl) (by kernel_rfl) (fun _ _ _ h => h) (Or.inl ⟨by rfl, fun w' hS' => ?_⟩) hS ?_
              rotate_left
              · obtain ⟨⟨s0, s1, s2⟩, ⟨s3, s4⟩, ⟨s5, s6⟩, ⟨s7, s8⟩, s9, s10⟩ := hS'
                go_simp
                try rfl
              try simp only [List.getElem_toArray, List.getElem_cons_zero, List.getElem_cons_succ, Act.put, List.setIfInBounds_toArray, List.set_cons_zero, List.set_cons_succ]
              refine wpAnyH_take (i := 12) (v := ?_) rfl (by kernel_rfl) (by kernel_rfl) (by kernel_rfl) (fun _ _ _ h => h) (Or.inl ⟨by rfl, fun w' hS' => ?_⟩) hS ?_
              rotate_left
              · obtain ⟨⟨s0, s1, s2⟩, ⟨s3, s4⟩, ⟨s5, s6⟩, ⟨s7, s8⟩, s9, s10⟩ := hS'
                go_simp
                try rfl
              try simp only [List.getElem_toArray, List.getElem_cons_zero, List.getElem_cons_succ, Act.put, List.setIfInBounds_toArray, List.set_cons_zero, List.set_cons_succ]
              refine wpAnyH_take (i := 13) (v := ?_) rfl (by kernel_rfl) (by kernel_rfl) (by kernel_rfl) (fun _ _ _ h => h) (Or.inl ⟨by rfl, fun w' hS' => ?_⟩) hS ?_
              rotate_left
              · obtain ⟨⟨s0, s1, s2⟩, ⟨s3, s4⟩, ⟨s5, s6⟩, ⟨s7, s8⟩, s9, s10⟩ := hS'
                go_simp
                try rfl
              try simp only [List.getElem_toArray, List.getElem_cons_zero, List.getElem_cons_succ, Act.put, List.setIfInBounds_toArray, List.set_cons_zero, List.set_cons_succ]
              refine wpAnyH_take (i := 14) (v := ?_) rfl (by kernel_rfl) (by kernel_rfl) (by kernel_rfl) (fun _ _ _ h => h) (Or.inl ⟨by rfl, fun w' hS' => ?_⟩) hS ?_
              rotate_left
              · obtain ⟨⟨s0, s1, s2⟩, ⟨s3, s4⟩, ⟨s5, s6⟩, ⟨s7, s8⟩, s9, s10⟩ := hS'
                go_simp
                try rfl
              try simp only [List.getElem_toArray, List.getElem_cons_zero, List.getElem_cons_succ, Act.put, List.setIfInBounds_toArray, List.set_cons_zero, List.set_cons_succ]
              refine wpAnyH_take (i := 15) (v := ?_) rfl (by kernel_rfl) (by kernel_rfl) (by kernel_rfl) (fun _ _ _ h => h) (Or.inl ⟨by rfl, fun w' hS' => ?_⟩) hS ?_
              rotate_left
              · obtain ⟨⟨s0, s1, s2⟩, ⟨s3, s4⟩, ⟨s5, s6⟩, ⟨s7, s8⟩, s9, s10⟩ := hS'
                go_simp
                try rfl
              try simp only [List.getElem_toArray, List.getElem_cons_zero, List.getElem_cons_succ, Act.put, List.setIfInBounds_toArray, List.set_cons_zero, List.set_cons_succ]
              refine wpAnyH_take (i := 16) (v := ?_) rfl (by kernel_rfl) (by kernel_rfl) (by kernel_rfl) (fun _ _ _ h => h) (Or.inl ⟨by rfl, fun w' hS' => ?_⟩) hS ?_
              rotate_left
              · obtain ⟨⟨s0, s1, s2⟩, ⟨s3, s4⟩, ⟨s5, s6⟩, ⟨s7, s8⟩, s9, s10⟩ := hS'
                go_simp
                try rfl
              try simp only [List.getElem_toArray, List.getElem_cons_zero, List.getElem_cons_succ, Act.put, List.setIfInBounds_toArray, List.set_cons_zero, List.set_cons_succ]
              refine wpAnyH_take (i := 17) (v := ?_) rfl (by kernel_rfl) (by kernel_rfl) (by kernel_rfl) (fun _ _ _ h => h) (Or.inl ⟨by rfl, fun w' hS' => ?_⟩) hS ?_
              rotate_left
              · obtain ⟨⟨s0, s1, s2⟩, ⟨s3, s4⟩, ⟨s5, s6⟩, ⟨s7, s8⟩, s9, s10⟩ := hS'
                go_simp
                try rfl
              try simp only [List.getElem_toArray, List.getElem_cons_zero, List.getElem_cons_succ, Act.put, List.setIfInBounds_toArray, List.set_cons_zero, List.set_cons_succ]
              refine wpAnyH_take (i := 18) (v := ?_) rfl (by kernel_rfl) (by kernel_rfl) (by kernel_rfl) (fun _ _ _ h => h) (Or.inl ⟨by rfl, fun w' hS' => ?_⟩) hS ?_
              rotate_left
              · obtain ⟨⟨s0, s1, s2⟩, ⟨s3, s4⟩, ⟨s5, s6⟩, ⟨s7, s8⟩, s9, s10⟩ := hS'
                go_simp
                try rfl
              try simp only [List.getElem_toArray, List.getElem_cons_zero, List.getElem_cons_succ, Act.put, List.setIfInBounds_toArray, List.set_cons_zero, List.set_cons_succ]
              refine wpAnyH_take (i := 19) (v := ?_) rfl (by kernel_rfl) (by kernel_rfl) (by kernel_rfl) (fun _ _ _ h => h) (Or.inl ⟨by rfl, fun w' hS' => ?_⟩) hS ?_
              rotate_left
              · obtain ⟨⟨s0, s1, s2⟩, ⟨s3, s4⟩, ⟨s5, s6⟩, ⟨s7, s8⟩, s9, s10⟩ := hS'
                go_simp
                try rfl
              try simp only [List.getElem_toArray, List.getElem_cons_zero, List.getElem_cons_succ, Act.put, List.setIfInBounds_toArray, List.set_cons_zero, List.set_cons_succ]
              refine wpAnyH_take (i := 20) (v := ?_) rfl (by kernel_rfl) (by kernel_rfl) (by kernel_rfl) (fun _ _ _ h => h) (Or.inl ⟨by rfl, fun w' hS' => ?_⟩) hS ?_
              rotate_left
              · obtain ⟨⟨s0, s1, s2⟩, ⟨s3, s4⟩, ⟨s5, s6⟩, ⟨s7, s8⟩, s9, s10⟩ := hS'
                go_simp
                try rfl
              try simp only [List.getElem_toArray, List.getElem_cons_zero, List.getElem_cons_succ, Act.put, List.setIfInBounds_toArray, List.set_cons_zero, List.set_cons_succ]
              refine wpAnyH_take (i := 21) (v := ?_) rfl (by kernel_rfl) (by kernel_rfl) (by kernel_rfl) (fun _ _ _ h => h) (Or.inl ⟨by rfl, fun w' hS' => ?_⟩) hS ?_
              rotate_left
              · obtain ⟨⟨s0, s1, s2⟩, ⟨s3, s4⟩, ⟨s5, s6⟩, ⟨s7, s8⟩, s9, s10⟩ := hS'
                go_simp
                try rfl
              try simp only [List.getElem_toArray, List.getElem_cons_zero, List.getElem_cons_succ, Act.put, List.setIfInBounds_toArray, List.set_cons_zero, List.set_cons_succ]
              refine wpAnyH_take (i := 22) (v := ?_) rfl (by kernel_rfl) (by kernel_rfl) (by kernel_rfl) (fun _ _ _ h => h) (Or.inl ⟨by rfl, fun w' hS' => ?_⟩) hS ?_
              rotate_left
              · obtain ⟨⟨s0, s1, s2⟩, ⟨s3, s4⟩, ⟨s5, s6⟩, ⟨s7, s8⟩, s9, s10⟩ := hS'
                go_simp
                try rfl
              try simp only [List.getElem_toArray, List.getElem_cons_zero, List.getElem_cons_succ, Act.put, List.setIfInBounds_toArray, List.set_cons_zero, List.set_cons_succ]
              clear hS
              refine wpAnyH_done (by kernel_rfl) ?_ _
              unfold NormQ
              dsimp only [Exit.then]
              have HNZ := Lib.hid (HNW.out.trans nw7)
              go_wp2_with fail
              go_ret2
              exact ⟨0, 32, rfl, HNZ.out, .inr ⟨HLE.out, .inr (.inr ⟨(by simpa [beg] using HLQ.out), rfl, rfl⟩)⟩⟩
          · rw [decide_eq_false hE] at hn1
            have HLQ : Hid (¬LeadsP s l (⟨rl, rn⟩ : Rf) (⟨-1, 0⟩ : Rf)) := Lib.hid fun h => hE (HLP.out.1 h).1
            clear hE HLP
            simp only [Bool.not_false] at hn1
            go_wp2_with fail
            refine region_plain (by kernel_rfl) (wpAny_of_held (S := (fun w' => ((w'.cell? ⟨w.heap.size, 0, none⟩ = some (.slice A s.tracks.length c) ∧ w'.cell? ⟨w.heap.size, 1, none⟩ = some (.slice D s.ties.length d) ∧ w'.cell? ⟨w.heap.size, 2, none⟩ = some (.int .i64 s.window)) ∧ (w'.cell? ⟨lb, lo + j * 7 + 2, none⟩ = some (.int .i64 jtl) ∧ w'.cell? ⟨lb, lo + j * 7 + 3, none⟩ = some (.int .i64 jtn)) ∧ (w'.cell? ⟨lb, lo, none⟩ = some (.int .i64 zfl) ∧ w'.cell? ⟨lb, lo + 1, none⟩ = some (.int .i64 zfn)) ∧ (w'.cell? ⟨bf, 0, none⟩ = some (.int .i64 rl) ∧ w'.cell? ⟨bf, 1, none⟩ = some (.int .i64 rn)) ∧ (w'.cell? ⟨bt, 0, none⟩ = some (.int .i64 (-1)) ∧ w'.cell? ⟨bt, 1, none⟩ = some (.int .i64 0))))) _ _ _ _ ?_)
            change wpAnyH _ _ _ _ _ _ _ _ W1.drew
            have hS := HSD.out W1.drew (New.refl W1).drew
            refine wpAnyH_take (i := 0) (v := ?_) rfl (by kernel_rfl) (by kernel_rfl) (by kernel_rfl) (fun _ _ _ h => h) (Or.inl ⟨by rfl, fun w' hS' => ?_⟩) hS ?_
            rotate_left
            · obtain ⟨⟨s0, s1, s2⟩, ⟨s3, s4⟩, ⟨s5, s6⟩, ⟨s7, s8⟩, s9, s10⟩ := hS'
              go_simp
              try rfl
            try simp only [List.getElem_toArray, List.getElem_cons_zero, Act.put, List.setIfInBounds_toArray, List.set_cons_zero, List.set_cons_succ]
            refine wpAnyH_take (i := 1) (v := ?_) rfl (by kernel_rfl) (by kernel_rfl) (by kernel_rfl) (fun _ _ _ h => h) (Or.inl ⟨by rfl, fun w' hS' => ?_⟩) hS ?_
            rotate_left
            · obtain ⟨⟨s0, s1, s2⟩, ⟨s3, s4⟩, ⟨s5, s6⟩, ⟨s7, s8⟩, s9, s10⟩ := hS'
              go_simp
              try rfl
            try simp only [List.getElem_toArray, List.getElem_cons_zero, List.getElem_cons_succ, Act.put, List.setIfInBounds_toArray, List.set_cons_zero, List.set_cons_succ]
            clear hS
            refine wpAnyH_ready (rs := [2]) (by kernel_rfl) (by simp) ?_
            refine AllReadyH.cons rfl (fun K hK => ?_) AllReadyH.nil
            go_simp
            refine (HCT.out _ ((New.refl W1).drew)).mono ?_
            rintro e w7 ⟨rfl, mw7⟩
            have nw7 := ((New.refl W1).drew).trans mw7
            refine hK.out _ _ (HSD.out w7 nw7) (fun hS => ?_)
            clear hK K
            try simp only [List.getElem_toArray, List.getElem_cons_zero, List.getElem_cons_succ, Act.put, List.setIfInBounds_toArray, List.set_cons_zero, List.set_cons_succ]
            refine wpAnyH_take (i := 3) (v := ?_) rfl (by kernel_rfl) (by kernel_rfl) (by kernel_rfl) (fun _ _ _ h => h) (Or.inl ⟨by rfl, fun w' hS' => ?_⟩) hS ?_
            rotate_left
            · obtain ⟨⟨s0, s1, s2⟩, ⟨s3, s4⟩, ⟨s5, s6⟩, ⟨s7, s8⟩, s9, s10⟩ := hS'
              go_simp
              try rfl
            try simp only [List.getElem_toArray, List.getElem_cons_zero, List.getElem_cons_succ, Act.put, List.setIfInBounds_toArray, List.set_cons_zero, List.set_cons_succ]
            refine wpAnyH_take (i := 4) (v := ?_) rfl (by kernel_rfl) (by kernel_rfl) (by kernel_rfl) (fun _ _ _ h => h) (Or.inl ⟨by rfl, fun w' hS' => ?_⟩) hS ?_
            rotate_left
            · obtain ⟨⟨s0, s1, s2⟩, ⟨s3, s4⟩, ⟨s5, s6⟩, ⟨s7, s8⟩, s9, s10⟩ := hS'
              go_simp
              try rfl
            try simp only [List.getElem_toArray, List.getElem_cons_zero, List.getElem_cons_succ, Act.put, List.setIfInBounds_toArray, List.set_cons_zero, List.set_cons_succ]
            refine wpAnyH_take (i := 5) (v := ?_) rfl (by kernel_rfl) (by kernel_rfl) (by kernel_rfl) (fun _ _ _ h => h) (Or.inl ⟨by rfl, fun w' hS' => ?_⟩) hS ?_
            rotate_left
            · obtain ⟨⟨s0, s1, s2⟩, ⟨s3, s4⟩, ⟨s5, s6⟩, ⟨s7, s8⟩, s9, s10⟩ := hS'
              go_simp
              try rfl
            try simp only [List.getElem_toArray, List.getElem_cons_zero, List.getElem_cons_succ, Act.put, List.setIfInBounds_toArray, List.set_cons_zero, List.set_cons_succ]
            refine wpAnyH_take (i := 6) (v := ?_) rfl (by kernel_rfl) (by kernel_rfl) (by kernel_rfl) (fun _ _ _ h => h) (Or.inl ⟨by rfl, fun w' hS' => ?_⟩) hS ?_
            rotate_left
            · obtain ⟨⟨s0, s1, s2⟩, ⟨s3, s4⟩, ⟨s5, s6⟩, ⟨s7, s8⟩, s9, s10⟩ := hS'
              go_simp
              try rfl
            try simp only [List.getElem_toArray, List.getElem_cons_zero, List.getElem_cons_succ, Act.put, List.setIfInBounds_toArray, List.set_cons_zero, List.set_cons_succ]
            refine wpAnyH_take (i := 7) (v := ?_) rfl (by kernel_rfl) (by kernel_rfl) (by kernel_rfl) (fun _ _ _ h => h) (Or.inl ⟨by rfl, fun w' hS' => ?_⟩) hS ?_
            rotate_left
            · obtain ⟨⟨s0, s1, s2⟩, ⟨s3, s4⟩, ⟨s5, s6⟩, ⟨s7, s8⟩, s9, s10⟩ := hS'
              go_simp
              try rfl
            try simp only [List.getElem_toArray, List.getElem_cons_zero, List.getElem_cons_succ, Act.put, List.setIfInBounds_toArray, List.set_cons_zero, List.set_cons_succ]
            refine wpAnyH_take (i := 8) (v := ?_) rfl (by kernel_rfl) (by kernel_rfl) (by kernel_rfl) (fun _ _ _ h => h) (Or.inl ⟨by rfl, fun w' hS' => ?_⟩) hS ?_
            rotate_left
            · obtain ⟨⟨s0, s1, s2⟩, ⟨s3, s4⟩, ⟨s5, s6⟩, ⟨s7, s8⟩, s9, s10⟩ := hS'
              go_simp
              try rfl
            try simp only [List.getElem_toArray, List.getElem_cons_zero, List.getElem_cons_succ, Act.put, List.setIfInBounds_toArray, List.set_cons_zero, List.set_cons_succ]
            refine wpAnyH_take (i := 9) (v := ?_) rfl (by kernel_rfl) (by kernel_rfl) (by kernel_rfl) (fun _ _ _ h => h) (Or.inl ⟨by rfl, fun w' hS' => ?_⟩) hS ?_
            rotate_left
            · obtain ⟨⟨s0, s1, s2⟩, ⟨s3, s4⟩, ⟨s5, s6⟩, ⟨s7, s8⟩, s9, s10⟩ := hS'
              go_simp
              try rfl
            try simp only [List.getElem_toArray, List.getElem_cons_zero, List.getElem_cons_succ, Act.put, List.setIfInBounds_toArray, List.set_cons_zero, List.set_cons_succ]
            refine wpAnyH_take (i := 10) (v := ?_) rfl (by kernel_rfl) (by kernel_rfl) (by kernel_rfl) (fun _ _ _ h => h) (Or.inl ⟨by rfl, fun w' hS' => ?_⟩) hS ?_
            rotate_left
            · obtain ⟨⟨s0, s1, s2⟩, ⟨s3, s4⟩, ⟨s5, s6⟩, ⟨s7, s8⟩, s9, s10⟩ := hS'
              go_simp
              try rfl
            try simp only [List.getElem_toArray, List.getElem_cons_zero, List.getElem_cons_succ, Act.put, List.setIfInBounds_toArray, List.set_cons_zero, List.set_cons_succ]
            refine wpAnyH_take (i := 11) (v := ?_) rfl (by kernel_rfl) (by kernel_rfl) (by kernel_rfl) (fun _ _ _ h => h) (Or.inl ⟨by rfl, fun w' hS' => ?_⟩) hS ?_
            rotate_left
            · obtain ⟨⟨s0, s1, s2⟩, ⟨s3, s4⟩, ⟨s5, s6⟩, ⟨s7, s8⟩, s9, s10⟩ := hS'
              go_simp
              try rfl
            try simp only [List.getElem_toArray, List.getElem_cons_zero, List.getElem_cons_succ, Act.put, List.setIfInBounds_toArray, List.set_cons_zero, List.set_cons_succ]
            refine wpAnyH_take (i := 12) (v := ?_) rfl (by kernel_rfl) (by kernel_rfl) (by kernel_rfl) (fun _ _ _ h => h) (Or.inl ⟨by rfl, fun w' hS' => ?_⟩) hS ?_
            rotate_left
            · obtain ⟨⟨s0, s1, s2⟩, ⟨s3, s4⟩, ⟨s5, s6⟩, ⟨s7, s8⟩, s9, s10⟩ := hS'
              go_simp
              try rfl
            try simp only [List.getElem_toArray, List.getElem_cons_zero, List.getElem_cons_succ, Act.put, List.setIfInBounds_toArray, List.set_cons_zero, List.set_cons_succ]
            refine wpAnyH_take (i := 13) (v := undef) rfl (by kernel_rfl) (by kernel_rfl) (by kernel_rfl) (fun _ _ _ h => h) (Or.inr ⟨by rfl, rfl⟩) hS ?_
            try simp only [List.getElem_toArray, List.getElem_cons_zero, List.getElem_cons_succ, Act.put, List.setIfInBounds_toArray, List.set_cons_zero, List.set_cons_succ]
            refine wpAnyH_take (i := 14) (v := undef) rfl (by kernel_rfl) (by kernel_rfl) (by kernel_rfl) (fun _ _ _ h => h) (Or.inr ⟨by rfl, rfl⟩) hS ?_
            try simp only [List.getElem_toArray, List.getElem_cons_zero, List.getElem_cons_succ, Act.put, List.setIfInBounds_toArray, List.set_cons_zero, List.set_cons_succ]
            refine wpAnyH_take (i := 15) (v := undef) rfl (by kernel_rfl) (by kernel_rfl) (by kernel_rfl) (fun _ _ _ h => h) (Or.inr ⟨by rfl, rfl⟩) hS ?_
            try simp only [List.getElem_toArray, List.getElem_cons_zero, List.getElem_cons_succ, Act.put, List.setIfInBounds_toArray, List.set_cons_zero, List.set_cons_succ]
            refine wpAnyH_take (i := 16) (v := undef) rfl (by kernel_rfl) (by kernel_rfl) (by kernel_rfl) (fun _ _ _ h => h) (Or.inr ⟨by rfl, rfl⟩) hS ?_
            try simp only [List.getElem_toArray, List.getElem_cons_zero, List.getElem_cons_succ, Act.put, List.setIfInBounds_toArray, List.set_cons_zero, List.set_cons_succ]
            refine wpAnyH_take (i := 17) (v := undef) rfl (by kernel_rfl) (by kernel_rfl) (by kernel_rfl) (fun _ _ _ h => h) (Or.inr ⟨by rfl, rfl⟩) hS ?_
            try simp only [List.getElem_toArray, List.getElem_cons_zero, List.getElem_cons_succ, Act.put, List.setIfInBounds_toArray, List.set_cons_zero, List.set_cons_succ]
            refine wpAnyH_take (i := 18) (v := undef) rfl (by kernel_rfl) (by kernel_rfl) (by kernel_rfl) (fun _ _ _ h => h) (Or.inr ⟨by rfl, rfl⟩) hS ?_
            try simp only [List.getElem_toArray, List.getElem_cons_zero, List.getElem_cons_succ, Act.put, List.setIfInBounds_toArray, List.set_cons_zero, List.set_cons_succ]
            refine wpAnyH_take (i := 19) (v := undef) rfl (by kernel_rfl) (by kernel_rfl) (by kernel_rfl) (fun _ _ _ h => h) (Or.inr ⟨by rfl, rfl⟩) hS ?_
            try simp only [List.getElem_toArray, List.getElem_cons_zero, List.getElem_cons_succ, Act.put, List.setIfInBounds_toArray, List.set_cons_zero, List.set_cons_succ]
            refine wpAnyH_take (i := 20) (v := undef) rfl (by kernel_rfl) (by kernel_rfl) (by kernel_rfl) (fun _ _ _ h => h) (Or.inr ⟨by rfl, rfl⟩) hS ?_
            try simp only [List.getElem_toArray, List.getElem_cons_zero, List.getElem_cons_succ, Act.put, List.setIfInBounds_toArray, List.set_cons_zero, List.set_cons_succ]
            refine wpAnyH_take (i := 21) (v := undef) rfl (by kernel_rfl) (by kernel_rfl) (by kernel_rfl) (fun _ _ _ h => h) (Or.inr ⟨by rfl, rfl⟩) hS ?_
            try simp only [List.getElem_toArray, List.getElem_cons_zero, List.getElem_cons_succ, Act.put, List.setIfInBounds_toArray, List.set_cons_zero, List.set_cons_succ]
            refine wpAnyH_take (i := 22) (v := ?_) rfl (by kernel_rfl) (by kernel_rfl) (by kernel_rfl) (fun _ _ _ h => h) (Or.inl ⟨by rfl, fun w' hS' => ?_⟩) hS ?_
            rotate_left
            · obtain ⟨⟨s0, s1, s2⟩, ⟨s3, s4⟩, ⟨s5, s6⟩, ⟨s7, s8⟩, s9, s10⟩ := hS'
              go_simp
              try rfl
            try simp only [List.getElem_toArray, List.getElem_cons_zero, List.getElem_cons_succ, Act.put, List.setIfInBounds_toArray, List.set_cons_zero, List.set_cons_succ]
            clear hS
            refine wpAnyH_done (by kernel_rfl) ?_ _
            unfold NormQ
            dsimp only [Exit.then]
            have HNZ := Lib.hid (HNW.out.trans nw7)
            go_wp2_with fail
            go_ret2
            exact ⟨0, 32, rfl, HNZ.out, .inr ⟨HLE.out, .inr (.inr ⟨(by simpa [beg] using HLQ.out), rfl, rfl⟩)⟩⟩
        · have HLQ : Hid (¬LeadsP s l (⟨rl, rn⟩ : Rf) (⟨-1, 0⟩ : Rf)) := Lib.hid fun h => hch (chn_leads.1 h).1
          have HCF : Hid (∀ w', New W1 w' → Calls Tryd.prog 93 #[.agg #[.slice A s.tracks.length c, .slice D s.ties.length d, .int .i64 s.window], .slice L l.length lc] w' fun e w'' => e = .returned (.bool false) ∧ New w' w'') := Lib.hid fun w' h => (HCH.out w' h).mono (by
            rintro e w'' ⟨⟨h1, -⟩ | ⟨-, h1⟩, h2⟩
            · exact absurd h1 hch
            · exact ⟨h1, h2⟩)
          have HSD : Hid (∀ w', New W1 w' → (fun w' => (w'.cell? ⟨w.heap.size, 0, none⟩ = some (.slice A s.tracks.length c) ∧ w'.cell? ⟨w.heap.size, 1, none⟩ = some (.slice D s.ties.length d) ∧ w'.cell? ⟨w.heap.size, 2, none⟩ = some (.int .i64 s.window))) w') := Lib.hid fun w' h => ⟨(HA0.out.keep h).cell rfl, (HA0.out.keep h).cell rfl, (HA0.out.keep h).cell rfl⟩
          dsimp only at HSD
          clear hch HCH
          go_wp2_with fail
          refine region_plain (by kernel_rfl) (wpAny_of_held (S := (fun w' => (w'.cell? ⟨w.heap.size, 0, none⟩ = some (.slice A s.tracks.length c) ∧ w'.cell? ⟨w.heap.size, 1, none⟩ = some (.slice D s.ties.length d) ∧ w'.cell? ⟨w.heap.size, 2, none⟩ = some (.int .i64 s.window)))) _ _ _ _ ?_)
          change wpAnyH _ _ _ _ _ _ _ _ W1.drew
          have hS := HSD.out W1.drew (New.refl W1).drew
          refine wpAnyH_take (i := 0) (v := ?_) rfl (by kernel_rfl) (by kernel_rfl) (by kernel_rfl) (fun _ _ _ h => h) (Or.inl ⟨by rfl, fun w' hS' => ?_⟩) hS ?_
          rotate_left
          · obtain ⟨s0, s1, s2⟩ := hS'
            go_simp
            try rfl
          try simp only [List.getElem_toArray, List.getElem_cons_zero, Act.put, List.setIfInBounds_toArray, List.set_cons_zero, List.set_cons_succ]
          refine wpAnyH_take (i := 1) (v := ?_) rfl (by kernel_rfl) (by kernel_rfl) (by kernel_rfl) (fun _ _ _ h => h) (Or.inl ⟨by rfl, fun w' hS' => ?_⟩) hS ?_
          rotate_left
          · obtain ⟨s0, s1, s2⟩ := hS'
            go_simp
            try rfl
          try simp only [List.getElem_toArray, List.getElem_cons_zero, List.getElem_cons_succ, Act.put, List.setIfInBounds_toArray, List.set_cons_zero, List.set_cons_succ]
          clear hS
          refine wpAnyH_ready (rs := [2]) (by kernel_rfl) (by simp) ?_
          refine AllReadyH.cons rfl (fun K hK => ?_) AllReadyH.nil
          go_simp
          refine (HCF.out _ ((New.refl W1).drew)).mono ?_
          rintro e w7 ⟨rfl, mw7⟩
          have nw7 := ((New.refl W1).drew).trans mw7
          refine hK.out _ _ (HSD.out w7 nw7) (fun hS => ?_)
          clear hK K
          try simp only [List.getElem_toArray, List.getElem_cons_zero, List.getElem_cons_succ, Act.put, List.setIfInBounds_toArray, List.set_cons_zero, List.set_cons_succ]
          refine wpAnyH_take (i := 3) (v := ?_) rfl (by kernel_rfl) (by kernel_rfl) (by kernel_rfl) (fun _ _ _ h => h) (Or.inl ⟨by rfl, fun w' hS' => ?_⟩) hS ?_
          rotate_left
          · obtain ⟨s0, s1, s2⟩ := hS'
            go_simp
            try rfl
          try simp only [List.getElem_toArray, List.getElem_cons_zero, List.getElem_cons_succ, Act.put, List.setIfInBounds_toArray, List.set_cons_zero, List.set_cons_succ]
          refine wpAnyH_take (i := 4) (v := ?_) rfl (by kernel_rfl) (by kernel_rfl) (by kernel_rfl) (fun _ _ _ h => h) (Or.inl ⟨by rfl, fun w' hS' => ?_⟩) hS ?_
          rotate_left
          · obtain ⟨s0, s1, s2⟩ := hS'
            go_simp
            try rfl
          try simp only [List.getElem_toArray, List.getElem_cons_zero, List.getElem_cons_succ, Act.put, List.setIfInBounds_toArray, List.set_cons_zero, List.set_cons_succ]
          refine wpAnyH_take (i := 5) (v := undef) rfl (by kernel_rfl) (by kernel_rfl) (by kernel_rfl) (fun _ _ _ h => h) (Or.inr ⟨by rfl, rfl⟩) hS ?_
          try simp only [List.getElem_toArray, List.getElem_cons_zero, List.getElem_cons_succ, Act.put, List.setIfInBounds_toArray, List.set_cons_zero, List.set_cons_succ]
          refine wpAnyH_take (i := 6) (v := undef) rfl (by kernel_rfl) (by kernel_rfl) (by kernel_rfl) (fun _ _ _ h => h) (Or.inr ⟨by rfl, rfl⟩) hS ?_
          try simp only [List.getElem_toArray, List.getElem_cons_zero, List.getElem_cons_succ, Act.put, List.setIfInBounds_toArray, List.set_cons_zero, List.set_cons_succ]
          refine wpAnyH_take (i := 7) (v := undef) rfl (by kernel_rfl) (by kernel_rfl) (by kernel_rfl) (fun _ _ _ h => h) (Or.inr ⟨by rfl, rfl⟩) hS ?_
          try simp only [List.getElem_toArray, List.getElem_cons_zero, List.getElem_cons_succ, Act.put, List.setIfInBounds_toArray, List.set_cons_zero, List.set_cons_succ]
          refine wpAnyH_take (i := 8) (v := undef) rfl (by kernel_rfl) (by kernel_rfl) (by kernel_rfl) (fun _ _ _ h => h) (Or.inr ⟨by rfl, rfl⟩) hS ?_
          try simp only [List.getElem_toArray, List.getElem_cons_zero, List.getElem_cons_succ, Act.put, List.setIfInBounds_toArray, List.set_cons_zero, List.set_cons_succ]
          refine wpAnyH_take (i := 9) (v := undef) rfl (by kernel_rfl) (by kernel_rfl) (by kernel_rfl) (fun _ _ _ h => h) (Or.inr ⟨by rfl, rfl⟩) hS ?_
          try simp only [List.getElem_toArray, List.getElem_cons_zero, List.getElem_cons_succ, Act.put, List.setIfInBounds_toArray, List.set_cons_zero, List.set_cons_succ]
          refine wpAnyH_take (i := 10) (v := undef) rfl (by kernel_rfl) (by kernel_rfl) (by kernel_rfl) (fun _ _ _ h => h) (Or.inr ⟨by rfl, rfl⟩) hS ?_
          try simp only [List.getElem_toArray, List.getElem_cons_zero, List.getElem_cons_succ, Act.put, List.setIfInBounds_toArray, List.set_cons_zero, List.set_cons_succ]
          refine wpAnyH_take (i := 11) (v := ?_) rfl (by kernel_rfl) (by kernel_rfl) (by kernel_rfl) (fun _ _ _ h => h) (Or.inl ⟨by rfl, fun w' hS' => ?_⟩) hS ?_
          rotate_left
          · obtain ⟨s0, s1, s2⟩ := hS'
            go_simp
            try rfl
          try simp only [List.getElem_toArray, List.getElem_cons_zero, List.getElem_cons_succ, Act.put, List.setIfInBounds_toArray, List.set_cons_zero, List.set_cons_succ]
          refine wpAnyH_take (i := 12) (v := ?_) rfl (by kernel_rfl) (by kernel_rfl) (by kernel_rfl) (fun _ _ _ h => h) (Or.inl ⟨by rfl, fun w' hS' => ?_⟩) hS ?_
          rotate_left
          · obtain ⟨s0, s1, s2⟩ := hS'
            go_simp
            try rfl
          try simp only [List.getElem_toArray, List.getElem_cons_zero, List.getElem_cons_succ, Act.put, List.setIfInBounds_toArray, List.set_cons_zero, List.set_cons_succ]
          refine wpAnyH_take (i := 13) (v := undef) rfl (by kernel_rfl) (by kernel_rfl) (by kernel_rfl) (fun _ _ _ h => h) (Or.inr ⟨by rfl, rfl⟩) hS ?_
          try simp only [List.getElem_toArray, List.getElem_cons_zero, List.getElem_cons_succ, Act.put, List.setIfInBounds_toArray, List.set_cons_zero, List.set_cons_succ]
          refine wpAnyH_take (i := 14) (v := undef) rfl (by kernel_rfl) (by kernel_rfl) (by kernel_rfl) (fun _ _ _ h => h) (Or.inr ⟨by rfl, rfl⟩) hS ?_
          try simp only [List.getElem_toArray, List.getElem_cons_zero, List.getElem_cons_succ, Act.put, List.setIfInBounds_toArray, List.set_cons_zero, List.set_cons_succ]
          refine wpAnyH_take (i := 15) (v := undef) rfl (by kernel_rfl) (by kernel_rfl) (by kernel_rfl) (fun _ _ _ h => h) (Or.inr ⟨by rfl, rfl⟩) hS ?_
          try simp only [List.getElem_toArray, List.getElem_cons_zero, List.getElem_cons_succ, Act.put, List.setIfInBounds_toArray, List.set_cons_zero, List.set_cons_succ]
          refine wpAnyH_take (i := 16) (v := undef) rfl (by kernel_rfl) (by kernel_rfl) (by kernel_rfl) (fun _ _ _ h => h) (Or.inr ⟨by rfl, rfl⟩) hS ?_
          try simp only [List.getElem_toArray, List.getElem_cons_zero, List.getElem_cons_succ, Act.put, List.setIfInBounds_toArray, List.set_cons_zero, List.set_cons_succ]
          refine wpAnyH_take (i := 17) (v := undef) rfl (by kernel_rfl) (by kernel_rfl) (by kernel_rfl) (fun _ _ _ h => h) (Or.inr ⟨by rfl, rfl⟩) hS ?_
          try simp only [List.getElem_toArray, List.getElem_cons_zero, List.getElem_cons_succ, Act.put, List.setIfInBounds_toArray, List.set_cons_zero, List.set_cons_succ]
          refine wpAnyH_take (i := 18) (v := undef) rfl (by kernel_rfl) (by kernel_rfl) (by kernel_rfl) (fun _ _ _ h => h) (Or.inr ⟨by rfl, rfl⟩) hS ?_
          try simp only [List.getElem_toArray, List.getElem_cons_zero, List.getElem_cons_succ, Act.put, List.setIfInBounds_toArray, List.set_cons_zero, List.set_cons_succ]
          refine wpAnyH_take (i := 19) (v := undef) rfl (by kernel_rfl) (by kernel_rfl) (by kernel_rfl) (fun _ _ _ h => h) (Or.inr ⟨by rfl, rfl⟩) hS ?_
          try simp only [List.getElem_toArray, List.getElem_cons_zero, List.getElem_cons_succ, Act.put, List.setIfInBounds_toArray, List.set_cons_zero, List.set_cons_succ]
          refine wpAnyH_take (i := 20) (v := undef) rfl (by kernel_rfl) (by kernel_rfl) (by kernel_rfl) (fun _ _ _ h => h) (Or.inr ⟨by rfl, rfl⟩) hS ?_
          try simp only [List.getElem_toArray, List.getElem_cons_zero, List.getElem_cons_succ, Act.put, List.setIfInBounds_toArray, List.set_cons_zero, List.set_cons_succ]
          refine wpAnyH_take (i := 21) (v := undef) rfl (by kernel_rfl) (by kernel_rfl) (by kernel_rfl) (fun _ _ _ h => h) (Or.inr ⟨by rfl, rfl⟩) hS ?_
          try simp only [List.getElem_toArray, List.getElem_cons_zero, List.getElem_cons_succ, Act.put, List.setIfInBounds_toArray, List.set_cons_zero, List.set_cons_succ]
          refine wpAnyH_take (i := 22) (v := ?_) rfl (by kernel_rfl) (by kernel_rfl) (by kernel_rfl) (fun _ _ _ h => h) (Or.inl ⟨by rfl, fun w' hS' => ?_⟩) hS ?_
          rotate_left
          · obtain ⟨s0, s1, s2⟩ := hS'
            go_simp
            try rfl
          try simp only [List.getElem_toArray, List.getElem_cons_zero, List.getElem_cons_succ, Act.put, List.setIfInBounds_toArray, List.set_cons_zero, List.set_cons_succ]
          clear hS
          refine wpAnyH_done (by kernel_rfl) ?_ _
          unfold NormQ
          dsimp only [Exit.then]
          have HNZ := Lib.hid (HNW.out.trans nw7)
          go_wp2_with fail
          go_ret2
          exact ⟨0, 32, rfl, HNZ.out, .inr ⟨HLE.out, .inr (.inr ⟨(by simpa [beg] using HLQ.out), rfl, rfl⟩)⟩⟩
  · have hne : (checkE s != 0) = true := by simp [he]
    have HLE : Hid (linesE s [⟨rl, rn⟩] = checkE s) := Lib.hid (by simp [linesE, he])
    have HNE := Lib.hid he
    clear he
    generalize checkE s = er at *
    go_wp2_with fail
    refine HC.out.mono ?_
    rintro e w1 ⟨rfl, m1⟩
    go_wp2_with fail
    go_ret2
    exact ⟨0, er, rfl, HN.out.trans m1, .inl ⟨(by rw [HLE.out]; exact HNE.out), rfl, HLE.out.symm⟩⟩
end Go.Proofs.YtodmbcoobjcooaaDoor

namespace Go.Proofs.YtodmbcoobjcooaaDoor
open Go Go.RowKit Go.Shelf
open Go.ChangeShapes Go.WideShapes Go.ChangeAt Go.Deep
attribute [local go_sem] Oper.semAt_some
theorem pathE_unique {s : Sy} {r : Rf} {latest : Bool} {l : List Bd} {n er n' er' : Int} (h : PathE s r latest l n er) (k : PathE s r latest l n' er') : n = n' ∧ er = er' := by
  unfold PathE at h k
  rcases h with ⟨h1, rfl, rfl⟩ | ⟨h1, h⟩ <;> rcases k with ⟨k1, rfl, rfl⟩ | ⟨k1, k⟩
  · exact ⟨rfl, rfl⟩
  · exact absurd k1 h1
  · exact absurd h1 k1
  · cases latest
    · simp only [Bool.false_eq_true, false_and, false_or, true_and, if_false] at h k
      rcases h with ⟨h2, rfl, rfl⟩ | ⟨h2, rfl, rfl⟩ <;> rcases k with ⟨k2, rfl, rfl⟩ | ⟨k2, rfl, rfl⟩
      · exact ⟨rfl, rfl⟩
      · exact absurd h2 k2
      · exact absurd k2 h2
      · exact ⟨rfl, rfl⟩
    · simp only [Bool.true_eq_false, false_and, false_or, true_and, if_true] at h k
      rcases h with ⟨h2, rfl, rfl⟩ | ⟨h2, rfl, rfl⟩ <;> rcases k with ⟨k2, rfl, rfl⟩ | ⟨k2, rfl, rfl⟩
      · exact ⟨rfl, rfl⟩
      · exact absurd h2 k2
      · exact absurd k2 h2
      · exact ⟨rfl, rfl⟩
set_option maxRecDepth 100000 in
set_option maxHeartbeats 8000000 in
theorem law_keeps (s : Sy) (l : List (List Int)) (x : List Bd) (r : Rf) (latest : Bool) (A D L X : Option Addr) (c d lc xc : Nat) (w : World) (hM : SysM w A D s) (hbeg : BegA w) (hL : IssA w L l) (hX : BnsA w X x) (hxw : ∀ b ∈ x, BdW b) :
    Calls Tryd.prog 6 #[.agg #[.slice A s.tracks.length c, .slice D s.ties.length d, .int .i64 s.window], .slice L l.length lc, .slice X x.length xc, .agg #[.int .i64 r.log, .int .i64 r.line], .bool latest] w fun e w' => e = .returned (.bool true) ∧ New w w' := by
  obtain ⟨rl, rn⟩ := r
  dsimp only
  have n2 := ((New.refl w).alloc (.cells #[.slice A s.tracks.length c, .slice D s.ties.length d, .int .i64 s.window] 25)).alloc (.cells #[.int .i64 rl, .int .i64 rn] 53)
  have r1 := (RowIs.new w 25 [.slice A s.tracks.length c, .slice D s.ties.length d, .int .i64 s.window]).keep ((New.refl _).alloc (.cells #[.int .i64 rl, .int .i64 rn] 53))
  have r2 := RowIs.new (w.alloc (.cells #[.slice A s.tracks.length c, .slice D s.ties.length d, .int .i64 s.window] 25)) 53 [.int .i64 rl, .int .i64 rn]
  simp only [World.size_alloc] at r2
  have HA0 := Lib.hid r1
  have HB0 := Lib.hid r2
  have HN0 := Lib.hid n2
  have HAW := Lib.hid (law_awake _ ⟨n2.cellOf hbeg.1, n2.cellOf hbeg.2⟩)
  have HFW : Hid (∀ w', New w w' → _) := Lib.hid fun w' h => law_few s A D c d w' (hM.keep h)
  have HK1 : Hid (∀ w', New w w' → _) := Lib.hid fun w' h => ck_Keeps s l A D L c d lc w' (hM.keep h) ⟨h.cellOf hbeg.1, h.cellOf hbeg.2⟩ (hL.keep h)
  have HK2 : Hid (∀ w', New w w' → _) := Lib.hid fun w' h => rf_Keeps s l A D L c d lc w' (hM.keep h) (hL.keep h)
  have HK3 : Hid (∀ w', New w w' → _) := Lib.hid fun w' h => ck_ValidLoop s x A D X c d xc w' (hM.keep h) ⟨h.cellOf hbeg.1, h.cellOf hbeg.2⟩ (hX.keep h) hxw
  have HK4 : Hid (∀ w', New w w' → _) := Lib.hid fun w' h => rf_ValidLoop s x A D X c d xc w' (hM.keep h) (hX.keep h)
  have HK5 : Hid (∀ w', New w w' → _) := Lib.hid fun w' h => ck_ValidPath s ⟨rl, rn⟩ latest x A D X c d xc w' (hM.keep h) ⟨h.cellOf hbeg.1, h.cellOf hbeg.2⟩ (hX.keep h) hxw
  have HK6 : Hid (∀ w', New w w' → _) := Lib.hid fun w' h => rf_ValidPath s ⟨rl, rn⟩ latest x A D X c d xc w' (hM.keep h) (hX.keep h)
  have hll := hL.1
  have hxl := hX.1
  clear hM hbeg hL hX hxw n2 r1 r2
  have c0 := HA0.out.cell (i := 0) rfl
  have c1 := HA0.out.cell (i := 1) rfl
  have c2 := HA0.out.cell (i := 2) rfl
  have d0 := HB0.out.cell (i := 0) rfl
  have d1 := HB0.out.cell (i := 1) rfl
  go_enter Tryd.func6, Tryd.ntmps6
  go_wp2_with fail
  refine (HAW.out).mono ?_
  rintro e w1 ⟨rfl, m1⟩
  have HN1 := Lib.hid (HN0.out.trans m1)
  have HA1 := Lib.hid (HA0.out.keep m1)
  have HB1 := Lib.hid (HB0.out.keep m1)
  clear c0 c1 c2 d0 d1 m1 HA0 HB0
  have c0 := HA1.out.cell (i := 0) rfl
  have c1 := HA1.out.cell (i := 1) rfl
  have c2 := HA1.out.cell (i := 2) rfl
  have d0 := HB1.out.cell (i := 0) rfl
  have d1 := HB1.out.cell (i := 1) rfl
  go_wp2_with fail
  refine (HFW.out _ HN1.out).mono ?_
  rintro e w2 ⟨⟨fb, rfl⟩, m2⟩
  have HN2 := Lib.hid (HN1.out.trans m2)
  have HA2 := Lib.hid (HA1.out.keep m2)
  have HB2 := Lib.hid (HB1.out.keep m2)
  clear c0 c1 c2 d0 d1 m2 HA1 HB1
  have c0 := HA2.out.cell (i := 0) rfl
  have c1 := HA2.out.cell (i := 1) rfl
  have c2 := HA2.out.cell (i := 2) rfl
  have d0 := HB2.out.cell (i := 0) rfl
  have d1 := HB2.out.cell (i := 1) rfl
  cases fb with
  | false =>
    go_wp2_with fail
    go_ret
    exact ⟨rfl, HN2.out⟩
  | true =>
  by_cases h100 : 100 < l.length
  · have h100' : decide (100 < (l.length : Int)) = true := by simp; omega
    go_wp2_with fail
    go_ret
    exact ⟨rfl, HN2.out⟩
  have h100' : decide (100 < (l.length : Int)) = false := by simp; omega
  by_cases h200 : 200 < x.length
  · have h200' : decide (200 < (x.length : Int)) = true := by simp; omega
    go_wp2_with fail
    go_ret
    exact ⟨rfl, HN2.out⟩
  have h200' : decide (200 < (x.length : Int)) = false := by simp; omega
  go_wp2_with fail
  refine (HK1.out _ HN2.out).mono ?_
  rintro e w3 ⟨rfl, m3⟩
  have HN3 := Lib.hid (HN2.out.trans m3)
  have HA3 := Lib.hid (HA2.out.keep m3)
  have HB3 := Lib.hid (HB2.out.keep m3)
  clear c0 c1 c2 d0 d1 m3 HA2 HB2
  have c0 := HA3.out.cell (i := 0) rfl
  have c1 := HA3.out.cell (i := 1) rfl
  have c2 := HA3.out.cell (i := 2) rfl
  have d0 := HB3.out.cell (i := 0) rfl
  have d1 := HB3.out.cell (i := 1) rfl
  clear h100 h100' h200 h200'
  go_wp2_with fail
  refine (HK2.out _ HN3.out).mono ?_
  rintro e w4 ⟨rfl, m4⟩
  have HN4 := Lib.hid (HN3.out.trans m4)
  have HA4 := Lib.hid (HA3.out.keep m4)
  have HB4 := Lib.hid (HB3.out.keep m4)
  clear c0 c1 c2 d0 d1 m4 HA3 HB3
  have c0 := HA4.out.cell (i := 0) rfl
  have c1 := HA4.out.cell (i := 1) rfl
  have c2 := HA4.out.cell (i := 2) rfl
  have d0 := HB4.out.cell (i := 0) rfl
  have d1 := HB4.out.cell (i := 1) rfl
  generalize keepsB s l = kp at *
  go_wp2_with fail
  refine (HK3.out _ HN4.out).mono ?_
  rintro e w5 ⟨r5, rfl, m5, hr5⟩
  have HR5 := Lib.hid hr5
  clear hr5
  have HN5 := Lib.hid (HN4.out.trans m5)
  have HA5 := Lib.hid (HA4.out.keep m5)
  have HB5 := Lib.hid (HB4.out.keep m5)
  clear c0 c1 c2 d0 d1 m5 HA4 HB4
  have c0 := HA5.out.cell (i := 0) rfl
  have c1 := HA5.out.cell (i := 1) rfl
  have c2 := HA5.out.cell (i := 2) rfl
  have d0 := HB5.out.cell (i := 0) rfl
  have d1 := HB5.out.cell (i := 1) rfl
  go_wp2_with fail
  refine (HK4.out _ HN5.out).mono ?_
  rintro e w6 ⟨r6, rfl, m6, hr6⟩
  have e56 : r6 = r5 := by
    rw [Bool.eq_iff_iff]
    exact hr6.trans HR5.out.symm
  subst e56
  clear hr6 HR5
  have HN6 := Lib.hid (HN5.out.trans m6)
  have HA6 := Lib.hid (HA5.out.keep m6)
  have HB6 := Lib.hid (HB5.out.keep m6)
  clear c0 c1 c2 d0 d1 m6 HA5 HB5
  have c0 := HA6.out.cell (i := 0) rfl
  have c1 := HA6.out.cell (i := 1) rfl
  have c2 := HA6.out.cell (i := 2) rfl
  have d0 := HB6.out.cell (i := 0) rfl
  have d1 := HB6.out.cell (i := 1) rfl
  go_wp2_with fail
  refine (HK5.out _ HN6.out).mono ?_
  rintro e w7 ⟨n7, er7, rfl, m7, hp7⟩
  have HP7 := Lib.hid hp7
  clear hp7
  have HN7 := Lib.hid (HN6.out.trans m7)
  have HA7 := Lib.hid (HA6.out.keep m7)
  have HB7 := Lib.hid (HB6.out.keep m7)
  clear c0 c1 c2 d0 d1 m7 HA6 HB6
  have c0 := HA7.out.cell (i := 0) rfl
  have c1 := HA7.out.cell (i := 1) rfl
  have c2 := HA7.out.cell (i := 2) rfl
  have d0 := HB7.out.cell (i := 0) rfl
  have d1 := HB7.out.cell (i := 1) rfl
  go_wp2_with fail
  refine (HK6.out _ HN7.out).mono ?_
  rintro e w8 ⟨n8, er8, rfl, m8, hp8⟩
  obtain ⟨rfl, rfl⟩ := pathE_unique HP7.out hp8
  clear hp8 HP7
  have HN8 := Lib.hid (HN7.out.trans m8)
  have HA8 := Lib.hid (HA7.out.keep m8)
  have HB8 := Lib.hid (HB7.out.keep m8)
  clear c0 c1 c2 d0 d1 m8 HA7 HB7
  have c0 := HA8.out.cell (i := 0) rfl
  have c1 := HA8.out.cell (i := 1) rfl
  have c2 := HA8.out.cell (i := 2) rfl
  have d0 := HB8.out.cell (i := 0) rfl
  have d1 := HB8.out.cell (i := 1) rfl
  generalize checkE s = ce at *
  go_wp2_with fail
  go_ret
  exact ⟨rfl, HN8.out⟩
end Go.Proofs.YtodmbcoobjcooaaDoor
