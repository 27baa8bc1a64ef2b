/-
  Questions, told by functions: the specification's Closes, asked, relation; Interval, Relation of both. Condition: the system lies in memory.
-/
import Derived.Test.YtodmbcoobjcooaaDoorCkRfT
import Derived.Test.YtodmbcoobjcooaaDoorCkThrough
import Derived.Test.YtodmbcoobjcooaaDoorCkQry
namespace Go.Proofs.YtodmbcoobjcooaaDoor
open Go Go.RowKit Go.Shelf
attribute [local go_sem] Oper.semAt_some
/-- The error of a question, as a function. -/
noncomputable def askE (s : Sy) (l : List Rf) : Int := by classical exact if linesE s l ≠ 0 then linesE s l else if Closes (egs s) then 0 else 31
theorem askE_P (s : Sy) (l : List Rf) : ErrP s l (askE s l) := by
  unfold askE ErrP
  by_cases h : linesE s l = 0
  · by_cases h2 : Closes (egs s)
    · exact .inl ⟨by simp [h, h2], h, h2⟩
    · exact .inr ⟨by simp [h, h2], .inr ⟨h, h2, by simp [h, h2]⟩⟩
  · exact .inr ⟨by simp [h], .inl ⟨h, by simp [h]⟩⟩
theorem askE_eq {s : Sy} {l : List Rf} {er : Int} (h : ErrP s l er) : er = askE s l := h.unique (askE_P s l)
theorem askE_lines {s : Sy} {l : List Rf} (h : linesE s l ≠ 0) : askE s l = linesE s l := by simp [askE, h]
theorem askE_loop {s : Sy} {l : List Rf} (h : linesE s l = 0) (h2 : ¬Closes (egs s)) : askE s l = 31 := by simp [askE, h, h2]
theorem askE_ok {s : Sy} {l : List Rf} (h : linesE s l = 0) (h2 : Closes (egs s)) : askE s l = 0 := by simp [askE, h, h2]
theorem askE_zero {s : Sy} {l : List Rf} (h : askE s l = 0) : linesE s l = 0 ∧ Closes (egs s) := by
  have := askE_P s l
  rw [h] at this
  exact this.zero
noncomputable def clB (s : Sy) : Bool := by classical exact decide (Closes (egs s))
theorem clB_yes {s : Sy} (h : Closes (egs s)) : clB s = true := by simp [clB, h]
theorem clB_no {s : Sy} (h : ¬Closes (egs s)) : clB s = false := by simp [clB, h]
theorem sumI_ge {E : List Eg} {n : Nat} (hE : EOk E n 22001) : ∀ (l : List Nat) (u v : Nat), Lead E u l v → -(22001 * (l.length : Int)) ≤ sumI E l := by
  intro l
  induction l with
  | nil => intro u v _; simp [sumI]
  | cons j l ih =>
    rintro u v ⟨e, h1, h2, h3⟩
    have a := ih _ _ h3
    have b := hE.lo e (List.mem_of_getElem? h1)
    have c : costI E j = e.2.2 := by simp [costI, h1]
    rw [sumI, c, List.length_cons]
    push_cast
    omega
theorem mnW_in {s : Sy} (hs : Ok s) (hc : Closes (egs s)) {u v : Nat} (hu : u < nPl s) (hv : v < nPl s) : -600000000 ≤ mnW (egs s) u v ∧ mnW (egs s) u v ≤ 600000000 := by
  have hm := mnW_is hc hu hv
  obtain ⟨l, h1, h2⟩ := hm.1.lead
  obtain ⟨l', a1, a2, a3⟩ := short_lead (egs_ok hs) hc hu _ l v (Nat.le_refl _) h1
  have b1 := hm.2 _ a1.wk
  have b2 := sumI_ge (egs_ok hs) _ _ _ a1
  have b3 := sumI_le (egs_ok hs) _ _ _ a1
  have b4 := nPl_le hs
  omega
/-- The numbers that Interval and Relation answer. -/
noncomputable def ivLo (s : Sy) (r : Rf) : Int := if askE s [r] = 0 then -loF s (plc s r) else 0
noncomputable def ivHi (s : Sy) (r : Rf) : Int := if askE s [r] = 0 then hiF s (plc s r) else 0
noncomputable def rlLo (s : Sy) (a b : Rf) : Int := if askE s [a, b] = 0 then -mnW (egs s) (plc s b) (plc s a) else 0
noncomputable def rlHi (s : Sy) (a b : Rf) : Int := if askE s [a, b] = 0 then mnW (egs s) (plc s a) (plc s b) else 0
theorem iv_in (s : Sy) (r : Rf) : (-600000000 ≤ ivLo s r ∧ ivLo s r ≤ 600000000) ∧ -600000000 ≤ ivHi s r ∧ ivHi s r ≤ 600000000 := by
  unfold ivLo ivHi
  by_cases h : askE s [r] = 0
  · rw [if_pos h, if_pos h]
    obtain ⟨h1, h2⟩ := askE_zero h
    obtain ⟨h3, h4⟩ := linesE_ok.1 h1
    have hv := plc_lt (.inr (h4 r (by simp)) : RefOk s r)
    have := mnW_in h3 h2 (nPl_pos s) hv
    have := mnW_in h3 h2 hv (nPl_pos s)
    unfold hiF loF
    omega
  · rw [if_neg h, if_neg h]; decide
theorem rl_in (s : Sy) (a b : Rf) : (-600000000 ≤ rlLo s a b ∧ rlLo s a b ≤ 600000000) ∧ -600000000 ≤ rlHi s a b ∧ rlHi s a b ≤ 600000000 := by
  unfold rlLo rlHi
  by_cases h : askE s [a, b] = 0
  · rw [if_pos h, if_pos h]
    obtain ⟨h1, h2⟩ := askE_zero h
    obtain ⟨h3, h4⟩ := linesE_ok.1 h1
    have ha := plc_lt (.inr (h4 a (by simp)) : RefOk s a)
    have hb := plc_lt (.inr (h4 b (by simp)) : RefOk s b)
    have := mnW_in h3 h2 ha hb
    have := mnW_in h3 h2 hb ha
    omega
  · rw [if_neg h, if_neg h]; decide
theorem pk_Interval (s : Sy) (A D : Option Addr) (c d : Nat) (w : World) (hM : SysM w A D s) (hbeg : BegA w) (r : Rf) :
    Calls Tryd.prog 36 #[.agg #[.slice A s.tracks.length c, .slice D s.ties.length d, .int .i64 s.window], .agg #[.int .i64 r.log, .int .i64 r.line]] w fun e w' => e = .returned (.tuple #[.agg #[.int .i64 (ivLo s r), .int .i64 (ivHi s r)], .int .i64 (askE s [r])]) ∧ New w w' := by
  by_cases h1 : linesE s [r] = 0
  · obtain ⟨hs, h4⟩ := linesE_ok.1 h1
    have hr := h4 r (by simp)
    by_cases h2 : Closes (egs s)
    · have e := askE_ok h1 h2
      rw [ivLo, ivHi, if_pos e, if_pos e, e]
      exact (ck_IntervalC s hs h2 A D c d w hM hbeg r hr).mono fun e w' h => ⟨h.1, h.2⟩
    · have e := askE_loop h1 h2
      rw [ivLo, ivHi, if_neg (by rw [e]; decide), if_neg (by rw [e]; decide), e]
      exact ck_IntervalE2 s hs A D c d w hM hbeg h2 r hr
  · have e := askE_lines h1
    rw [ivLo, ivHi, if_neg (by rw [e]; exact h1), if_neg (by rw [e]; exact h1), e]
    exact ck_IntervalE1 s A D c d w hM hbeg r h1
theorem pk_Relation (s : Sy) (A D : Option Addr) (c d : Nat) (w : World) (hM : SysM w A D s) (hbeg : BegA w) (a b : Rf) :
    Calls Tryd.prog 40 #[.agg #[.slice A s.tracks.length c, .slice D s.ties.length d, .int .i64 s.window], .agg #[.int .i64 a.log, .int .i64 a.line], .agg #[.int .i64 b.log, .int .i64 b.line]] w fun e w' => e = .returned (.tuple #[.agg #[.int .i64 (rlLo s a b), .int .i64 (rlHi s a b)], .int .i64 (askE s [a, b])]) ∧ New w w' := by
  by_cases h1 : linesE s [a, b] = 0
  · obtain ⟨hs, h4⟩ := linesE_ok.1 h1
    have ha := h4 a (by simp)
    have hb := h4 b (by simp)
    by_cases h2 : Closes (egs s)
    · have e := askE_ok h1 h2
      rw [rlLo, rlHi, if_pos e, if_pos e, e]
      exact (ck_RelationC s hs h2 A D c d w hM hbeg a b ha hb).mono fun e w' h => ⟨h.1, h.2.1⟩
    · have e := askE_loop h1 h2
      rw [rlLo, rlHi, if_neg (by rw [e]; decide), if_neg (by rw [e]; decide), e]
      exact ck_RelationE2 s hs A D c d w hM hbeg h2 a b ha hb
  · have e := askE_lines h1
    rw [rlLo, rlHi, if_neg (by rw [e]; exact h1), if_neg (by rw [e]; exact h1), e]
    exact ck_RelationE1 s A D c d w hM a b h1
set_option maxRecDepth 100000 in
set_option maxHeartbeats 4000000 in
theorem rf_Closes (s : Sy) (hs : Ok s) (A D : Option Addr) (c d : Nat) (w : World) (hM : SysM w A D s) :
    Calls Tryd.prog 104 #[.agg #[.slice A s.tracks.length c, .slice D s.ties.length d, .int .i64 s.window]] w fun e w' => e = .returned (.bool (clB s)) ∧ New w w' := by
  have HRC : Hid (∀ w', New w w' → Calls Tryd.prog 77 #[.agg #[.slice A s.tracks.length c, .slice D s.ties.length d, .int .i64 s.window], .int .i64 0] w' fun e w'' => RchA s 0 w' e w'') := Lib.hid fun w' h => rf_reach s hs A D c d w' (hM.keep h) 0 (nPl_pos s)
  have n1 := (New.refl w).alloc (.cells #[.slice A s.tracks.length c, .slice D s.ties.length d, .int .i64 s.window] 25)
  have r0 := RowIs.new w 25 [.slice A s.tracks.length c, .slice D s.ties.length d, .int .i64 s.window]
  have HR0 := Lib.hid r0
  have HN := Lib.hid n1
  have c0 := r0.cell (i := 0) rfl
  have c1 := r0.cell (i := 1) rfl
  have c2 := r0.cell (i := 2) rfl
  clear n1 r0 hM
  go_enter Tryd.func104, Tryd.ntmps104
  go_wp2_with fail
  refine (HRC.out _ HN.out).mono ?_
  rintro e w1 ⟨a, b, h, dd, ff, rfl, m1, ha, hb, hh⟩
  have HN1 := Lib.hid (HN.out.trans m1)
  clear c0 c1 c2 m1 ha hb
  rcases hh with ⟨rfl, hc, -⟩ | ⟨hp, hc⟩
  · have HB := Lib.hid (clB_yes hc)
    clear hc
    go_wp2_with fail
    go_ret
    exact ⟨by rw [HB.out]; rfl, HN1.out⟩
  · have HB := Lib.hid (clB_no hc)
    have hd : decide (h < 0) = false := by simp; omega
    clear hc hp
    go_wp2_with fail
    go_ret
    exact ⟨by rw [HB.out]; rfl, HN1.out⟩
set_option maxRecDepth 100000 in
set_option maxHeartbeats 8000000 in
theorem rf_asked (s : Sy) (l : List Rf) (A D L : Option Addr) (c d lc : Nat) (w : World) (hM : SysM w A D s) (hL : RfsA w L l) :
    Calls Tryd.prog 75 #[.agg #[.slice A s.tracks.length c, .slice D s.ties.length d, .int .i64 s.window], .slice L l.length lc] w fun e w' => e = .returned (.int .i64 (askE s l)) ∧ New w w' := by
  have HM := Lib.hid hM
  have HL := Lib.hid hL
  have hll := hL.1
  have n1 := (New.refl w).alloc (.cells #[.slice A s.tracks.length c, .slice D s.ties.length d, .int .i64 s.window] 25)
  have r0 := RowIs.new w 25 [.slice A s.tracks.length c, .slice D s.ties.length d, .int .i64 s.window]
  have HR0 := Lib.hid r0
  have HN := Lib.hid n1
  have c0 := r0.cell (i := 0) rfl
  have c1 := r0.cell (i := 1) rfl
  have c2 := r0.cell (i := 2) rfl
  have HC := Lib.hid (rf_Check s A D c d _ (hM.keep n1))
  clear n1 r0 hM hL
  go_enter Tryd.func75, Tryd.ntmps75
  go_wp2_with fail
  refine HC.out.mono ?_
  rintro e w1 ⟨rfl, m1⟩
  have HN1 := Lib.hid (HN.out.trans m1)
  have HR1 := Lib.hid (HR0.out.keep m1)
  clear c0 c1 c2 m1 HR0 HN HC
  by_cases he : checkE s = 0
  · have HS : Hid (Ok s) := Lib.hid he
    have HCE := Lib.hid he
    rw [he]
    clear he
    go_wp2_with fail
    go_loopw [6] (fun i wr => ∃ k : Nat, k ≤ l.length ∧ i = .int .i64 k ∧ New w1 wr ∧ ∀ i, i < k → lineB s (l[i]?.getD default) = true) (fun i _ => l.length - (intOf i).toNat)
    case atStart => exact ⟨0, Nat.zero_le _, rfl, New.refl _, fun i h => absurd h (Nat.not_lt_zero i)⟩
    case round =>
      obtain ⟨k, hk, rfl, hn, hall⟩ := hrel
      have HA := Lib.hid hall
      have HNR := Lib.hid hn
      clear hn hall
      by_cases hlt : k < l.length
      · have ik : (k : Int) < (l.length : Int) := by omega
        obtain ⟨lb, lo, rfl, -, hc⟩ := (HL.out.keep (HN1.out.trans HNR.out)).2 (by omega)
        obtain ⟨q0, q1⟩ := hc k hlt
        have HSU : Hid (lineB s (l[k]?.getD default) = true → ∀ i, i < k + 1 → lineB s (l[i]?.getD default) = true) := Lib.hid fun h i hi => by
          by_cases e : i < k
          · exact HA.out i e
          · obtain rfl : i = k := by omega
            exact h
        have HNO : Hid (lineB s (l[k]?.getD default) = false → askE s l = 3) := Lib.hid fun h => by
          have e : linesE s l = 3 := by
            unfold linesE
            rw [if_neg (by rw [HCE.out]; decide), if_neg]
            intro ha
            rw [List.all_eq_true] at ha
            have := ha _ (List.getElem_mem hlt)
            rw [List.getElem?_eq_getElem hlt] at h
            rw [Option.getD_some] at h
            rw [h] at this
            cases this
          rw [askE_lines (by rw [e]; decide), e]
        clear hc
        generalize l[k]?.getD default = q at *
        obtain ⟨ql, qn⟩ := q
        dsimp only at q0 q1
        have HHS : Hid (∀ w', New wr w' → Calls Tryd.prog 72 #[.agg #[.slice A s.tracks.length c, .slice D s.ties.length d, .int .i64 s.window], .agg #[.int .i64 ql, .int .i64 qn]] w' fun e w'' => e = .returned (.bool (lineB s ⟨ql, qn⟩)) ∧ New w' w'') := Lib.hid fun w' h => rf_Has s ⟨ql, qn⟩ A D c s.ties.length d s.window w' (HM.out.keep (HN1.out.trans (HNR.out.trans h))).1
        have HSD : Hid (∀ w', New wr w' → (fun w' => (w'.cell? ⟨w.heap.size, 0, none⟩ = some (.slice A s.tracks.length c) ∧ w'.cell? ⟨w.heap.size, 1, none⟩ = some (.slice D s.ties.length d) ∧ w'.cell? ⟨w.heap.size, 2, none⟩ = some (.int .i64 s.window)) ∧ w'.cell? ⟨lb, lo + k * 2, none⟩ = some (.int .i64 ql) ∧ w'.cell? ⟨lb, lo + k * 2 + 1, none⟩ = some (.int .i64 qn)) w') := Lib.hid fun w' h => ⟨⟨(HR1.out.keep (HNR.out.trans h)).cell rfl, (HR1.out.keep (HNR.out.trans h)).cell rfl, (HR1.out.keep (HNR.out.trans h)).cell rfl⟩, h.cellOf q0, h.cellOf q1⟩
        dsimp only at HSD
        clear q0 q1
        generalize lineB s ⟨ql, qn⟩ = lb2 at *
        go_wp2_with fail
        refine region_plain (by kernel_rfl) (wpAny_of_held (S := (fun w' => (w'.cell? ⟨w.heap.size, 0, none⟩ = some (.slice A s.tracks.length c) ∧ w'.cell? ⟨w.heap.size, 1, none⟩ = some (.slice D s.ties.length d) ∧ w'.cell? ⟨w.heap.size, 2, none⟩ = some (.int .i64 s.window)) ∧ w'.cell? ⟨lb, lo + k * 2, none⟩ = some (.int .i64 ql) ∧ w'.cell? ⟨lb, lo + k * 2 + 1, none⟩ = some (.int .i64 qn))) _ _ _ _ ?_)
        change wpAnyH _ _ _ _ _ _ _ _ wr.drew
        have hS := HSD.out wr.drew (New.refl wr).drew
        refine wpAnyH_take (i := 0) (v := ?_) rfl (by kernel_rfl) (by kernel_rfl) (by kernel_rfl) (fun _ _ _ h => h) (Or.inl ⟨by rfl, fun w' hS' => ?_⟩) hS ?_
        rotate_left
        · obtain ⟨⟨s0, s1, s2⟩, s3, s4⟩ := hS'
          go_simp
          try rfl
        try simp only [List.getElem_toArray, List.getElem_cons_zero, Act.put, List.setIfInBounds_toArray, List.set_cons_zero, List.set_cons_succ]
        refine wpAnyH_take (i := 1) (v := ?_) rfl (by kernel_rfl) (by kernel_rfl) (by kernel_rfl) (fun _ _ _ h => h) (Or.inl ⟨by rfl, fun w' hS' => ?_⟩) hS ?_
        rotate_left
        · obtain ⟨⟨s0, s1, s2⟩, s3, s4⟩ := hS'
          go_simp
          try rfl
        try simp only [List.getElem_toArray, List.getElem_cons_zero, List.getElem_cons_succ, Act.put, List.setIfInBounds_toArray, List.set_cons_zero, List.set_cons_succ]
        refine wpAnyH_take (i := 2) (v := ?_) rfl (by kernel_rfl) (by kernel_rfl) (by kernel_rfl) (fun _ _ _ h => h) (Or.inl ⟨by rfl, fun w' hS' => ?_⟩) hS ?_
        rotate_left
        · obtain ⟨⟨s0, s1, s2⟩, s3, s4⟩ := hS'
          go_simp
          try rfl
        try simp only [List.getElem_toArray, List.getElem_cons_zero, List.getElem_cons_succ, Act.put, List.setIfInBounds_toArray, List.set_cons_zero, List.set_cons_succ]
        refine wpAnyH_take (i := 3) (v := ?_) rfl (by kernel_rfl) (by kernel_rfl) (by kernel_rfl) (fun _ _ _ h => h) (Or.inl ⟨by rfl, fun w' hS' => ?_⟩) hS ?_
        rotate_left
        · obtain ⟨⟨s0, s1, s2⟩, s3, s4⟩ := hS'
          go_simp
          try rfl
        try simp only [List.getElem_toArray, List.getElem_cons_zero, List.getElem_cons_succ, Act.put, List.setIfInBounds_toArray, List.set_cons_zero, List.set_cons_succ]
        refine wpAnyH_take (i := 4) (v := ?_) rfl (by kernel_rfl) (by kernel_rfl) (by kernel_rfl) (fun _ _ _ h => h) (Or.inl ⟨by rfl, fun w' hS' => ?_⟩) hS ?_
        rotate_left
        · obtain ⟨⟨s0, s1, s2⟩, s3, s4⟩ := hS'
          go_simp
          try rfl
        try simp only [List.getElem_toArray, List.getElem_cons_zero, List.getElem_cons_succ, Act.put, List.setIfInBounds_toArray, List.set_cons_zero, List.set_cons_succ]
        clear hS
        refine wpAnyH_ready (rs := [5]) (by kernel_rfl) (by simp) ?_
        refine AllReadyH.cons rfl (fun K hK => ?_) AllReadyH.nil
        go_simp
        refine (HHS.out _ ((New.refl wr).drew)).mono ?_
        rintro e w7 ⟨rfl, mw7⟩
        have nw7 := ((New.refl wr).drew).trans mw7
        refine hK.out _ _ (HSD.out w7 nw7) (fun hS => ?_)
        clear hK K
        try simp only [List.getElem_toArray, List.getElem_cons_zero, List.getElem_cons_succ, Act.put, List.setIfInBounds_toArray, List.set_cons_zero, List.set_cons_succ]
        refine wpAnyH_take (i := 6) (v := ?_) rfl (by kernel_rfl) (by kernel_rfl) (by kernel_rfl) (fun _ _ _ h => h) (Or.inl ⟨by rfl, fun w' hS' => ?_⟩) hS ?_
        rotate_left
        · obtain ⟨⟨s0, s1, s2⟩, s3, s4⟩ := hS'
          go_simp
          try rfl
        try simp only [List.getElem_toArray, List.getElem_cons_zero, List.getElem_cons_succ, Act.put, List.setIfInBounds_toArray, List.set_cons_zero, List.set_cons_succ]
        clear hS
        refine wpAnyH_done (by kernel_rfl) ?_ _
        unfold NormQ
        dsimp only [Exit.then]
        have HN7 := Lib.hid (HNR.out.trans nw7)
        clear mw7 nw7 HSD HHS
        cases lb2 with
        | true =>
          have HS2 := Lib.hid (HSU.out rfl)
          go_wp2_with fail
          go_roundw
          case rel => exact ⟨k + 1, by omega, by go_num, HN7.out, HS2.out⟩
          case measure => simp [intOf]; omega
        | false =>
          have HS2 := Lib.hid (HNO.out rfl)
          go_wp2_with fail
          go_ret
          exact ⟨by rw [HS2.out]; rfl, HN1.out.trans HN7.out⟩
      · obtain rfl : k = l.length := by omega
        have HLE : Hid (linesE s l = 0) := Lib.hid (linesE_ok.2 ⟨HS.out, fun r hr => by
          obtain ⟨i, hi, rfl⟩ := List.mem_iff_getElem.1 hr
          have := HA.out i hi
          rwa [List.getElem?_eq_getElem hi] at this⟩)
        have c0 := (HR1.out.keep HNR.out).cell (i := 0) rfl
        have c1 := (HR1.out.keep HNR.out).cell (i := 1) rfl
        have c2 := (HR1.out.keep HNR.out).cell (i := 2) rfl
        go_wp2_with fail
        refine (rf_Closes s HS.out A D c d _ (HM.out.keep (HN1.out.trans HNR.out))).mono ?_
        rintro e w8 ⟨rfl, m8⟩
        have HN8 := Lib.hid (HN1.out.trans (HNR.out.trans m8))
        clear c0 c1 c2 m8
        by_cases hcl : Closes (egs s)
        · have HE := Lib.hid (askE_ok HLE.out hcl)
          rw [clB_yes hcl]
          go_wp2_with fail
          go_ret
          exact ⟨by rw [HE.out]; rfl, HN8.out⟩
        · have HE := Lib.hid (askE_loop HLE.out hcl)
          rw [clB_no hcl]
          go_wp2_with fail
          go_ret
          exact ⟨by rw [HE.out]; rfl, HN8.out⟩
  · have hne : (checkE s != 0) = true := by simp [he]
    have HE : Hid (askE s l = checkE s) := Lib.hid (by
      have e : linesE s l = checkE s := by unfold linesE; rw [if_pos he]
      rw [askE_lines (by rw [e]; exact he), e])
    generalize checkE s = er at *
    go_wp2_with fail
    go_ret
    exact ⟨by rw [HE.out]; rfl, HN1.out⟩
set_option maxRecDepth 100000 in
set_option maxHeartbeats 8000000 in
theorem rf_relation (s : Sy) (hs : Ok s) (hc : Closes (egs s)) (u v : Nat) (hu : u < nPl s) (hv : v < nPl s) (A D : Option Addr) (c d : Nat) (w : World) (hM : SysM w A D s) :
    Calls Tryd.prog 87 #[.agg #[.slice A s.tracks.length c, .slice D s.ties.length d, .int .i64 s.window], .int .i64 u, .int .i64 v] w fun e w' => e = .returned (.agg #[.int .i64 (-mnW (egs s) v u), .int .i64 (mnW (egs s) u v)]) ∧ New w w' := by
  have HRC : Hid (∀ w' x, x < nPl s → New w w' → _) := Lib.hid fun w' x hx h => rf_reach s hs A D c d w' (hM.keep h) x hx
  have n2 := ((New.refl w).alloc (.cells #[.slice A s.tracks.length c, .slice D s.ties.length d, .int .i64 s.window] 25)).alloc (.cells #[.int .i64 0, .int .i64 0] 55)
  have r0 := (RowIs.new w 25 [.slice A s.tracks.length c, .slice D s.ties.length d, .int .i64 s.window]).keep ((New.refl _).alloc (.cells #[.int .i64 0, .int .i64 0] 55))
  have r1 := RowIs.new (w.alloc (.cells #[.slice A s.tracks.length c, .slice D s.ties.length d, .int .i64 s.window] 25)) 55 [.int .i64 0, .int .i64 0]
  simp only [World.size_alloc] at r1
  have HR0 := Lib.hid r0
  have HR1 := Lib.hid r1
  have HN := Lib.hid n2
  have HC := Lib.hid hc
  have HU := Lib.hid hu
  have HV := Lib.hid hv
  have HB2 := Lib.hid (mnW_in hs hc hv hu)
  have hnp := nPl_le hs
  have c0 := r0.cell (i := 0) rfl
  have c1 := r0.cell (i := 1) rfl
  have c2 := r0.cell (i := 2) rfl
  clear n2 r0 r1 hM hs hc hu hv
  go_enter Tryd.func87, Tryd.ntmps87
  go_wp2_with fail
  refine (HRC.out _ u HU.out HN.out).mono ?_
  rintro e w1 ⟨a1, b1, h1, d1, f1, rfl, m1, ha1, -, hh1⟩
  have e1 : ∀ v, v < nPl s → MinW (egs s) u v (d1 v) := by
    rcases hh1 with ⟨-, -, h⟩ | ⟨-, h⟩
    · exact h
    · exact absurd HC.out h
  have HD1 : Hid (d1 v = mnW (egs s) u v) := Lib.hid (mnW_eq (e1 v HV.out)).symm
  have HN1 := Lib.hid (HN.out.trans m1)
  have HX0 := Lib.hid (HR0.out.keep m1)
  have HX1 := Lib.hid (HR1.out.keep m1)
  have HA1 := Lib.hid ha1
  clear c0 c1 c2 m1 ha1 hh1 e1 HR0 HR1 HN
  have c0 := HX0.out.cell (i := 0) rfl
  have c1 := HX0.out.cell (i := 1) rfl
  have c2 := HX0.out.cell (i := 2) rfl
  go_wp2_with fail
  refine (HRC.out _ v HV.out HN1.out).mono ?_
  rintro e w2 ⟨a2, b2, h2, d2, f2, rfl, m2, ha2, -, hh2⟩
  have e2 : ∀ x, x < nPl s → MinW (egs s) v x (d2 x) := by
    rcases hh2 with ⟨-, -, h⟩ | ⟨-, h⟩
    · exact h
    · exact absurd HC.out h
  have HD2 : Hid (d2 u = mnW (egs s) v u) := Lib.hid (mnW_eq (e2 u HU.out)).symm
  have HN2 := Lib.hid (HN1.out.trans m2)
  have HY1 := Lib.hid (HX1.out.keep m2)
  have x1 := (HA1.out.keep m2).cell (fnRow_get (f := d1) HV.out)
  have x2 := ha2.cell (fnRow_get (f := d2) HU.out)
  rw [HD1.out] at x1
  rw [HD2.out] at x2
  have y0 := HY1.out.cell (i := 0) rfl
  have y1 := HY1.out.cell (i := 1) rfl
  have f0 := HY1.out.free 0
  have f1 := HY1.out.free 1
  have iu : (u : Int) < (nPl s : Int) := by have := HU.out; omega
  have iv : (v : Int) < (nPl s : Int) := by have := HV.out; omega
  clear c0 c1 c2 m2 ha2 hh2 e2 HX0 HX1 HA1 HN1 HRC HD1 HD2
  generalize hx : mnW (egs s) u v = x at *
  generalize hy : mnW (egs s) v u = y at *
  have HXE := Lib.hid hx
  have HYE := Lib.hid hy
  clear hx hy
  have hw : IntKind.i64.wrap (-y) = -y := IntWalk.i64_in _ (by have := HB2.out; omega)
  have hw0 : IntKind.i64.wrap (0 - y) = -y := by rw [IntWalk.i64_in _ (by have := HB2.out; omega)]; omega
  generalize nPl s = n at *
  go_wp2_with fail
  try simp only [List.append_eq, List.cons_append, List.nil_append]
  refine region_tailq 10 (by kernel_rfl) (by kernel_rfl) ?_
  simp only [List.take_succ_cons, List.take_zero]
  repeat (go_big_quiet_step (fail))
  refine wpQuiet_nil ?_
  simp only [List.drop_succ_cons, List.drop_zero]
  have HZ := Lib.hid ((HY1.out.put 0 (.int .i64 (-y))).put 1 (.int .i64 x))
  have HNZ := Lib.hid ((HN2.out.setCell (p := ⟨w.heap.size + 1, 0, none⟩) (by show w.heap.size ≤ w.heap.size + 1; omega) (.int .i64 (-y))).setCell (p := ⟨w.heap.size + 1, 1, none⟩) (by show w.heap.size ≤ w.heap.size + 1; omega) (.int .i64 x))
  go_wp2_with fail
  clear x1 x2 y0 y1 f0 f1
  have e0 : (((w2.setCell ⟨w.heap.size + 1, 0, none⟩ (.int .i64 (-y))).setCell ⟨w.heap.size + 1, 1, none⟩ (.int .i64 x)).drew).cell? ⟨w.heap.size + 1, 0, none⟩ = some (.int .i64 (-y)) := HZ.out.drew.cell rfl
  have e1 : (((w2.setCell ⟨w.heap.size + 1, 0, none⟩ (.int .i64 (-y))).setCell ⟨w.heap.size + 1, 1, none⟩ (.int .i64 x)).drew).cell? ⟨w.heap.size + 1, 1, none⟩ = some (.int .i64 x) := HZ.out.drew.cell rfl
  have HNW := Lib.hid HNZ.out.drew
  generalize ((w2.setCell ⟨w.heap.size + 1, 0, none⟩ (.int .i64 (-y))).setCell ⟨w.heap.size + 1, 1, none⟩ (.int .i64 x)).drew = W9 at *
  refine bodyPost_ret (v := .agg #[.int .i64 (-y), .int .i64 x]) (by simp [results, Tryd.results87]; go_simp) rfl ?_
  exact ⟨by rw [HXE.out, HYE.out], HNW.out⟩
end Go.Proofs.YtodmbcoobjcooaaDoor
