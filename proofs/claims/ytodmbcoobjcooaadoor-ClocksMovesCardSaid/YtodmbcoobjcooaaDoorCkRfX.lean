/-
  The specification: Times. Condition: the system lies in memory.
  The specification: ends, SameSpans, SameTimes, Earliest, Latest; Times, Earliest and Latest of the program, told by functions. Condition: what they ask for lies in memory.
  ClocksTimes, its walk; Earliest and Latest of the specification. Condition: the system lies in memory, the variable beginning holds what the program's text lays.
-/
import Derived.Test.YtodmbcoobjcooaaDoorCkRfW
import Derived.Test.YtodmbcoobjcooaaDoorCkSpans
import Derived.Test.YtodmbcoobjcooaaDoorCkAwake
namespace Go.Proofs.YtodmbcoobjcooaaDoor
open Go Go.RowKit Go.Shelf
attribute [local go_sem] Oper.semAt_some
/-- The spans of all lines, none where there is an error. -/
noncomputable def tmR (s : Sy) : List (List Spn) := if askE s [] = 0 then rowsK s (hiF s) (loF s) s.tracks.length else []
theorem ask_nil {s : Sy} (h : askE s [] = 0) : Ok s ∧ Closes (egs s) := by
  obtain ⟨h1, h2⟩ := askE_zero h
  exact ⟨(linesE_ok.1 h1).1, h2⟩
theorem sss_nil (w : World) : SssA w none [] := ⟨by simp, fun h => absurd h (Nat.not_lt_zero _)⟩
/-- What Times answers. -/
def TmsA (s : Sy) (w : World) (e : Ending) (w' : World) : Prop := ∃ B bc, e = .returned (.tuple #[.slice B (tmR s).length bc, .int .i64 (askE s [])]) ∧ New w w' ∧ SssA w' B (tmR s)
set_option maxRecDepth 100000 in
set_option maxHeartbeats 16000000 in
theorem rf_Times (s : Sy) (A D : Option Addr) (c d : Nat) (w : World) (hM : SysM w A D s) :
    Calls Tryd.prog 29 #[.agg #[.slice A s.tracks.length c, .slice D s.ties.length d, .int .i64 s.window]] w fun e w' => TmsA s w e w' := by
  have n1 := (New.refl w).alloc (.cells #[.slice A s.tracks.length c, .slice D s.ties.length d, .int .i64 s.window] 25)
  have r0 := RowIs.new w 25 [.slice A s.tracks.length c, .slice D s.ties.length d, .int .i64 s.window]
  have HAS : Hid (∀ w', New w w' → Calls Tryd.prog 75 #[.agg #[.slice A s.tracks.length c, .slice D s.ties.length d, .int .i64 s.window], .slice none 0 0] w' fun e w'' => e = .returned (.int .i64 (askE s [])) ∧ New w' w'') := Lib.hid fun w' h => rf_asked s [] A D none c d 0 w' (hM.keep h) ⟨by simp, fun h => absurd h (Nat.not_lt_zero _)⟩
  have HR0 := Lib.hid r0
  have HN := Lib.hid n1
  have HM := Lib.hid hM
  have c0 := r0.cell (i := 0) rfl
  have c1 := r0.cell (i := 1) rfl
  have c2 := r0.cell (i := 2) rfl
  clear n1 r0 hM
  go_enter Tryd.func29, Tryd.ntmps29
  go_wp2_with fail
  refine (HAS.out _ HN.out).mono ?_
  rintro e w1 ⟨rfl, m1⟩
  have HN1 := Lib.hid (HN.out.trans m1)
  have HA1 := Lib.hid (HR0.out.keep m1)
  clear c0 c1 c2 m1 HR0 HN HAS
  by_cases he : askE s [] = 0
  · obtain ⟨hs, hc⟩ := ask_nil he
    have HS := Lib.hid hs
    have HC := Lib.hid hc
    have HE := Lib.hid he
    have HTR : Hid (tmR s = rowsK s (hiF s) (loF s) s.tracks.length) := Lib.hid (by unfold tmR; rw [if_pos he])
    have h64 := (checkE_ok hs).1
    have hnp := nPl_le hs
    have HRC : Hid (∀ w', New w w' → Calls Tryd.prog 77 #[.agg #[.slice A s.tracks.length c, .slice D s.ties.length d, .int .i64 s.window], .int .i64 0] w' fun e w'' => RchA s 0 w' e w'') := Lib.hid fun w' h => rf_reach s hs A D c d w' (HM.out.keep h) 0 (nPl_pos s)
    have HBK : Hid (∀ w', New w w' → _) := Lib.hid fun w' h => rf_backward s hs hc A D c d w' (HM.out.keep h)
    have c0 := HA1.out.cell (i := 0) rfl
    have c1 := HA1.out.cell (i := 1) rfl
    have c2 := HA1.out.cell (i := 2) rfl
    have q0 := HA1.out.lt
    rw [he]
    clear he hs hc
    go_wp2_with fail
    refine (rf_spots s HS.out A D c d _ (HM.out.keep HN1.out)).mono ?_
    rintro e w2 ⟨FA, fc, rfl, hF, m2⟩
    have na := (New.refl w2).alloc (.cells #[.slice FA s.tracks.length fc, .int .i64 (nPl s)] 102)
    have HX := Lib.hid (RowIs.new w2 102 [.slice FA s.tracks.length fc, .int .i64 (nPl s)])
    have HF := Lib.hid (hF.keep na)
    have HN2 := Lib.hid (HN1.out.trans (m2.trans na))
    have HA2 := Lib.hid (HA1.out.keep (m2.trans na))
    clear c0 c1 c2 q0 hF m2 na HA1 HN1
    have c0 := HA2.out.cell (i := 0) rfl
    have c1 := HA2.out.cell (i := 1) rfl
    have c2 := HA2.out.cell (i := 2) rfl
    go_wp2_with fail
    generalize w2.alloc (.cells #[.slice FA s.tracks.length fc, .int .i64 (nPl s)] 102) = w3 at *
    generalize w2.heap.size = X at *
    refine (HRC.out _ HN2.out).mono ?_
    rintro e w4 ⟨a1, b1, h1, d1, f1, rfl, m4, ha1, -, hh1⟩
    have e1 : ∀ v, v < nPl s → MinW (egs s) 0 v (d1 v) := by
      rcases hh1 with ⟨-, -, h⟩ | ⟨-, h⟩
      · exact h
      · exact absurd HC.out h
    have HD1 : Hid (RowIs w4 a1 3 (fnRow (nPl s) (hiF s))) := Lib.hid (by
      have h := fnRow_congr2 (n := nPl s) (f := hiF s) (g := d1) (fun i hi => mnW_eq (e1 i hi))
      rw [h]
      exact ha1)
    have HN4 := Lib.hid (HN2.out.trans m4)
    have HA4 := Lib.hid (HA2.out.keep m4)
    have HX4 := Lib.hid (HX.out.keep m4)
    have HF4 := Lib.hid (HF.out.keep m4)
    clear c0 c1 c2 m4 ha1 hh1 e1 HA2 HN2 HX HF
    have c0 := HA4.out.cell (i := 0) rfl
    have c1 := HA4.out.cell (i := 1) rfl
    have c2 := HA4.out.cell (i := 2) rfl
    go_wp2_with fail
    refine (HBK.out _ HN4.out).mono ?_
    rintro e w5 ⟨a2, d2, rfl, m5, ha2, hd2⟩
    have HD2 : Hid (RowIs w5 a2 3 (fnRow (nPl s) (loF s))) := Lib.hid (by
      have h := fnRow_congr2 (n := nPl s) (f := loF s) (g := d2) (fun i hi => (hd2 i hi).symm)
      rw [h]
      exact ha2)
    have HD15 := Lib.hid (HD1.out.keep m5)
    have HN5 := Lib.hid (HN4.out.trans m5)
    have HA5 := Lib.hid (HA4.out.keep m5)
    have HX5 := Lib.hid (HX4.out.keep m5)
    have HF5 := Lib.hid (HF4.out.keep m5)
    clear c0 c1 c2 m5 ha2 hd2 HA4 HN4 HX4 HF4 HD1 HRC HBK
    obtain ⟨i0, hi0, hz0, hz1, hz2⟩ := info_parts info_span
    obtain ⟨i1, hi1, hy0, hy1, hy2⟩ := info_parts info_spans
    have HI : Hid ((Tryd.prog.info? 55 = some i0 ∧ i0.zero = some (.agg #[.int .i64 0, .int .i64 0]) ∧ i0.size = 2 ∧ i0.bytes = 16) ∧ (Tryd.prog.info? 73 = some i1 ∧ i1.zero = some (.slice none 0 0) ∧ i1.size = 1 ∧ i1.bytes = 24)) := Lib.hid ⟨⟨hi0, hz0, hz1, hz2⟩, hi1, hy0, hy1, hy2⟩
    clear hi0 hz0 hz1 hz2 hi1 hy0 hy1 hy2
    have HOF : Hid (∀ w' i j, i < s.tracks.length → j < (tkAt s i).times.length → New w5 w' → _) := Lib.hid fun w' i j hi hj h => rf_of s HS.out FA fc (nPl s) ⟨i, j⟩ (.inr (line_mk hi hj)) w' (HF5.out.keep h)
    have HPB : Hid (∀ i j, i < s.tracks.length → j < (tkAt s i).times.length → plc s ⟨i, j⟩ < nPl s ∧ (-600000000 ≤ loF s (plc s ⟨i, j⟩) ∧ loF s (plc s ⟨i, j⟩) ≤ 600000000)) := Lib.hid fun i j hi hj => by
      have h := plc_lt (.inr (line_mk hi hj) : RefOk s ⟨i, j⟩)
      exact ⟨h, mnW_in HS.out HC.out h (nPl_pos s)⟩
    generalize hnn : nPl s = n at *
    have HNN := Lib.hid hnn
    clear hnn
    go_wp2_with fail
    go_loopw [10, 11] (fun V i wr => ∃ k : Nat, k ≤ s.tracks.length ∧ i = .int .i64 k ∧ New w5 wr ∧ AllIn wr w5.heap.size V (rowsK s (hiF s) (loF s) k)) (fun _ i _ => s.tracks.length - (intOf i).toNat)
    case atStart => exact ⟨0, Nat.zero_le _, rfl, New.refl _, AllIn.nil _ _⟩
    case round =>
      obtain ⟨k, hk, rfl, hn, ha⟩ := hrel
      have HNR := Lib.hid hn
      have c0 := (HA5.out.keep hn).cell (i := 0) rfl
      by_cases hlt : k < s.tracks.length
      · have ik : (k : Int) < (s.tracks.length : Int) := by omega
        obtain ⟨outs, hoo, hin⟩ := ha
        rw [rowsK_len] at hoo hin
        obtain ⟨VB, vc, rfl⟩ := owns_form hoo
        have HOO := Lib.hid hoo
        have HIN := Lib.hid hin
        have hl4 := (trackB_facts (HS.out.track hlt)).2.2.2.2.2.1
        have HTK : Hid (∀ w', New w5 w' → ∃ b off, A = some ⟨b, off, none⟩ ∧ TkC w' b (off + k * 4) (tkAt s k)) := Lib.hid fun w' h => by
          obtain ⟨b, off, e, -, hc⟩ := (HM.out.1.keep (HN5.out.trans h)).2 (by omega)
          exact ⟨b, off, e, hc k hlt⟩
        obtain ⟨tb, toff, rfl, -⟩ := HTK.out _ HNR.out
        clear hoo hin hn
        generalize htl : (tkAt s k).times.length = tl at *
        have HTL := Lib.hid htl
        clear htl
        go_wp2_with fail
        clear c0
        obtain ⟨wo, hwo⟩ : ∃ wo, wo = wr := ⟨_, rfl⟩
        subst hwo
        go_loopw [12, 13] (fun L i w' => ∃ j : Nat, j ≤ tl ∧ i = .int .i64 j ∧ New wo w' ∧ w'.ownsRow wo.heap.size 55 2 L j ((rowK s (hiF s) (loF s) k j).flatMap spC)) (fun _ i _ => tl - (intOf i).toNat)
        case atStart => exact ⟨0, Nat.zero_le _, rfl, New.refl _, World.ownsRow_nil _ _ _ _⟩
        case round =>
          obtain ⟨j, hj, rfl, hnk, how⟩ := hrel
          obtain ⟨LA, lc, rfl⟩ := owns_form how
          have HNK := Lib.hid hnk
          have HOW := Lib.hid how
          have HN6 := Lib.hid (HNR.out.trans hnk)
          obtain ⟨tb2, toff2, eA, htk⟩ := HTK.out _ HN6.out
          obtain ⟨rfl, rfl⟩ : tb = tb2 ∧ toff = toff2 := by simpa using eA
          obtain ⟨JA, jc, TA, tc, z0, z1, z2, z3, -, -⟩ := htk
          have c0 := (HA5.out.keep HN6.out).cell (i := 0) rfl
          clear eA
          rw [HTL.out] at z3
          clear hnk how z0 z1 z2
          by_cases hjt : j < tl
          · have i2 : (j : Int) < (tl : Int) := by omega
            have HO2 := Lib.hid (HOF.out _ k j hlt (by rw [HTL.out]; exact hjt) HN6.out)
            obtain ⟨hp, hlo⟩ := HPB.out k j hlt (by rw [HTL.out]; exact hjt)
            have HRS := Lib.hid (rowK_succ s (hiF s) (loF s) k j)
            have x0 := (HX5.out.keep HN6.out).cell (i := 0) rfl
            have x1 := (HX5.out.keep HN6.out).cell (i := 1) rfl
            generalize hrk : (rowK s (hiF s) (loF s) k (j + 1)) = RK at *
            have HRK := Lib.hid hrk
            clear hrk
            generalize plc s ⟨k, j⟩ = p at *
            go_wp2_with fail
            refine HO2.out.mono ?_
            rintro e w7 ⟨rfl, m7⟩
            have HN7 := Lib.hid (HN6.out.trans m7)
            have HR17 := Lib.hid (HD15.out.keep HN7.out)
            have HR27 := Lib.hid (HD2.out.keep HN7.out)
            have HOW7 := Lib.hid (owns_keep HOW.out m7)
            have HNK7 := Lib.hid (HNK.out.trans m7)
            have ip : (p : Int) < (n : Int) := by omega
            generalize hx : hiF s p = x at *
            generalize hy : loF s p = y at *
            have HX := Lib.hid hx
            have HY := Lib.hid hy
            clear hx hy
            have hw : IntKind.i64.wrap (-y) = -y := IntWalk.i64_in _ (by omega)
            have hw0 : IntKind.i64.wrap (0 - y) = -y := by rw [IntWalk.i64_in _ (by omega)]; omega
            clear c0 x0 x1 z3 m7 HOW HNK HN6 HO2
            go_wp2_with fail
            refine region_plain (by kernel_rfl) (wpAny_of_held (S := (fun w' => w'.cell? ⟨a2, p, none⟩ = some (.int .i64 y) ∧ w'.cell? ⟨a1, p, none⟩ = some (.int .i64 x))) _ _ _ _ ?_)
            change wpAnyH _ _ _ _ _ _ _ _ w7.drew
            have HN78 := Lib.hid ((New.refl w7).drew)
            have HNK8 := Lib.hid (HNK7.out.trans HN78.out)
            have HOW8 := Lib.hid (owns_keep HOW7.out HN78.out)
            have HR18 := Lib.hid (HR17.out.keep HN78.out)
            have HR28 := Lib.hid (HR27.out.keep HN78.out)
            clear HNK7 HOW7 HN7 HN78 HR17 HR27
            generalize w7.drew = w8 at *
            have hS : (fun w' => w'.cell? ⟨a2, p, none⟩ = some (.int .i64 y) ∧ w'.cell? ⟨a1, p, none⟩ = some (.int .i64 x)) w8 := ⟨HY.out ▸ HR28.out.cell (fnRow_get (f := loF s) hp), HX.out ▸ HR18.out.cell (fnRow_get (f := hiF s) hp)⟩
            refine wpAnyH_take (i := 0) (v := ?_) rfl (by kernel_rfl) (by kernel_rfl) (by kernel_rfl) (fun _ _ _ h => h) (Or.inl ⟨by rfl, fun w' hS' => ?_⟩) hS ?_
            rotate_left
            · obtain ⟨s0, s1⟩ := hS'
              go_simp
              try rfl
            try simp only [List.getElem_toArray, List.getElem_cons_zero, Act.put, List.setIfInBounds_toArray, List.set_cons_zero, List.set_cons_succ]
            refine wpAnyH_take (i := 1) (v := ?_) rfl (by kernel_rfl) (by kernel_rfl) (by kernel_rfl) (fun _ _ _ h => h) (Or.inl ⟨by rfl, fun w' hS' => ?_⟩) hS ?_
            rotate_left
            · obtain ⟨s0, s1⟩ := hS'
              go_simp
              try rfl
            try simp only [List.getElem_toArray, List.getElem_cons_zero, List.getElem_cons_succ, Act.put, List.setIfInBounds_toArray, List.set_cons_zero, List.set_cons_succ]
            refine wpAnyH_take (i := 2) (v := ?_) rfl (by kernel_rfl) (by kernel_rfl) (by kernel_rfl) (fun _ _ _ h => h) (Or.inl ⟨by rfl, fun w' hS' => ?_⟩) hS ?_
            rotate_left
            · obtain ⟨s0, s1⟩ := hS'
              go_simp
              try rfl
            try simp only [List.getElem_toArray, List.getElem_cons_zero, List.getElem_cons_succ, Act.put, List.setIfInBounds_toArray, List.set_cons_zero, List.set_cons_succ]
            refine wpAnyH_take (i := 3) (v := ?_) rfl (by kernel_rfl) (by kernel_rfl) (by kernel_rfl) (fun _ _ _ h => h) (Or.inl ⟨by rfl, fun w' hS' => ?_⟩) hS ?_
            rotate_left
            · obtain ⟨s0, s1⟩ := hS'
              go_simp
              try rfl
            try simp only [List.getElem_toArray, List.getElem_cons_zero, List.getElem_cons_succ, Act.put, List.setIfInBounds_toArray, List.set_cons_zero, List.set_cons_succ]
            refine wpAnyH_take (i := 4) (v := ?_) rfl (by kernel_rfl) (by kernel_rfl) (by kernel_rfl) (fun _ _ _ h => h) (Or.inl ⟨by rfl, fun w' hS' => ?_⟩) hS ?_
            rotate_left
            · obtain ⟨s0, s1⟩ := hS'
              go_simp
              try rfl
            try simp only [List.getElem_toArray, List.getElem_cons_zero, List.getElem_cons_succ, Act.put, List.setIfInBounds_toArray, List.set_cons_zero, List.set_cons_succ]
            refine wpAnyH_take (i := 5) (v := ?_) rfl (by kernel_rfl) (by kernel_rfl) (by kernel_rfl) (fun _ _ _ h => h) (Or.inl ⟨by rfl, fun w' hS' => ?_⟩) hS ?_
            rotate_left
            · obtain ⟨s0, s1⟩ := hS'
              go_simp
              try rfl
            try simp only [List.getElem_toArray, List.getElem_cons_zero, List.getElem_cons_succ, Act.put, List.setIfInBounds_toArray, List.set_cons_zero, List.set_cons_succ]
            refine wpAnyH_take (i := 6) (v := ?_) rfl (by kernel_rfl) (by kernel_rfl) (by kernel_rfl) (fun _ _ _ h => h) (Or.inl ⟨by rfl, fun w' hS' => ?_⟩) hS ?_
            rotate_left
            · obtain ⟨s0, s1⟩ := hS'
              go_simp
              try rfl
            try simp only [List.getElem_toArray, List.getElem_cons_zero, List.getElem_cons_succ, Act.put, List.setIfInBounds_toArray, List.set_cons_zero, List.set_cons_succ]
            refine wpAnyH_take (i := 7) (v := ?_) rfl (by kernel_rfl) (by kernel_rfl) (by kernel_rfl) (fun _ _ _ h => h) (Or.inl ⟨by rfl, fun w' hS' => ?_⟩) hS ?_
            rotate_left
            · obtain ⟨s0, s1⟩ := hS'
              go_simp
              try rfl
            try simp only [List.getElem_toArray, List.getElem_cons_zero, List.getElem_cons_succ, Act.put, List.setIfInBounds_toArray, List.set_cons_zero, List.set_cons_succ]
            refine wpAnyH_take (i := 8) (v := ?_) rfl (by kernel_rfl) (by kernel_rfl) (by kernel_rfl) (fun _ _ _ h => h) (Or.inl ⟨by rfl, fun w' hS' => ?_⟩) hS ?_
            rotate_left
            · obtain ⟨s0, s1⟩ := hS'
              go_simp
              try rfl
            try simp only [List.getElem_toArray, List.getElem_cons_zero, List.getElem_cons_succ, Act.put, List.setIfInBounds_toArray, List.set_cons_zero, List.set_cons_succ]
            refine wpAnyH_take (i := 9) (v := ?_) rfl (by kernel_rfl) (by kernel_rfl) (by kernel_rfl) (fun _ _ _ h => h) (Or.inl ⟨by rfl, fun w' hS' => ?_⟩) hS ?_
            rotate_left
            · obtain ⟨s0, s1⟩ := hS'
              go_simp
              try rfl
            try simp only [List.getElem_toArray, List.getElem_cons_zero, List.getElem_cons_succ, Act.put, List.setIfInBounds_toArray, List.set_cons_zero, List.set_cons_succ]
            refine wpAnyH_take (i := 10) (v := ?_) rfl (by kernel_rfl) (by kernel_rfl) (by kernel_rfl) (fun _ _ _ h => h) (Or.inl ⟨by rfl, fun w' hS' => ?_⟩) hS ?_
            rotate_left
            · obtain ⟨s0, s1⟩ := hS'
              go_simp
              try rfl
            try simp only [List.getElem_toArray, List.getElem_cons_zero, List.getElem_cons_succ, Act.put, List.setIfInBounds_toArray, List.set_cons_zero, List.set_cons_succ]
            clear hS
            have q2 := (New.refl w8).alloc (.cells #[.int .i64 (-y), .int .i64 x] 55)
            refine wpAnyH_ready (rs := [11]) (by kernel_rfl) (by simp) ?_
            refine AllReadyH.cons rfl (fun K hK => ?_) AllReadyH.nil
            go_simp
            refine hK.out _ _ ⟨HY.out ▸ (HR28.out.keep q2).cell (fnRow_get (f := loF s) hp), HX.out ▸ (HR18.out.keep q2).cell (fnRow_get (f := hiF s) hp)⟩ (fun hS => ?_)
            clear hK K hS
            try simp only [List.getElem_toArray, List.getElem_cons_zero, List.getElem_cons_succ, Act.put, List.setIfInBounds_toArray, List.set_cons_zero, List.set_cons_succ]
            have hq0 := owns_keep HOW8.out q2
            have hbs : wo.heap.size ≤ (w8.alloc (.cells #[.int .i64 (-y), .int .i64 x] 55)).heap.size := (HNK8.out.trans q2).size
            refine wpAnyH_ready (rs := [12]) (by kernel_rfl) (by simp) ?_
            refine AllReadyH.cons rfl (fun K hK => ?_) AllReadyH.nil
            refine step_append_lies _ rfl (.tmp 53) (.tmp 64) 73 rfl wo.heap.size 55 i0 (.agg #[.int .i64 0, .int .i64 0]) 2 16 under_spans HI.out.1.1 HI.out.1.2.1 HI.out.1.2.2.1 HI.out.1.2.2.2 rfl (by decide) (.slice LA j lc) j _ rfl hq0 ⟨w8.heap.size, 0, none⟩ 1 1 [.int .i64 (-y), .int .i64 x] rfl rfl (World.news_of_block (cs := #[.int .i64 (-y), .int .i64 x]) (heap_alloc_new w8 _)) (by simp [Value.oneCell']) (by decide) (by unfold maxLen; omega) (by omega) hbs _ rfl ?_
            intro g cap w9 ho hg hat hlt8
            refine hK.out _ _ ⟨HY.out ▸ ((HR28.out.keep q2).grown hg (owns_ne hq0 (HR28.out.keep q2) (by decide))).cell (fnRow_get (f := loF s) hp), HX.out ▸ ((HR18.out.keep q2).grown hg (owns_ne hq0 (HR18.out.keep q2) (by decide))).cell (fnRow_get (f := hiF s) hp)⟩ (fun hS => ?_)
            clear hK K
            try simp only [List.getElem_toArray, List.getElem_cons_zero, List.getElem_cons_succ, Act.put, List.setIfInBounds_toArray, List.set_cons_zero, List.set_cons_succ]
            refine wpAnyH_take (i := 13) (v := ?_) rfl (by kernel_rfl) (by kernel_rfl) (by kernel_rfl) (fun _ _ _ h => h) (Or.inl ⟨by rfl, fun w' hS' => ?_⟩) hS ?_
            rotate_left
            · obtain ⟨s0, s1⟩ := hS'
              go_simp
              try rfl
            try simp only [List.getElem_toArray, List.getElem_cons_zero, List.getElem_cons_succ, Act.put, List.setIfInBounds_toArray, List.set_cons_zero, List.set_cons_succ]
            clear hS
            refine wpAnyH_done (by kernel_rfl) ?_ _
            unfold NormQ
            dsimp only [Exit.then]
            have ka := HNK8.out.trans q2
            have n9 := Below.trans ka (grown_below hq0 hg ka.size)
            have HN9 : Hid (New wo w9) := Lib.hid n9
            have HO9 := Lib.hid ho
            clear ka n9 ho hg HOW8 HNK8 hq0 hbs q2 hat hlt8 HR18 HR28
            go_wp2_with fail
            go_roundw
            case rel => exact ⟨j + 1, by omega, by go_num, HN9.out, by rw [HRK.out, HRS.out, List.flatMap_append]; exact HO9.out⟩
            case measure => simp [intOf]; omega
          · obtain rfl : j = tl := by omega
            go_wp2_with (at_builtin; go_loud (refine wpList_append_lies _ rfl (.tmp 66) (.tmp 68) 44 rfl w5.heap.size 73 i1 (.slice none 0 0) 1 24 under_spanss HI.out.2.1 HI.out.2.2.1 HI.out.2.2.2.1 HI.out.2.2.2.2 rfl (by decide) (.slice VB k vc) k outs rfl (owns_keep HOO.out (HNK.out.alloc _)) ⟨wr.heap.size, 0, none⟩ 1 1 [.slice LA j lc] rfl rfl ?c1 ?c2 (by decide) ?c3 ?c4 ?c5 _ rfl ?_))
            case c1 => exact World.news_of_block (heap_alloc_new _ _)
            case c2 => simp [Value.oneCell']
            case c3 => unfold maxLen; omega
            case c4 => omega
            case c5 => have := HN6.out.size; simp; omega
            intro g cap w7 ho hg _ _
            have ka := HNK.out.alloc (.cells #[.slice LA j lc] 73)
            have kb := (New.refl wr).alloc (.cells #[.slice LA j lc] 73)
            have hao := AllIn.push (rows := rowsK s (hiF s) (loF s) k) (row := rowK s (hiF s) (loF s) k (tkAt s k).times.length) (by rw [rowsK_len]; exact owns_keep HOO.out ka) (fun i hi => by
              rw [rowsK_len] at hi
              obtain ⟨u, a1, a2⟩ := HIN.out i hi
              exact ⟨u, a1, owns_keep a2 ka⟩) hg (by rw [rowsK_len]; exact ho) (by
              rw [rowK_len, HTL.out]
              exact owns_base (owns_keep HOW.out kb) HNR.out.size)
            have n7 := Below.trans (HNR.out.trans ka) (grown_below (owns_keep HOO.out ka) hg (HNR.out.trans ka).size)
            have HN7 : Hid (New w5 w7) := Lib.hid n7
            rw [← rowsK_succ] at hao
            have HAO := Lib.hid hao
            clear ka kb n7 ho hg hao c0 z3
            go_wp2_with fail
            go_roundw
            case rel => exact ⟨k + 1, by omega, by go_num, HN7.out, HAO.out⟩
            case measure => simp [intOf]; omega
      · obtain rfl : k = s.tracks.length := by omega
        obtain ⟨B, bc, rfl, hss⟩ := ha.sss
        have HSS := Lib.hid hss
        clear ha hss hn
        go_wp2_with fail
        go_ret2
        exact ⟨B, bc, by rw [HTR.out, HE.out, rowsK_len]; try rfl, HN5.out.trans HNR.out, by rw [HTR.out]; exact HSS.out⟩
  · have hne : (askE s [] != 0) = true := by simp [he]
    have HTR : Hid (tmR s = []) := Lib.hid (by unfold tmR; rw [if_neg he])
    clear he
    go_wp2_with fail
    go_ret2
    exact ⟨none, 0, by rw [HTR.out]; rfl, HN1.out, by rw [HTR.out]; exact sss_nil _⟩
end Go.Proofs.YtodmbcoobjcooaaDoor

namespace Go.Proofs.YtodmbcoobjcooaaDoor
open Go Go.RowKit Go.Shelf
attribute [local go_sem] Oper.semAt_some
def endB (high : Bool) (x : Spn) : Int := if high then x.2 else x.1
def endR (high : Bool) (l : List (List Spn)) : List (List Int) := l.map fun r => r.map (endB high)
theorem endR_len (high : Bool) (l : List (List Spn)) : (endR high l).length = l.length := by simp [endR]
theorem take_map1 {α β : Type} (f : α → β) (l : List α) {k : Nat} (h : k < l.length) (z : α) : (l.take (k + 1)).map f = (l.take k).map f ++ [f (l[k]?.getD z)] := by
  rw [List.take_succ_eq_append_getElem h, List.map_append, List.getElem?_eq_getElem h]
  rfl
set_option maxRecDepth 100000 in
set_option maxHeartbeats 16000000 in
theorem rf_ends (l : List (List Spn)) (high : Bool) (L : Option Addr) (lc : Nat) (w : World) (hL : SssA w L l) (hl : l.length ≤ 1000) (hr : ∀ i, i < l.length → (l[i]?.getD []).length ≤ 1000) :
    Calls Tryd.prog 82 #[.slice L l.length lc, .bool high] w fun e w' => ∃ B bc, e = .returned (.slice B l.length bc) ∧ New w w' ∧ IssA w' B (endR high l) := by
  have HL := Lib.hid hL
  have HR := Lib.hid hr
  clear hL hr
  obtain ⟨i0, hi0, hz0, hz1, hz2⟩ := info_parts info_int
  obtain ⟨i1, hi1, hy0, hy1, hy2⟩ := info_parts info_ints2
  have HI : Hid ((Tryd.prog.info? 3 = some i0 ∧ i0.zero = some (.int .i64 0) ∧ i0.size = 1 ∧ i0.bytes = 8) ∧ (Tryd.prog.info? 26 = some i1 ∧ i1.zero = some (.slice none 0 0) ∧ i1.size = 1 ∧ i1.bytes = 24)) := Lib.hid ⟨⟨hi0, hz0, hz1, hz2⟩, hi1, hy0, hy1, hy2⟩
  clear hi0 hz0 hz1 hz2 hi1 hy0 hy1 hy2
  have HLE : Hid ((endR high l).length = l.length) := Lib.hid (endR_len high l)
  go_enter Tryd.func82, Tryd.ntmps82
  go_wp2_with fail
  go_loopw [5, 6] (fun V i wr => ∃ k : Nat, k ≤ l.length ∧ i = .int .i64 k ∧ New w wr ∧ AllInI wr w.heap.size V (endR high (l.take k))) (fun _ i _ => l.length - (intOf i).toNat)
  case atStart => exact ⟨0, Nat.zero_le _, rfl, New.refl _, AllInI.nil _ _⟩
  case round =>
    obtain ⟨k, hk, rfl, hn, ha⟩ := hrel
    have HNR := Lib.hid hn
    by_cases hlt : k < l.length
    · have ik : (k : Int) < (l.length : Int) := by omega
      obtain ⟨outs, hoo, hin⟩ := ha
      have hkl : (endR high (l.take k)).length = k := by rw [endR_len, List.length_take]; omega
      rw [hkl] at hoo hin
      have HKL := Lib.hid hkl
      clear hkl
      obtain ⟨VB, vc, rfl⟩ := owns_form hoo
      have HOO := Lib.hid hoo
      have HIN := Lib.hid hin
      have HSU : Hid (endR high (l.take (k + 1)) = endR high (l.take k) ++ [(l[k]?.getD []).map (endB high)]) := Lib.hid (by unfold endR; exact take_map1 _ l hlt [])
      have hrl := HR.out k hlt
      obtain ⟨b, off, rfl, -, hc⟩ := (HL.out.keep hn).2 (by omega)
      have HHD : Hid (∃ B c, ∀ w', New wr w' → w'.cell? ⟨b, off + k, none⟩ = some (.slice B (l[k]?.getD []).length c) ∧ SpsA w' B (l[k]?.getD [])) := Lib.hid (by
        obtain ⟨B, c, h1, h2⟩ := hc k hlt
        exact ⟨B, c, fun w' h => ⟨h.cellOf h1, h2.keep h⟩⟩)
      obtain ⟨B, c, hh⟩ := HHD.out
      have HH := Lib.hid hh
      clear hoo hin hn hc hh HHD
      generalize l[k]?.getD [] = m at *
      go_wp2_with fail
      obtain ⟨wo, hwo⟩ : ∃ wo, wo = wr := ⟨_, rfl⟩
      subst hwo
      go_loopw [7, 8] (fun R i w' => ∃ j : Nat, j ≤ m.length ∧ i = .int .i64 j ∧ New wo w' ∧ w'.ownsRow wo.heap.size 3 1 R j (((m.take j).map (endB high)).map (Value.int .i64))) (fun _ i _ => m.length - (intOf i).toNat)
      case atStart => exact ⟨0, Nat.zero_le _, rfl, New.refl _, World.ownsRow_nil _ _ _ _⟩
      case round =>
        obtain ⟨j, hj, rfl, hnk, how⟩ := hrel
        obtain ⟨LA, rc, rfl⟩ := owns_form how
        have HNK := Lib.hid hnk
        have HOW := Lib.hid how
        obtain ⟨c0, hsp⟩ := HH.out _ hnk
        by_cases hjt : j < m.length
        · have i2 : (j : Int) < (m.length : Int) := by omega
          have HSJ := Lib.hid (take_map1 (endB high) m hjt (0, 0))
          obtain ⟨sb, so, rfl, -, hsc⟩ := hsp.2 (by omega)
          obtain ⟨v0, v1⟩ := hsc j hjt
          clear hnk how hsp hsc
          obtain ⟨xs, hxs⟩ : ∃ xs, ((m.take j).map (endB high)).map (Value.int .i64) = xs := ⟨_, rfl⟩
          replace HOW := Lib.hid (hxs ▸ HOW.out)
          have HXS := Lib.hid hxs
          clear hxs
          generalize hq : m[j]?.getD (0, 0) = q at *
          clear hq
          obtain ⟨lo, hi⟩ := q
          dsimp only at v0 v1
          cases high with
          | false =>
            have ka := (New.refl wr).alloc (.cells #[.int .i64 lo] 3)
            have HKA := Lib.hid ka
            clear ka
            go_wp2_with (at_builtin; go_loud (refine wpList_append_lies _ rfl (.tmp 36) (.tmp 45) 26 rfl wo.heap.size 3 i0 (.int .i64 0) 1 8 under_ints2 HI.out.1.1 HI.out.1.2.1 HI.out.1.2.2.1 HI.out.1.2.2.2 rfl (by decide) (.slice LA j rc) j _ rfl (owns_keep HOW.out HKA.out) ⟨wr.heap.size, 0, none⟩ 1 1 [.int .i64 lo] rfl rfl ?c1 ?c2 (by decide) ?c3 ?c4 ?c5 _ rfl ?_))
            case c1 => exact World.news_of_block (cs := #[.int .i64 lo]) (heap_alloc_new wr _)
            case c2 => simp [Value.oneCell']
            case c3 => unfold maxLen; omega
            case c4 => omega
            case c5 => have := HNK.out.size; simp; omega
            intro g cap w9 ho hg _ _
            have ka := HNK.out.trans HKA.out
            have n9 := Below.trans ka (grown_below (owns_keep HOW.out HKA.out) hg ka.size)
            have HN9 : Hid (New wo w9) := Lib.hid n9
            have HO9 := Lib.hid ho
            clear ka n9 ho hg HOW HNK HKA c0 v0 v1
            go_wp2_with fail
            go_roundw
            case rel => exact ⟨j + 1, by omega, by go_num, HN9.out, by rw [HSJ.out, List.map_append, HXS.out]; exact HO9.out⟩
            case measure => simp [intOf]; omega
          | true =>
            have ka := (New.refl wr).alloc (.cells #[.int .i64 hi] 3)
            have HKA := Lib.hid ka
            clear ka
            go_wp2_with (at_builtin; go_loud (refine wpList_append_lies _ rfl (.tmp 25) (.tmp 34) 26 rfl wo.heap.size 3 i0 (.int .i64 0) 1 8 under_ints2 HI.out.1.1 HI.out.1.2.1 HI.out.1.2.2.1 HI.out.1.2.2.2 rfl (by decide) (.slice LA j rc) j _ rfl (owns_keep HOW.out HKA.out) ⟨wr.heap.size, 0, none⟩ 1 1 [.int .i64 hi] rfl rfl ?c1 ?c2 (by decide) ?c3 ?c4 ?c5 _ rfl ?_))
            case c1 => exact World.news_of_block (cs := #[.int .i64 hi]) (heap_alloc_new wr _)
            case c2 => simp [Value.oneCell']
            case c3 => unfold maxLen; omega
            case c4 => omega
            case c5 => have := HNK.out.size; simp; omega
            intro g cap w9 ho hg _ _
            have ka := HNK.out.trans HKA.out
            have n9 := Below.trans ka (grown_below (owns_keep HOW.out HKA.out) hg ka.size)
            have HN9 : Hid (New wo w9) := Lib.hid n9
            have HO9 := Lib.hid ho
            clear ka n9 ho hg HOW HNK HKA c0 v0 v1
            go_wp2_with fail
            go_roundw
            case rel => exact ⟨j + 1, by omega, by go_num, HN9.out, by rw [HSJ.out, List.map_append, HXS.out]; exact HO9.out⟩
            case measure => simp [intOf]; omega
        · obtain rfl : j = m.length := by omega
          have HTM : Hid (m.take m.length = m) := Lib.hid (List.take_length)
          clear hnk how hsp
          go_wp2_with (at_builtin; go_loud (refine wpList_append_lies _ rfl (.tmp 47) (.tmp 49) 47 rfl w.heap.size 26 i1 (.slice none 0 0) 1 24 under_intss2 HI.out.2.1 HI.out.2.2.1 HI.out.2.2.2.1 HI.out.2.2.2.2 rfl (by decide) (.slice VB k vc) k outs rfl (owns_keep HOO.out (HNK.out.alloc _)) ⟨wr.heap.size, 0, none⟩ 1 1 [.slice LA m.length rc] rfl rfl ?c1 ?c2 (by decide) ?c3 ?c4 ?c5 _ rfl ?_))
          case c1 => exact World.news_of_block (heap_alloc_new _ _)
          case c2 => simp [Value.oneCell']
          case c3 => unfold maxLen; omega
          case c4 => omega
          case c5 => have := (HNR.out.trans HNK.out).size; simp; omega
          intro g cap w7 ho hg _ _
          have ka := HNK.out.alloc (.cells #[.slice LA m.length rc] 26)
          have kb := (New.refl wr).alloc (.cells #[.slice LA m.length rc] 26)
          have how := HOW.out
          rw [HTM.out] at how
          have hao := AllInI.push (rows := endR high (l.take k)) (row := m.map (endB high)) (by rw [HKL.out]; exact owns_keep HOO.out ka) (fun i hi => by
            rw [HKL.out] at hi
            obtain ⟨u, a1, a2⟩ := HIN.out i hi
            exact ⟨u, a1, owns_keep a2 ka⟩) hg (by rw [HKL.out]; exact ho) (by
            rw [List.length_map]
            exact owns_base (owns_keep how kb) HNR.out.size)
          have n7 := Below.trans (HNR.out.trans ka) (grown_below (owns_keep HOO.out ka) hg (HNR.out.trans ka).size)
          have HN7 : Hid (New w w7) := Lib.hid n7
          rw [← HSU.out] at hao
          have HAO := Lib.hid hao
          clear ka kb n7 ho hg hao how c0
          go_wp2_with fail
          go_roundw
          case rel => exact ⟨k + 1, by omega, by go_num, HN7.out, HAO.out⟩
          case measure => simp [intOf]; omega
    · obtain rfl : k = l.length := by omega
      rw [List.take_length] at ha
      obtain ⟨B, bc, rfl, hss⟩ := ha.iss
      have HSS := Lib.hid hss
      clear ha hss hn
      go_wp2_with fail
      go_ret
      exact ⟨B, bc, by rw [HLE.out]; try rfl, HNR.out, HSS.out⟩
set_option maxRecDepth 100000 in
set_option maxHeartbeats 8000000 in
theorem rf_SameSpans (l : List (List Spn)) (L K : Option Addr) (lc kc : Nat) (w : World) (hL : SssA w L l) (hK : SssA w K l) :
    Calls Tryd.prog 34 #[.slice L l.length lc, .slice K l.length kc] w fun e w' => e = .returned (.bool true) ∧ New w w' := by
  have HL := Lib.hid hL
  have HK := Lib.hid hK
  have hll := hL.1
  clear hL hK
  go_enter Tryd.func34, Tryd.ntmps34
  go_wp2_with fail
  go_loopw [5] (fun i wr => ∃ k : Nat, k ≤ l.length ∧ i = .int .i64 k ∧ New w wr) (fun i _ => l.length - (intOf i).toNat)
  case atStart => exact ⟨0, Nat.zero_le _, rfl, New.refl _⟩
  case round =>
    obtain ⟨k, hk, rfl, hn⟩ := hrel
    have HNR := Lib.hid hn
    by_cases hlt : k < l.length
    · have ik : (k : Int) < (l.length : Int) := by omega
      obtain ⟨b, off, rfl, -, hc⟩ := (HL.out.keep hn).2 (by omega)
      obtain ⟨B, bc, z0, hB⟩ := hc k hlt
      obtain ⟨b2, off2, rfl, -, hc2⟩ := (HK.out.keep hn).2 (by omega)
      obtain ⟨B2, bc2, z1, hB2⟩ := hc2 k hlt
      have HB1 := Lib.hid hB
      have HB2 := Lib.hid hB2
      have hml := hB.1
      clear hc hc2 hn hB hB2
      generalize l[k]?.getD [] = m at *
      go_wp2_with fail
      go_quiet (fail)
      dsimp only [Exit.then]
      have HNQ := Lib.hid ((New.refl wr).drewN nq)
      have HZ0 := Lib.hid (HNQ.out.cellOf z0)
      have HZ1 := Lib.hid (HNQ.out.cellOf z1)
      clear z0 z1
      generalize wr.drewN nq = wo at *
      go_wp2_with fail
      go_loopw [6] (fun i w' => ∃ j : Nat, j ≤ m.length ∧ i = .int .i64 j ∧ New wo w') (fun i _ => m.length - (intOf i).toNat)
      case atStart => exact ⟨0, Nat.zero_le _, rfl, New.refl _⟩
      case round =>
        obtain ⟨j, hj, rfl, hnk⟩ := hrel
        have HNK := Lib.hid hnk
        have y0 := hnk.cellOf HZ0.out
        have y1 := hnk.cellOf HZ1.out
        by_cases hjt : j < m.length
        · have i2 : (j : Int) < (m.length : Int) := by omega
          obtain ⟨c1, o1, rfl, -, h1⟩ := (HB1.out.keep (HNQ.out.trans hnk)).2 (by omega)
          obtain ⟨c2, o2, rfl, -, h2⟩ := (HB2.out.keep (HNQ.out.trans hnk)).2 (by omega)
          obtain ⟨u0, u1⟩ := h1 j hjt
          obtain ⟨v0, v1⟩ := h2 j hjt
          generalize hq : m[j]?.getD (0, 0) = q at *
          clear hq
          obtain ⟨lo, hi⟩ := q
          dsimp only at u0 u1 v0 v1
          clear h1 h2 hnk
          go_wp2_with fail
          go_quiet (fail)
          dsimp only [Exit.then]
          have HNZ := Lib.hid (HNK.out.trans ((New.refl _).drewN nq))
          clear y0 y1 u0 u1 v0 v1
          go_wp2_with fail
          go_roundw
          case rel => exact ⟨j + 1, by omega, by go_num, HNZ.out⟩
          case measure => simp [intOf]; omega
        · obtain rfl : j = m.length := by omega
          clear hnk
          go_wp2_with fail
          go_roundw
          case rel => exact ⟨k + 1, by omega, by go_num, HNR.out.trans (HNQ.out.trans HNK.out)⟩
          case measure => simp [intOf]; omega
    · obtain rfl : k = l.length := by omega
      clear hn
      go_wp2_with fail
      go_ret
      exact ⟨rfl, HNR.out⟩
set_option maxRecDepth 100000 in
set_option maxHeartbeats 8000000 in
theorem rf_SameTimes (l : List (List Int)) (L K : Option Addr) (lc kc : Nat) (w : World) (hL : IssA w L l) (hK : IssA w K l) :
    Calls Tryd.prog 35 #[.slice L l.length lc, .slice K l.length kc] w fun e w' => e = .returned (.bool true) ∧ New w w' := by
  have HL := Lib.hid hL
  have HK := Lib.hid hK
  have hll := hL.1
  clear hL hK
  go_enter Tryd.func35, Tryd.ntmps35
  go_wp2_with fail
  go_loopw [5] (fun i wr => ∃ k : Nat, k ≤ l.length ∧ i = .int .i64 k ∧ New w wr) (fun i _ => l.length - (intOf i).toNat)
  case atStart => exact ⟨0, Nat.zero_le _, rfl, New.refl _⟩
  case round =>
    obtain ⟨k, hk, rfl, hn⟩ := hrel
    have HNR := Lib.hid hn
    by_cases hlt : k < l.length
    · have ik : (k : Int) < (l.length : Int) := by omega
      obtain ⟨b, off, rfl, -, hc⟩ := (HL.out.keep hn).2 (by omega)
      obtain ⟨B, bc, z0, hB⟩ := hc k hlt
      obtain ⟨b2, off2, rfl, -, hc2⟩ := (HK.out.keep hn).2 (by omega)
      obtain ⟨B2, bc2, z1, hB2⟩ := hc2 k hlt
      have HB1 := Lib.hid hB
      have HB2 := Lib.hid hB2
      have hml := hB.1
      clear hc hc2 hn hB hB2
      generalize l[k]?.getD [] = m at *
      go_wp2_with fail
      go_quiet (fail)
      dsimp only [Exit.then]
      have HNQ := Lib.hid ((New.refl wr).drewN nq)
      have HZ0 := Lib.hid (HNQ.out.cellOf z0)
      have HZ1 := Lib.hid (HNQ.out.cellOf z1)
      clear z0 z1
      generalize wr.drewN nq = wo at *
      go_wp2_with fail
      go_loopw [6] (fun i w' => ∃ j : Nat, j ≤ m.length ∧ i = .int .i64 j ∧ New wo w') (fun i _ => m.length - (intOf i).toNat)
      case atStart => exact ⟨0, Nat.zero_le _, rfl, New.refl _⟩
      case round =>
        obtain ⟨j, hj, rfl, hnk⟩ := hrel
        have HNK := Lib.hid hnk
        have y0 := hnk.cellOf HZ0.out
        have y1 := hnk.cellOf HZ1.out
        by_cases hjt : j < m.length
        · have i2 : (j : Int) < (m.length : Int) := by omega
          obtain ⟨c1, o1, rfl, -, h1⟩ := (HB1.out.keep (HNQ.out.trans hnk)).2 (by omega)
          obtain ⟨c2, o2, rfl, -, h2⟩ := (HB2.out.keep (HNQ.out.trans hnk)).2 (by omega)
          have u0 := h1 j hjt
          have v0 := h2 j hjt
          generalize hq : m[j]?.getD 0 = q at *
          clear hq
          clear h1 h2 hnk
          go_wp2_with fail
          go_quiet (fail)
          dsimp only [Exit.then]
          have HNZ := Lib.hid (HNK.out.trans ((New.refl _).drewN nq))
          clear y0 y1 u0 v0
          go_wp2_with fail
          go_roundw
          case rel => exact ⟨j + 1, by omega, by go_num, HNZ.out⟩
          case measure => simp [intOf]; omega
        · obtain rfl : j = m.length := by omega
          clear hnk
          go_wp2_with fail
          go_roundw
          case rel => exact ⟨k + 1, by omega, by go_num, HNR.out.trans (HNQ.out.trans HNK.out)⟩
          case measure => simp [intOf]; omega
    · obtain rfl : k = l.length := by omega
      clear hn
      go_wp2_with fail
      go_ret
      exact ⟨rfl, HNR.out⟩
end Go.Proofs.YtodmbcoobjcooaaDoor

namespace Go.Proofs.YtodmbcoobjcooaaDoor
open Go Go.RowKit Go.Shelf
open Go.ChangeShapes Go.WideShapes Go.ChangeAt Go.Deep
attribute [local go_sem] Oper.semAt_some
theorem tmR_len (s : Sy) : (tmR s).length ≤ 1000 ∧ ∀ i, i < (tmR s).length → ((tmR s)[i]?.getD []).length ≤ 1000 := by
  unfold tmR
  by_cases h : askE s [] = 0
  · rw [if_pos h]
    obtain ⟨hs, -⟩ := ask_nil h
    have h64 := (checkE_ok hs).1
    rw [rowsK_len]
    refine ⟨by omega, fun i hi => ?_⟩
    rw [rowsK_get _ _ hi, rowK_len]
    have := (trackB_facts (hs.track hi)).2.2.2.2.2.1
    omega
  · rw [if_neg h]
    exact ⟨by simp, fun i hi => absurd hi (Nat.not_lt_zero i)⟩
theorem end_lo (s : Sy) (f g : Nat → Int) (k : Nat) : endR false (rowsK s f g k) = rowsI s (fun v => -g v) k := by
  unfold endR rowsK rowsI
  rw [List.map_map]
  apply List.map_congr_left
  intro i _
  show (rowK s f g i (tkAt s i).times.length).map (endB false) = _
  unfold rowK rowI
  rw [List.map_map]
  apply List.map_congr_left
  intro j _
  rfl
theorem end_hi (s : Sy) (f g : Nat → Int) (k : Nat) : endR true (rowsK s f g k) = rowsI s f k := by
  unfold endR rowsK rowsI
  rw [List.map_map]
  apply List.map_congr_left
  intro i _
  show (rowK s f g i (tkAt s i).times.length).map (endB true) = _
  unfold rowK rowI
  rw [List.map_map]
  apply List.map_congr_left
  intro j _
  rfl
/-- What Earliest and Latest answer. -/
def EndA (s : Sy) (high : Bool) (w : World) (e : Ending) (w' : World) : Prop := ∃ B bc, e = .returned (.tuple #[.slice B (endR high (tmR s)).length bc, .int .i64 (askE s [])]) ∧ New w w' ∧ IssA w' B (endR high (tmR s))
theorem iss_nil (w : World) : IssA w none [] := ⟨by simp, fun h => absurd h (Nat.not_lt_zero _)⟩
theorem askN {s : Sy} (h : ¬(checkE s = 0 ∧ Closes (egs s))) : askE s [] ≠ 0 := fun h2 => h (ask_nil h2)
theorem askY {s : Sy} (h1 : checkE s = 0) (h2 : Closes (egs s)) : askE s [] = 0 := askE_ok (linesE_ok.2 ⟨h1, fun r hr => by cases hr⟩) h2
theorem allE_ask {s : Sy} {er : Int} (h : allE s er) : er = askE s [] := by
  have e : linesE s [] = checkE s := by
    unfold linesE
    by_cases h : checkE s = 0
    · rw [if_neg (by omega), h]; rfl
    · rw [if_pos h]
  rcases h with ⟨h1, rfl⟩ | ⟨h1, h2, rfl⟩
  · rw [askE_lines (by rw [e]; exact h1), e]
  · rw [askE_loop (by rw [e]; exact h1) h2]
theorem pk_Times (s : Sy) (A D : Option Addr) (c d : Nat) (w : World) (hM : SysM w A D s) (hbeg : BegA w) :
    Calls Tryd.prog 28 #[.agg #[.slice A s.tracks.length c, .slice D s.ties.length d, .int .i64 s.window]] w fun e w' => TmsA s w e w' := by
  by_cases h : checkE s = 0 ∧ Closes (egs s)
  · refine (ck_TimesC s h.1 h.2 A D c d w hM hbeg).mono ?_
    rintro e w' ⟨B, bc, rfl, hn, hb⟩
    have e0 := askY h.1 h.2
    have et : tmR s = rowsK s (hiF s) (loF s) s.tracks.length := by unfold tmR; rw [if_pos e0]
    exact ⟨B, bc, by rw [et, rowsK_len, e0], hn, by rw [et]; exact hb⟩
  · refine (ck_TimesE s A D c d w hM hbeg h).mono ?_
    rintro e w' ⟨er, rfl, hn, h1, -⟩
    have et : tmR s = [] := by unfold tmR; rw [if_neg (askN h)]
    exact ⟨none, 0, by rw [et, allE_ask h1]; rfl, hn, by rw [et]; exact sss_nil _⟩
theorem pk_Earliest (s : Sy) (A D : Option Addr) (c d : Nat) (w : World) (hM : SysM w A D s) (hbeg : BegA w) :
    Calls Tryd.prog 30 #[.agg #[.slice A s.tracks.length c, .slice D s.ties.length d, .int .i64 s.window]] w fun e w' => EndA s false w e w' := by
  by_cases h : checkE s = 0 ∧ Closes (egs s)
  · refine (ck_EarliestC s h.1 h.2 A D c d w hM hbeg).mono ?_
    rintro e w' ⟨B, bc, rfl, hn, hb⟩
    have e0 := askY h.1 h.2
    have et : tmR s = rowsK s (hiF s) (loF s) s.tracks.length := by unfold tmR; rw [if_pos e0]
    exact ⟨B, bc, by rw [et, endR_len, rowsK_len, e0], hn, by rw [et, end_lo]; exact hb⟩
  · refine (ck_EarliestE s A D c d w hM hbeg h).mono ?_
    rintro e w' ⟨er, rfl, hn, h1, -⟩
    have et : tmR s = [] := by unfold tmR; rw [if_neg (askN h)]
    exact ⟨none, 0, by rw [et, allE_ask h1]; rfl, hn, by rw [et]; exact iss_nil _⟩
set_option maxRecDepth 100000 in
set_option maxHeartbeats 4000000 in
theorem rf_Earliest (s : Sy) (A D : Option Addr) (c d : Nat) (w : World) (hM : SysM w A D s) :
    Calls Tryd.prog 31 #[.agg #[.slice A s.tracks.length c, .slice D s.ties.length d, .int .i64 s.window]] w fun e w' => EndA s false w e w' := by
  have HTM : Hid (∀ w', New w w' → _) := Lib.hid fun w' h => rf_Times s A D c d w' (hM.keep h)
  have HTL := Lib.hid (tmR_len s)
  have n1 := (New.refl w).alloc (.cells #[.slice A s.tracks.length c, .slice D s.ties.length d, .int .i64 s.window] 25)
  have r0 := RowIs.new w 25 [.slice A s.tracks.length c, .slice D s.ties.length d, .int .i64 s.window]
  have HN := Lib.hid n1
  have c0 := r0.cell (i := 0) rfl
  have c1 := r0.cell (i := 1) rfl
  have c2 := r0.cell (i := 2) rfl
  clear n1 r0 hM
  go_enter Tryd.func31, Tryd.ntmps31
  go_wp2_with fail
  refine (HTM.out _ HN.out).mono ?_
  rintro e w1 ⟨B, bc, rfl, m1, hb⟩
  have HE := Lib.hid (rf_ends (tmR s) false B bc w1 hb HTL.out.1 HTL.out.2)
  have HN1 := Lib.hid (HN.out.trans m1)
  have HLN := Lib.hid (endR_len false (tmR s))
  clear c0 c1 c2 m1 hb HTM HTL
  go_wp2_with fail
  refine HE.out.mono ?_
  rintro e w2 ⟨C, cc, rfl, m2, hc⟩
  have HC := Lib.hid hc
  clear hc
  go_wp2_with fail
  go_ret2
  exact ⟨C, cc, by rw [HLN.out]; try rfl, HN1.out.trans m2, HC.out⟩
theorem pk_Latest (s : Sy) (A D : Option Addr) (c d : Nat) (w : World) (hM : SysM w A D s) (hbeg : BegA w) :
    Calls Tryd.prog 32 #[.agg #[.slice A s.tracks.length c, .slice D s.ties.length d, .int .i64 s.window]] w fun e w' => EndA s true w e w' := by
  by_cases h : checkE s = 0 ∧ Closes (egs s)
  · refine (ck_LatestC s h.1 h.2 A D c d w hM hbeg).mono ?_
    rintro e w' ⟨B, bc, rfl, hn, hb⟩
    have e0 := askY h.1 h.2
    have et : tmR s = rowsK s (hiF s) (loF s) s.tracks.length := by unfold tmR; rw [if_pos e0]
    exact ⟨B, bc, by rw [et, endR_len, rowsK_len, e0], hn, by rw [et, end_hi]; exact hb⟩
  · refine (ck_LatestE s A D c d w hM hbeg h).mono ?_
    rintro e w' ⟨er, rfl, hn, h1, -⟩
    have et : tmR s = [] := by unfold tmR; rw [if_neg (askN h)]
    exact ⟨none, 0, by rw [et, allE_ask h1]; rfl, hn, by rw [et]; exact iss_nil _⟩
set_option maxRecDepth 100000 in
set_option maxHeartbeats 4000000 in
theorem rf_Latest (s : Sy) (A D : Option Addr) (c d : Nat) (w : World) (hM : SysM w A D s) :
    Calls Tryd.prog 33 #[.agg #[.slice A s.tracks.length c, .slice D s.ties.length d, .int .i64 s.window]] w fun e w' => EndA s true w e w' := by
  have HTM : Hid (∀ w', New w w' → _) := Lib.hid fun w' h => rf_Times s A D c d w' (hM.keep h)
  have HTL := Lib.hid (tmR_len s)
  have n1 := (New.refl w).alloc (.cells #[.slice A s.tracks.length c, .slice D s.ties.length d, .int .i64 s.window] 25)
  have r0 := RowIs.new w 25 [.slice A s.tracks.length c, .slice D s.ties.length d, .int .i64 s.window]
  have HN := Lib.hid n1
  have c0 := r0.cell (i := 0) rfl
  have c1 := r0.cell (i := 1) rfl
  have c2 := r0.cell (i := 2) rfl
  clear n1 r0 hM
  go_enter Tryd.func33, Tryd.ntmps33
  go_wp2_with fail
  refine (HTM.out _ HN.out).mono ?_
  rintro e w1 ⟨B, bc, rfl, m1, hb⟩
  have HE := Lib.hid (rf_ends (tmR s) true B bc w1 hb HTL.out.1 HTL.out.2)
  have HN1 := Lib.hid (HN.out.trans m1)
  have HLN := Lib.hid (endR_len true (tmR s))
  clear c0 c1 c2 m1 hb HTM HTL
  go_wp2_with fail
  refine HE.out.mono ?_
  rintro e w2 ⟨C, cc, rfl, m2, hc⟩
  have HC := Lib.hid hc
  clear hc
  go_wp2_with fail
  go_ret2
  exact ⟨C, cc, by rw [HLN.out]; try rfl, HN1.out.trans m2, HC.out⟩
set_option maxRecDepth 100000 in
set_option maxHeartbeats 8000000 in
theorem law_times (s : Sy) (A D : Option Addr) (c d : Nat) (w : World) (hM : SysM w A D s) (hbeg : BegA w) :
    Calls Tryd.prog 4 #[.agg #[.slice A s.tracks.length c, .slice D s.ties.length d, .int .i64 s.window]] w fun e w' => e = .returned (.bool true) ∧ New w w' := by
  have HK0 : Hid (∀ w', New w w' → _) := Lib.hid fun w' h => pk_Times s A D c d w' (hM.keep h) ⟨h.cellOf hbeg.1, h.cellOf hbeg.2⟩
  have HK1 : Hid (∀ w', New w w' → _) := Lib.hid fun w' h => rf_Times s A D c d w' (hM.keep h)
  have HK2 : Hid (∀ w', New w w' → _) := Lib.hid fun w' h => pk_Earliest s A D c d w' (hM.keep h) ⟨h.cellOf hbeg.1, h.cellOf hbeg.2⟩
  have HK3 : Hid (∀ w', New w w' → _) := Lib.hid fun w' h => rf_Earliest s A D c d w' (hM.keep h)
  have HK4 : Hid (∀ w', New w w' → _) := Lib.hid fun w' h => pk_Latest s A D c d w' (hM.keep h) ⟨h.cellOf hbeg.1, h.cellOf hbeg.2⟩
  have HK5 : Hid (∀ w', New w w' → _) := Lib.hid fun w' h => rf_Latest s A D c d w' (hM.keep h)
  have HFW : Hid (∀ w', New w w' → _) := Lib.hid fun w' h => law_few s A D c d w' (hM.keep h)
  have s0 := (New.refl w).alloc (.cells #[.slice A s.tracks.length c, .slice D s.ties.length d, .int .i64 s.window] 25)
  have nA := s0
  have r0 := (RowIs.new w 25 [.slice A s.tracks.length c, .slice D s.ties.length d, .int .i64 s.window])
  have HA0 := Lib.hid r0
  have HN0 := Lib.hid nA
  have HAW := Lib.hid (law_awake _ ⟨nA.cellOf hbeg.1, nA.cellOf hbeg.2⟩)
  clear s0 nA r0 hM hbeg
  have c0 := HA0.out.cell (i := 0) rfl
  have c1 := HA0.out.cell (i := 1) rfl
  have c2 := HA0.out.cell (i := 2) rfl
  go_enter Tryd.func4, Tryd.ntmps4
  go_wp2_with fail
  refine (HAW.out).mono ?_
  rintro e w1 ⟨rfl, m1⟩
  have HN1 := Lib.hid (HN0.out.trans m1)
  have HA1 := Lib.hid (HA0.out.keep m1)
  clear c0 c1 c2 m1 HA0 
  have c0 := HA1.out.cell (i := 0) rfl
  have c1 := HA1.out.cell (i := 1) rfl
  have c2 := HA1.out.cell (i := 2) rfl
  go_wp2_with fail
  refine (HFW.out _ HN1.out).mono ?_
  rintro e w2 ⟨⟨fb, rfl⟩, m2⟩
  have HN2 := Lib.hid (HN1.out.trans m2)
  have HA2 := Lib.hid (HA1.out.keep m2)
  clear c0 c1 c2 m2 HA1 
  have c0 := HA2.out.cell (i := 0) rfl
  have c1 := HA2.out.cell (i := 1) rfl
  have c2 := HA2.out.cell (i := 2) rfl
  cases fb with
  | false =>
    go_wp2_with fail
    go_ret
    exact ⟨rfl, HN2.out⟩
  | true =>
  go_wp2_with fail
  refine (HK0.out _ HN2.out).mono ?_
  rintro e w3 ⟨B3, bc3, rfl, m3, hb3⟩
  have HN3 := Lib.hid (HN2.out.trans m3)
  have HA3 := Lib.hid (HA2.out.keep m3)
  have HB3_3 := Lib.hid hb3
  clear hb3
  clear c0 c1 c2 m3 HA2 
  have c0 := HA3.out.cell (i := 0) rfl
  have c1 := HA3.out.cell (i := 1) rfl
  have c2 := HA3.out.cell (i := 2) rfl
  go_wp2_with fail
  refine (HK1.out _ HN3.out).mono ?_
  rintro e w4 ⟨B4, bc4, rfl, m4, hb4⟩
  have HN4 := Lib.hid (HN3.out.trans m4)
  have HA4 := Lib.hid (HA3.out.keep m4)
  have HB3_4 := Lib.hid (HB3_3.out.keep m4)
  have HB4_4 := Lib.hid hb4
  clear hb4
  clear c0 c1 c2 m4 HA3 HB3_3
  have c0 := HA4.out.cell (i := 0) rfl
  have c1 := HA4.out.cell (i := 1) rfl
  have c2 := HA4.out.cell (i := 2) rfl
  go_wp2_with fail
  refine (HK2.out _ HN4.out).mono ?_
  rintro e w5 ⟨B5, bc5, rfl, m5, hb5⟩
  have HN5 := Lib.hid (HN4.out.trans m5)
  have HA5 := Lib.hid (HA4.out.keep m5)
  have HB3_5 := Lib.hid (HB3_4.out.keep m5)
  have HB4_5 := Lib.hid (HB4_4.out.keep m5)
  have HB5_5 := Lib.hid hb5
  clear hb5
  clear c0 c1 c2 m5 HA4 HB3_4 HB4_4
  have c0 := HA5.out.cell (i := 0) rfl
  have c1 := HA5.out.cell (i := 1) rfl
  have c2 := HA5.out.cell (i := 2) rfl
  go_wp2_with fail
  refine (HK3.out _ HN5.out).mono ?_
  rintro e w6 ⟨B6, bc6, rfl, m6, hb6⟩
  have HN6 := Lib.hid (HN5.out.trans m6)
  have HA6 := Lib.hid (HA5.out.keep m6)
  have HB3_6 := Lib.hid (HB3_5.out.keep m6)
  have HB4_6 := Lib.hid (HB4_5.out.keep m6)
  have HB5_6 := Lib.hid (HB5_5.out.keep m6)
  have HB6_6 := Lib.hid hb6
  clear hb6
  clear c0 c1 c2 m6 HA5 HB3_5 HB4_5 HB5_5
  have c0 := HA6.out.cell (i := 0) rfl
  have c1 := HA6.out.cell (i := 1) rfl
  have c2 := HA6.out.cell (i := 2) rfl
  go_wp2_with fail
  refine (HK4.out _ HN6.out).mono ?_
  rintro e w7 ⟨B7, bc7, rfl, m7, hb7⟩
  have HN7 := Lib.hid (HN6.out.trans m7)
  have HA7 := Lib.hid (HA6.out.keep m7)
  have HB3_7 := Lib.hid (HB3_6.out.keep m7)
  have HB4_7 := Lib.hid (HB4_6.out.keep m7)
  have HB5_7 := Lib.hid (HB5_6.out.keep m7)
  have HB6_7 := Lib.hid (HB6_6.out.keep m7)
  have HB7_7 := Lib.hid hb7
  clear hb7
  clear c0 c1 c2 m7 HA6 HB3_6 HB4_6 HB5_6 HB6_6
  have c0 := HA7.out.cell (i := 0) rfl
  have c1 := HA7.out.cell (i := 1) rfl
  have c2 := HA7.out.cell (i := 2) rfl
  go_wp2_with fail
  refine (HK5.out _ HN7.out).mono ?_
  rintro e w8 ⟨B8, bc8, rfl, m8, hb8⟩
  have HN8 := Lib.hid (HN7.out.trans m8)
  have HA8 := Lib.hid (HA7.out.keep m8)
  have HB3_8 := Lib.hid (HB3_7.out.keep m8)
  have HB4_8 := Lib.hid (HB4_7.out.keep m8)
  have HB5_8 := Lib.hid (HB5_7.out.keep m8)
  have HB6_8 := Lib.hid (HB6_7.out.keep m8)
  have HB7_8 := Lib.hid (HB7_7.out.keep m8)
  have HB8_8 := Lib.hid hb8
  clear hb8
  clear c0 c1 c2 m8 HA7 HB3_7 HB4_7 HB5_7 HB6_7 HB7_7
  have c0 := HA8.out.cell (i := 0) rfl
  have c1 := HA8.out.cell (i := 1) rfl
  have c2 := HA8.out.cell (i := 2) rfl
  have HS1 := Lib.hid (rf_SameSpans (tmR s) B3 B4 bc3 bc4 w8 HB3_8.out HB4_8.out)
  clear c0 c1 c2 HB3_8 HB4_8
  generalize askE s [] = er at *
  go_wp2_with fail
  refine HS1.out.mono ?_
  rintro e w9 ⟨rfl, m9⟩
  have HN9 := Lib.hid (HN8.out.trans m9)
  have HS2 := Lib.hid (rf_SameTimes (endR false (tmR s)) B5 B6 bc5 bc6 w9 (HB5_8.out.keep m9) (HB6_8.out.keep m9))
  have HT7 := Lib.hid (HB7_8.out.keep m9)
  have HT8 := Lib.hid (HB8_8.out.keep m9)
  clear m9
  go_wp2_with fail
  refine HS2.out.mono ?_
  rintro e w10 ⟨rfl, m10⟩
  have HN10 := Lib.hid (HN9.out.trans m10)
  have HS3 := Lib.hid (rf_SameTimes (endR true (tmR s)) B7 B8 bc7 bc8 w10 (HT7.out.keep m10) (HT8.out.keep m10))
  clear m10
  go_wp2_with fail
  refine HS3.out.mono ?_
  rintro e w11 ⟨rfl, m11⟩
  go_wp2_with fail
  go_ret
  exact ⟨rfl, HN10.out.trans m11⟩
end Go.Proofs.YtodmbcoobjcooaaDoor
