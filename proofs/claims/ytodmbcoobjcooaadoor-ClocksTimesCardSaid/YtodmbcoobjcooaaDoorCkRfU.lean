/-
  The specification: Times. Condition: the system lies in memory.
-/
import Derived.Test.YtodmbcoobjcooaaDoorCkRfW
import Derived.Test.YtodmbcoobjcooaaDoorCkSpans
namespace Go.Proofs.YtodmbcoobjcooaaDoor
open Go Go.RowKit Go.Shelf
attribute [local go_sem] Oper.semAt_some
/-- The spans of all lines, none where there is an error. -/
noncomputable def tmR (s : Sy) : List (List Spn) := if askE s [] = 0 then rowsK s (hiF s) (loF s) s.tracks.length else []
theorem ask_nil {s : Sy} (h : askE s [] = 0) : Ok s ∧ Closes (egs s) := by
  obtain ⟨h1, h2⟩ := askE_zero h
  exact ⟨(linesE_ok.1 h1).1, h2⟩
theorem sss_nil (w : World) : SssA w none [] := ⟨by simp, fun h => absurd h (Nat.not_lt_zero _)⟩
/-- What Times answers. -/
def TmsA (s : Sy) (w : World) (e : Ending) (w' : World) : Prop := ∃ B bc, e = .returned (.tuple #[.slice B (tmR s).length bc, .int .i64 (askE s [])]) ∧ New w w' ∧ SssA w' B (tmR s)
set_option maxRecDepth 100000 in
set_option maxHeartbeats 16000000 in
theorem rf_Times (s : Sy) (A D : Option Addr) (c d : Nat) (w : World) (hM : SysM w A D s) :
    Calls Tryd.prog 29 #[.agg #[.slice A s.tracks.length c, .slice D s.ties.length d, .int .i64 s.window]] w fun e w' => TmsA s w e w' := by
  have n1 := (New.refl w).alloc (.cells #[.slice A s.tracks.length c, .slice D s.ties.length d, .int .i64 s.window] 25)
  have r0 := RowIs.new w 25 [.slice A s.tracks.length c, .slice D s.ties.length d, .int .i64 s.window]
  have HAS : Hid (∀ w', New w w' → Calls Tryd.prog 75 #[.agg #[.slice A s.tracks.length c, .slice D s.ties.length d, .int .i64 s.window], .slice none 0 0] w' fun e w'' => e = .returned (.int .i64 (askE s [])) ∧ New w' w'') := Lib.hid fun w' h => rf_asked s [] A D none c d 0 w' (hM.keep h) ⟨by simp, fun h => absurd h (Nat.not_lt_zero _)⟩
  have HR0 := Lib.hid r0
  have HN := Lib.hid n1
  have HM := Lib.hid hM
  have c0 := r0.cell (i := 0) rfl
  have c1 := r0.cell (i := 1) rfl
  have c2 := r0.cell (i := 2) rfl
  clear n1 r0 hM
  go_enter Tryd.func29, Tryd.ntmps29
  go_wp2_with fail
  refine (HAS.out _ HN.out).mono ?_
  rintro e w1 ⟨rfl, m1⟩
  have HN1 := Lib.hid (HN.out.trans m1)
  have HA1 := Lib.hid (HR0.out.keep m1)
  clear c0 c1 c2 m1 HR0 HN HAS
  by_cases he : askE s [] = 0
  · obtain ⟨hs, hc⟩ := ask_nil he
    have HS := Lib.hid hs
    have HC := Lib.hid hc
    have HE := Lib.hid he
    have HTR : Hid (tmR s = rowsK s (hiF s) (loF s) s.tracks.length) := Lib.hid (by unfold tmR; rw [if_pos he])
    have h64 := (checkE_ok hs).1
    have hnp := nPl_le hs
    have HRC : Hid (∀ w', New w w' → Calls Tryd.prog 77 #[.agg #[.slice A s.tracks.length c, .slice D s.ties.length d, .int .i64 s.window], .int .i64 0] w' fun e w'' => RchA s 0 w' e w'') := Lib.hid fun w' h => rf_reach s hs A D c d w' (HM.out.keep h) 0 (nPl_pos s)
    have HBK : Hid (∀ w', New w w' → _) := Lib.hid fun w' h => rf_backward s hs hc A D c d w' (HM.out.keep h)
    have c0 := HA1.out.cell (i := 0) rfl
    have c1 := HA1.out.cell (i := 1) rfl
    have c2 := HA1.out.cell (i := 2) rfl
    have q0 := HA1.out.lt
    rw [he]
    clear he hs hc
    go_wp2_with fail
    refine (rf_spots s HS.out A D c d _ (HM.out.keep HN1.out)).mono ?_
    rintro e w2 ⟨FA, fc, rfl, hF, m2⟩
    have na := (New.refl w2).alloc (.cells #[.slice FA s.tracks.length fc, .int .i64 (nPl s)] 102)
    have HX := Lib.hid (RowIs.new w2 102 [.slice FA s.tracks.length fc, .int .i64 (nPl s)])
    have HF := Lib.hid (hF.keep na)
    have HN2 := Lib.hid (HN1.out.trans (m2.trans na))
    have HA2 := Lib.hid (HA1.out.keep (m2.trans na))
    clear c0 c1 c2 q0 hF m2 na HA1 HN1
    have c0 := HA2.out.cell (i := 0) rfl
    have c1 := HA2.out.cell (i := 1) rfl
    have c2 := HA2.out.cell (i := 2) rfl
    go_wp2_with fail
    generalize w2.alloc (.cells #[.slice FA s.tracks.length fc, .int .i64 (nPl s)] 102) = w3 at *
    generalize w2.heap.size = X at *
    refine (HRC.out _ HN2.out).mono ?_
    rintro e w4 ⟨a1, b1, h1, d1, f1, rfl, m4, ha1, -, hh1⟩
    have e1 : ∀ v, v < nPl s → MinW (egs s) 0 v (d1 v) := by
      rcases hh1 with ⟨-, -, h⟩ | ⟨-, h⟩
      · exact h
      · exact absurd HC.out h
    have HD1 : Hid (RowIs w4 a1 3 (fnRow (nPl s) (hiF s))) := Lib.hid (by
      have h := fnRow_congr2 (n := nPl s) (f := hiF s) (g := d1) (fun i hi => mnW_eq (e1 i hi))
      rw [h]
      exact ha1)
    have HN4 := Lib.hid (HN2.out.trans m4)
    have HA4 := Lib.hid (HA2.out.keep m4)
    have HX4 := Lib.hid (HX.out.keep m4)
    have HF4 := Lib.hid (HF.out.keep m4)
    clear c0 c1 c2 m4 ha1 hh1 e1 HA2 HN2 HX HF
    have c0 := HA4.out.cell (i := 0) rfl
    have c1 := HA4.out.cell (i := 1) rfl
    have c2 := HA4.out.cell (i := 2) rfl
    go_wp2_with fail
    refine (HBK.out _ HN4.out).mono ?_
    rintro e w5 ⟨a2, d2, rfl, m5, ha2, hd2⟩
    have HD2 : Hid (RowIs w5 a2 3 (fnRow (nPl s) (loF s))) := Lib.hid (by
      have h := fnRow_congr2 (n := nPl s) (f := loF s) (g := d2) (fun i hi => (hd2 i hi).symm)
      rw [h]
      exact ha2)
    have HD15 := Lib.hid (HD1.out.keep m5)
    have HN5 := Lib.hid (HN4.out.trans m5)
    have HA5 := Lib.hid (HA4.out.keep m5)
    have HX5 := Lib.hid (HX4.out.keep m5)
    have HF5 := Lib.hid (HF4.out.keep m5)
    clear c0 c1 c2 m5 ha2 hd2 HA4 HN4 HX4 HF4 HD1 HRC HBK
    obtain ⟨i0, hi0, hz0, hz1, hz2⟩ := info_parts info_span
    obtain ⟨i1, hi1, hy0, hy1, hy2⟩ := info_parts info_spans
    have HI : Hid ((Tryd.prog.info? 55 = some i0 ∧ i0.zero = some (.agg #[.int .i64 0, .int .i64 0]) ∧ i0.size = 2 ∧ i0.bytes = 16) ∧ (Tryd.prog.info? 73 = some i1 ∧ i1.zero = some (.slice none 0 0) ∧ i1.size = 1 ∧ i1.bytes = 24)) := Lib.hid ⟨⟨hi0, hz0, hz1, hz2⟩, hi1, hy0, hy1, hy2⟩
    clear hi0 hz0 hz1 hz2 hi1 hy0 hy1 hy2
    have HOF : Hid (∀ w' i j, i < s.tracks.length → j < (tkAt s i).times.length → New w5 w' → _) := Lib.hid fun w' i j hi hj h => rf_of s HS.out FA fc (nPl s) ⟨i, j⟩ (.inr (line_mk hi hj)) w' (HF5.out.keep h)
    have HPB : Hid (∀ i j, i < s.tracks.length → j < (tkAt s i).times.length → plc s ⟨i, j⟩ < nPl s ∧ (-600000000 ≤ loF s (plc s ⟨i, j⟩) ∧ loF s (plc s ⟨i, j⟩) ≤ 600000000)) := Lib.hid fun i j hi hj => by
      have h := plc_lt (.inr (line_mk hi hj) : RefOk s ⟨i, j⟩)
      exact ⟨h, mnW_in HS.out HC.out h (nPl_pos s)⟩
    generalize hnn : nPl s = n at *
    have HNN := Lib.hid hnn
    clear hnn
    go_wp2_with fail
    go_loopw [10, 11] (fun V i wr => ∃ k : Nat, k ≤ s.tracks.length ∧ i = .int .i64 k ∧ New w5 wr ∧ AllIn wr w5.heap.size V (rowsK s (hiF s) (loF s) k)) (fun _ i _ => s.tracks.length - (intOf i).toNat)
    case atStart => exact ⟨0, Nat.zero_le _, rfl, New.refl _, AllIn.nil _ _⟩
    case round =>
      obtain ⟨k, hk, rfl, hn, ha⟩ := hrel
      have HNR := Lib.hid hn
      have c0 := (HA5.out.keep hn).cell (i := 0) rfl
      by_cases hlt : k < s.tracks.length
      · have ik : (k : Int) < (s.tracks.length : Int) := by omega
        obtain ⟨outs, hoo, hin⟩ := ha
        rw [rowsK_len] at hoo hin
        obtain ⟨VB, vc, rfl⟩ := owns_form hoo
        have HOO := Lib.hid hoo
        have HIN := Lib.hid hin
        have hl4 := (trackB_facts (HS.out.track hlt)).2.2.2.2.2.1
        have HTK : Hid (∀ w', New w5 w' → ∃ b off, A = some ⟨b, off, none⟩ ∧ TkC w' b (off + k * 4) (tkAt s k)) := Lib.hid fun w' h => by
          obtain ⟨b, off, e, -, hc⟩ := (HM.out.1.keep (HN5.out.trans h)).2 (by omega)
          exact ⟨b, off, e, hc k hlt⟩
        obtain ⟨tb, toff, rfl, -⟩ := HTK.out _ HNR.out
        clear hoo hin hn
        generalize htl : (tkAt s k).times.length = tl at *
        have HTL := Lib.hid htl
        clear htl
        go_wp2_with fail
        clear c0
        obtain ⟨wo, hwo⟩ : ∃ wo, wo = wr := ⟨_, rfl⟩
        subst hwo
        go_loopw [12, 13] (fun L i w' => ∃ j : Nat, j ≤ tl ∧ i = .int .i64 j ∧ New wo w' ∧ w'.ownsRow wo.heap.size 55 2 L j ((rowK s (hiF s) (loF s) k j).flatMap spC)) (fun _ i _ => tl - (intOf i).toNat)
        case atStart => exact ⟨0, Nat.zero_le _, rfl, New.refl _, World.ownsRow_nil _ _ _ _⟩
        case round =>
          obtain ⟨j, hj, rfl, hnk, how⟩ := hrel
          obtain ⟨LA, lc, rfl⟩ := owns_form how
          have HNK := Lib.hid hnk
          have HOW := Lib.hid how
          have HN6 := Lib.hid (HNR.out.trans hnk)
          obtain ⟨tb2, toff2, eA, htk⟩ := HTK.out _ HN6.out
          obtain ⟨rfl, rfl⟩ : tb = tb2 ∧ toff = toff2 := by simpa using eA
          obtain ⟨JA, jc, TA, tc, z0, z1, z2, z3, -, -⟩ := htk
          have c0 := (HA5.out.keep HN6.out).cell (i := 0) rfl
          clear eA
          rw [HTL.out] at z3
          clear hnk how z0 z1 z2
          by_cases hjt : j < tl
          · have i2 : (j : Int) < (tl : Int) := by omega
            have HO2 := Lib.hid (HOF.out _ k j hlt (by rw [HTL.out]; exact hjt) HN6.out)
            obtain ⟨hp, hlo⟩ := HPB.out k j hlt (by rw [HTL.out]; exact hjt)
            have HRS := Lib.hid (rowK_succ s (hiF s) (loF s) k j)
            have x0 := (HX5.out.keep HN6.out).cell (i := 0) rfl
            have x1 := (HX5.out.keep HN6.out).cell (i := 1) rfl
            generalize hrk : (rowK s (hiF s) (loF s) k (j + 1)) = RK at *
            have HRK := Lib.hid hrk
            clear hrk
            generalize plc s ⟨k, j⟩ = p at *
            go_wp2_with fail
            refine HO2.out.mono ?_
            rintro e w7 ⟨rfl, m7⟩
            have HN7 := Lib.hid (HN6.out.trans m7)
            have HR17 := Lib.hid (HD15.out.keep HN7.out)
            have HR27 := Lib.hid (HD2.out.keep HN7.out)
            have HOW7 := Lib.hid (owns_keep HOW.out m7)
            have HNK7 := Lib.hid (HNK.out.trans m7)
            have ip : (p : Int) < (n : Int) := by omega
            generalize hx : hiF s p = x at *
            generalize hy : loF s p = y at *
            have HX := Lib.hid hx
            have HY := Lib.hid hy
            clear hx hy
            have hw : IntKind.i64.wrap (-y) = -y := IntWalk.i64_in _ (by omega)
            have hw0 : IntKind.i64.wrap (0 - y) = -y := by rw [IntWalk.i64_in _ (by omega)]; omega
            clear c0 x0 x1 z3 m7 HOW HNK HN6 HO2
            go_wp2_with fail
            refine region_plain (by kernel_rfl) (wpAny_of_held (S := (fun w' => w'.cell? ⟨a2, p, none⟩ = some (.int .i64 y) ∧ w'.cell? ⟨a1, p, none⟩ = some (.int .i64 x))) _ _ _ _ ?_)
            change wpAnyH _ _ _ _ _ _ _ _ w7.drew
            have HN78 := Lib.hid ((New.refl w7).drew)
            have HNK8 := Lib.hid (HNK7.out.trans HN78.out)
            have HOW8 := Lib.hid (owns_keep HOW7.out HN78.out)
            have HR18 := Lib.hid (HR17.out.keep HN78.out)
            have HR28 := Lib.hid (HR27.out.keep HN78.out)
            clear HNK7 HOW7 HN7 HN78 HR17 HR27
            generalize w7.drew = w8 at *
            have hS : (fun w' => w'.cell? ⟨a2, p, none⟩ = some (.int .i64 y) ∧ w'.cell? ⟨a1, p, none⟩ = some (.int .i64 x)) w8 := ⟨HY.out ▸ HR28.out.cell (fnRow_get (f := loF s) hp), HX.out ▸ HR18.out.cell (fnRow_get (f := hiF s) hp)⟩
            refine wpAnyH_take (i := 0) (v := ?_) rfl (by kernel_rfl) (by kernel_rfl) (by kernel_rfl) (fun _ _ _ h => h) (Or.inl ⟨by rfl, fun w' hS' => ?_⟩) hS ?_
            rotate_left
            · obtain ⟨s0, s1⟩ := hS'
              go_simp
              try rfl
            try simp only [List.getElem_toArray, List.getElem_cons_zero, Act.put, List.setIfInBounds_toArray, List.set_cons_zero, List.set_cons_succ]
            refine wpAnyH_take (i := 1) (v := ?_) rfl (by kernel_rfl) (by kernel_rfl) (by kernel_rfl) (fun _ _ _ h => h) (Or.inl ⟨by rfl, fun w' hS' => ?_⟩) hS ?_
            rotate_left
            · obtain ⟨s0, s1⟩ := hS'
              go_simp
              try rfl
            try simp only [List.getElem_toArray, List.getElem_cons_zero, List.getElem_cons_succ, Act.put, List.setIfInBounds_toArray, List.set_cons_zero, List.set_cons_succ]
            refine wpAnyH_take (i := 2) (v := ?_) rfl (by kernel_rfl) (by kernel_rfl) (by kernel_rfl) (fun _ _ _ h => h) (Or.inl ⟨by rfl, fun w' hS' => ?_⟩) hS ?_
            rotate_left
            · obtain ⟨s0, s1⟩ := hS'
              go_simp
              try rfl
            try simp only [List.getElem_toArray, List.getElem_cons_zero, List.getElem_cons_succ, Act.put, List.setIfInBounds_toArray, List.set_cons_zero, List.set_cons_succ]
            refine wpAnyH_take (i := 3) (v := ?_) rfl (by kernel_rfl) (by kernel_rfl) (by kernel_rfl) (fun _ _ _ h => h) (Or.inl ⟨by rfl, fun w' hS' => ?_⟩) hS ?_
            rotate_left
            · obtain ⟨s0, s1⟩ := hS'
              go_simp
              try rfl
            try simp only [List.getElem_toArray, List.getElem_cons_zero, List.getElem_cons_succ, Act.put, List.setIfInBounds_toArray, List.set_cons_zero, List.set_cons_succ]
            refine wpAnyH_take (i := 4) (v := ?_) rfl (by kernel_rfl) (by kernel_rfl) (by kernel_rfl) (fun _ _ _ h => h) (Or.inl ⟨by rfl, fun w' hS' => ?_⟩) hS ?_
            rotate_left
            · obtain ⟨s0, s1⟩ := hS'
              go_simp
              try rfl
            try simp only [List.getElem_toArray, List.getElem_cons_zero, List.getElem_cons_succ, Act.put, List.setIfInBounds_toArray, List.set_cons_zero, List.set_cons_succ]
            refine wpAnyH_take (i := 5) (v := ?_) rfl (by kernel_rfl) (by kernel_rfl) (by kernel_rfl) (fun _ _ _ h => h) (Or.inl ⟨by rfl, fun w' hS' => ?_⟩) hS ?_
            rotate_left
            · obtain ⟨s0, s1⟩ := hS'
              go_simp
              try rfl
            try simp only [List.getElem_toArray, List.getElem_cons_zero, List.getElem_cons_succ, Act.put, List.setIfInBounds_toArray, List.set_cons_zero, List.set_cons_succ]
            refine wpAnyH_take (i := 6) (v := ?_) rfl (by kernel_rfl) (by kernel_rfl) (by kernel_rfl) (fun _ _ _ h => h) (Or.inl ⟨by rfl, fun w' hS' => ?_⟩) hS ?_
            rotate_left
            · obtain ⟨s0, s1⟩ := hS'
              go_simp
              try rfl
            try simp only [List.getElem_toArray, List.getElem_cons_zero, List.getElem_cons_succ, Act.put, List.setIfInBounds_toArray, List.set_cons_zero, List.set_cons_succ]
            refine wpAnyH_take (i := 7) (v := ?_) rfl (by kernel_rfl) (by kernel_rfl) (by kernel_rfl) (fun _ _ _ h => h) (Or.inl ⟨by rfl, fun w' hS' => ?_⟩) hS ?_
            rotate_left
            · obtain ⟨s0, s1⟩ := hS'
              go_simp
              try rfl
            try simp only [List.getElem_toArray, List.getElem_cons_zero, List.getElem_cons_succ, Act.put, List.setIfInBounds_toArray, List.set_cons_zero, List.set_cons_succ]
            refine wpAnyH_take (i := 8) (v := ?_) rfl (by kernel_rfl) (by kernel_rfl) (by kernel_rfl) (fun _ _ _ h => h) (Or.inl ⟨by rfl, fun w' hS' => ?_⟩) hS ?_
            rotate_left
            · obtain ⟨s0, s1⟩ := hS'
              go_simp
              try rfl
            try simp only [List.getElem_toArray, List.getElem_cons_zero, List.getElem_cons_succ, Act.put, List.setIfInBounds_toArray, List.set_cons_zero, List.set_cons_succ]
            refine wpAnyH_take (i := 9) (v := ?_) rfl (by kernel_rfl) (by kernel_rfl) (by kernel_rfl) (fun _ _ _ h => h) (Or.inl ⟨by rfl, fun w' hS' => ?_⟩) hS ?_
            rotate_left
            · obtain ⟨s0, s1⟩ := hS'
              go_simp
              try rfl
            try simp only [List.getElem_toArray, List.getElem_cons_zero, List.getElem_cons_succ, Act.put, List.setIfInBounds_toArray, List.set_cons_zero, List.set_cons_succ]
            refine wpAnyH_take (i := 10) (v := ?_) rfl (by kernel_rfl) (by kernel_rfl) (by kernel_rfl) (fun _ _ _ h => h) (Or.inl ⟨by rfl, fun w' hS' => ?_⟩) hS ?_
            rotate_left
            · obtain ⟨s0, s1⟩ := hS'
              go_simp
              try rfl
            try simp only [List.getElem_toArray, List.getElem_cons_zero, List.getElem_cons_succ, Act.put, List.setIfInBounds_toArray, List.set_cons_zero, List.set_cons_succ]
            clear hS
            have q2 := (New.refl w8).alloc (.cells #[.int .i64 (-y), .int .i64 x] 55)
            refine wpAnyH_ready (rs := [11]) (by kernel_rfl) (by simp) ?_
            refine AllReadyH.cons rfl (fun K hK => ?_) AllReadyH.nil
            go_simp
            refine hK.out _ _ ⟨HY.out ▸ (HR28.out.keep q2).cell (fnRow_get (f := loF s) hp), HX.out ▸ (HR18.out.keep q2).cell (fnRow_get (f := hiF s) hp)⟩ (fun hS => ?_)
            clear hK K hS
            try simp only [List.getElem_toArray, List.getElem_cons_zero, List.getElem_cons_succ, Act.put, List.setIfInBounds_toArray, List.set_cons_zero, List.set_cons_succ]
            have hq0 := owns_keep HOW8.out q2
            have hbs : wo.heap.size ≤ (w8.alloc (.cells #[.int .i64 (-y), .int .i64 x] 55)).heap.size := (HNK8.out.trans q2).size
            refine wpAnyH_ready (rs := [12]) (by kernel_rfl) (by simp) ?_
            refine AllReadyH.cons rfl (fun K hK => ?_) AllReadyH.nil
            refine step_append_lies _ rfl (.tmp 53) (.tmp 64) 73 rfl wo.heap.size 55 i0 (.agg #[.int .i64 0, .int .i64 0]) 2 16 under_spans HI.out.1.1 HI.out.1.2.1 HI.out.1.2.2.1 HI.out.1.2.2.2 rfl (by decide) (.slice LA j lc) j _ rfl hq0 ⟨w8.heap.size, 0, none⟩ 1 1 [.int .i64 (-y), .int .i64 x] rfl rfl (World.news_of_block (cs := #[.int .i64 (-y), .int .i64 x]) (heap_alloc_new w8 _)) (by simp [Value.oneCell']) (by decide) (by unfold maxLen; omega) (by omega) hbs _ rfl ?_
            intro g cap w9 ho hg hat hlt8
            refine hK.out _ _ ⟨HY.out ▸ ((HR28.out.keep q2).grown hg (owns_ne hq0 (HR28.out.keep q2) (by decide))).cell (fnRow_get (f := loF s) hp), HX.out ▸ ((HR18.out.keep q2).grown hg (owns_ne hq0 (HR18.out.keep q2) (by decide))).cell (fnRow_get (f := hiF s) hp)⟩ (fun hS => ?_)
            clear hK K
            try simp only [List.getElem_toArray, List.getElem_cons_zero, List.getElem_cons_succ, Act.put, List.setIfInBounds_toArray, List.set_cons_zero, List.set_cons_succ]
            refine wpAnyH_take (i := 13) (v := ?_) rfl (by kernel_rfl) (by kernel_rfl) (by kernel_rfl) (fun _ _ _ h => h) (Or.inl ⟨by rfl, fun w' hS' => ?_⟩) hS ?_
            rotate_left
            · obtain ⟨s0, s1⟩ := hS'
              go_simp
              try rfl
            try simp only [List.getElem_toArray, List.getElem_cons_zero, List.getElem_cons_succ, Act.put, List.setIfInBounds_toArray, List.set_cons_zero, List.set_cons_succ]
            clear hS
            refine wpAnyH_done (by kernel_rfl) ?_ _
            unfold NormQ
            dsimp only [Exit.then]
            have ka := HNK8.out.trans q2
            have n9 := Below.trans ka (grown_below hq0 hg ka.size)
            have HN9 : Hid (New wo w9) := Lib.hid n9
            have HO9 := Lib.hid ho
            clear ka n9 ho hg HOW8 HNK8 hq0 hbs q2 hat hlt8 HR18 HR28
            go_wp2_with fail
            go_roundw
            case rel => exact ⟨j + 1, by omega, by go_num, HN9.out, by rw [HRK.out, HRS.out, List.flatMap_append]; exact HO9.out⟩
            case measure => simp [intOf]; omega
          · obtain rfl : j = tl := by omega
            go_wp2_with (at_builtin; go_loud (refine wpList_append_lies _ rfl (.tmp 66) (.tmp 68) 44 rfl w5.heap.size 73 i1 (.slice none 0 0) 1 24 under_spanss HI.out.2.1 HI.out.2.2.1 HI.out.2.2.2.1 HI.out.2.2.2.2 rfl (by decide) (.slice VB k vc) k outs rfl (owns_keep HOO.out (HNK.out.alloc _)) ⟨wr.heap.size, 0, none⟩ 1 1 [.slice LA j lc] rfl rfl ?c1 ?c2 (by decide) ?c3 ?c4 ?c5 _ rfl ?_))
            case c1 => exact World.news_of_block (heap_alloc_new _ _)
            case c2 => simp [Value.oneCell']
            case c3 => unfold maxLen; omega
            case c4 => omega
            case c5 => have := HN6.out.size; simp; omega
            intro g cap w7 ho hg _ _
            have ka := HNK.out.alloc (.cells #[.slice LA j lc] 73)
            have kb := (New.refl wr).alloc (.cells #[.slice LA j lc] 73)
            have hao := AllIn.push (rows := rowsK s (hiF s) (loF s) k) (row := rowK s (hiF s) (loF s) k (tkAt s k).times.length) (by rw [rowsK_len]; exact owns_keep HOO.out ka) (fun i hi => by
              rw [rowsK_len] at hi
              obtain ⟨u, a1, a2⟩ := HIN.out i hi
              exact ⟨u, a1, owns_keep a2 ka⟩) hg (by rw [rowsK_len]; exact ho) (by
              rw [rowK_len, HTL.out]
              exact owns_base (owns_keep HOW.out kb) HNR.out.size)
            have n7 := Below.trans (HNR.out.trans ka) (grown_below (owns_keep HOO.out ka) hg (HNR.out.trans ka).size)
            have HN7 : Hid (New w5 w7) := Lib.hid n7
            rw [← rowsK_succ] at hao
            have HAO := Lib.hid hao
            clear ka kb n7 ho hg hao c0 z3
            go_wp2_with fail
            go_roundw
            case rel => exact ⟨k + 1, by omega, by go_num, HN7.out, HAO.out⟩
            case measure => simp [intOf]; omega
      · obtain rfl : k = s.tracks.length := by omega
        obtain ⟨B, bc, rfl, hss⟩ := ha.sss
        have HSS := Lib.hid hss
        clear ha hss hn
        go_wp2_with fail
        go_ret2
        exact ⟨B, bc, by rw [HTR.out, HE.out, rowsK_len]; try rfl, HN5.out.trans HNR.out, by rw [HTR.out]; exact HSS.out⟩
  · have hne : (askE s [] != 0) = true := by simp [he]
    have HTR : Hid (tmR s = []) := Lib.hid (by unfold tmR; rw [if_neg he])
    clear he
    go_wp2_with fail
    go_ret2
    exact ⟨none, 0, by rw [HTR.out]; rfl, HN1.out, by rw [HTR.out]; exact sss_nil _⟩
end Go.Proofs.YtodmbcoobjcooaaDoor
