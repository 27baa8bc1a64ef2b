/-
  The specification's bounds: all bounds of a valid system, in order. Condition: the system lies in memory and is valid.
-/
import Derived.Test.YtodmbcoobjcooaaDoorCkRf
import Derived.Test.YtodmbcoobjcooaaDoorCkColl
import Derived.Deep.AppendLies
namespace Go.Proofs.YtodmbcoobjcooaaDoor
open Go Go.RowKit Go.Shelf
attribute [local go_sem] Oper.semAt_some
/-- Bounds in a slice of one's own. -/
structure BdO (W : World) (N : Nat) (A : Option Addr) (n c : Nat) (E : List Bd) : Prop where
  own : W.ownsRow N 91 7 (.slice A n c) n (E.flatMap bdCs)
  len : E.length = n
theorem BdO.keep {W W' : World} {N n c : Nat} {A : Option Addr} {E : List Bd} (h : BdO W N A n c E) (k : New W W') : BdO W' N A n c E := ⟨owns_keep h.own k, h.len⟩
theorem BdO.push {W' : World} {N n g cap : Nat} {E : List Bd} (hl : E.length = n) (b : Bd) (ho : W'.ownsRow N 91 7 (.slice (some ⟨g, 0, none⟩) (n + 1) cap) (n + 1) (E.flatMap bdCs ++ bdCs b)) : BdO W' N (some ⟨g, 0, none⟩) (n + 1) cap (E ++ [b]) :=
  ⟨by rw [List.flatMap_append]; simpa using ho, by rw [List.length_append, hl]; rfl⟩
theorem slips_len {s : Sy} (hs : Ok s) : ∀ k j, k ≤ s.tracks.length → j ≤ (tkAt s k).times.length → j ≤ 400 → (slipsL s k ++ slipsT k (tkAt s k) j).length ≤ k * 800 + j * 2 := fun k j hk _ _ => by
  have ht : ∀ i, i < s.tracks.length → (tkAt s i).times.length ≤ 400 := fun i hi => (trackB_facts (hs.track hi)).2.2.2.2.2.1
  have h1 : (slipsL s k).length ≤ k * 800 := fm_len_bd _ 800 _ (fun i hi => by
    have := fm_len_bd (fun j => [upB i (tkAt s i) j, downB i (tkAt s i) j]) 2 (tkAt s i).times.length (fun j _ => by simp)
    have h3 := ht i (by omega)
    show (slipsT _ _ _).length ≤ 800
    unfold slipsT
    omega)
  have h2 : (slipsT k (tkAt s k) j).length ≤ j * 2 := fm_len_bd _ 2 _ (fun i _ => by simp)
  rw [List.length_append]
  omega
theorem steps_len {s : Sy} (hs : Ok s) : ∀ k j, k ≤ s.tracks.length → (stepsL s k ++ stepsT k (tkAt s k) j).length ≤ k * 1200 + j * 3 := fun k j hk => by
  have ht : ∀ i, i < s.tracks.length → (tkAt s i).times.length ≤ 400 := fun i hi => (trackB_facts (hs.track hi)).2.2.2.2.2.1
  have h1 : (stepsL s k).length ≤ k * 1200 := fm_len_bd _ 1200 _ (fun i hi => by
    have := fm_len_bd (stepL i (tkAt s i)) 3 ((tkAt s i).times.length - 1) (fun j _ => by unfold stepL; split <;> simp)
    have h3 := ht i (by omega)
    show (stepsT _ _ _).length ≤ 1200
    unfold stepsT
    omega)
  have h2 : (stepsT k (tkAt s k) j).length ≤ j * 3 := fm_len_bd _ 3 _ (fun j _ => by unfold stepL; split <;> simp)
  rw [List.length_append]
  omega
set_option maxRecDepth 100000 in
set_option maxHeartbeats 8000000 in
theorem rf_bounds (s : Sy) (hs : Ok s) (A D : Option Addr) (c d : Nat) (w : World) (hS : SysM w A D s) :
    Calls Tryd.prog 70 #[.agg #[.slice A s.tracks.length c, .slice D s.ties.length d, .int .i64 s.window]] w fun e w' => ∃ V, e = .returned V ∧ w'.ownsRow w.heap.size 91 7 V (bnds s).length ((bnds s).flatMap bdCs) ∧ New w w' := by
  have n1 := (New.refl w).alloc (.cells #[.slice A s.tracks.length c, .slice D s.ties.length d, .int .i64 s.window] 25)
  have r1 := RowIs.new w 25 [.slice A s.tracks.length c, .slice D s.ties.length d, .int .i64 s.window]
  have h64 := checkE_ok hs
  have htl : s.tracks.length ≤ 64 := h64.1
  have hti : s.ties.length ≤ 400 := h64.2.1
  have HW0 : Hid (0 ≤ s.window ∧ s.window ≤ 120) := Lib.hid h64.2.2.2.2
  have HS := Lib.hid (hS.keep n1)
  have HN := Lib.hid n1
  have HR := Lib.hid r1
  have HOK := Lib.hid hs
  have c0 := r1.cell (i := 0) rfl
  obtain ⟨ib, hib, hz0, hz1, hz2⟩ := info_parts info_bound
  have HI := Lib.hid (And.intro hib (And.intro hz0 (And.intro hz1 hz2)))
  clear hS n1 r1 h64 hs hib hz0 hz1 hz2
  go_enter Tryd.func70, Tryd.ntmps70
  go_wp2_with fail
  generalize hB : w.heap.size = B at *
  generalize hW1 : w.alloc (.cells #[.slice A s.tracks.length c, .slice D s.ties.length d, .int .i64 s.window] 25) = W1 at *
  have hB1 : B < W1.heap.size := HR.out.lt
  clear hW1
  go_loopw [3, 4] (fun V i wr => ∃ (k n : Nat) (VA : Option Addr) (vc : Nat), k ≤ s.tracks.length ∧ i = .int .i64 k ∧ V = .slice VA n vc ∧ New W1 wr ∧ BdO wr W1.heap.size VA n vc (slipsL s k)) (fun _ i _ => s.tracks.length - (intOf i).toNat)
  case atStart => exact ⟨0, 0, none, 0, Nat.zero_le _, rfl, rfl, New.refl _, ⟨World.ownsRow_nil _ _ _ _, rfl⟩⟩
  case round =>
    obtain ⟨k, n, VA, vc, hk, rfl, rfl, hn, hbo⟩ := hrel
    clear c0
    have HNW := Lib.hid hn
    have HBO := Lib.hid hbo
    have c0 := (HR.out.keep hn).cell (i := 0) rfl
    have hBl : B < wr.heap.size := (HR.out.keep hn).lt
    by_cases hlt : k < s.tracks.length
    · skip
      obtain ⟨b, off, hA, -, hc⟩ := HS.out.1.2 (by omega)
      subst hA
      obtain ⟨JA, jc, TA, tc, y0, y1, y2, y3, -, hT⟩ := hc k hlt
      have z0 := hn.cellOf y0
      have z1 := hn.cellOf y1
      have z2 := hn.cellOf y2
      have z3 := hn.cellOf y3
      clear y0 y1 y2 y3
      have ik : (k : Int) < (s.tracks.length : Int) := by omega
      have HTF := Lib.hid (trackB_facts (HOK.out.track hlt))
      have HSU := Lib.hid (slipsL_succ s k)
      have HST := Lib.hid (fun j => slipsT_succ k (tkAt s k) j)
      have htn : (tkAt s k).times.length ≤ 400 := HTF.out.2.2.2.2.2.1
      have HLEN : Hid (∀ j, j ≤ (tkAt s k).times.length → (slipsL s k ++ slipsT k (tkAt s k) j).length ≤ 52000) := Lib.hid fun j hj => by
        have := slips_len HOK.out k j (by omega) hj (by omega)
        omega
      have et : s.tracks[k]?.getD default = tkAt s k := rfl
      rw [et] at z0 z1 z2 z3 hT
      have HSZ0 : Hid (slipsL s k ++ slipsT k (tkAt s k) 0 = slipsL s k) := Lib.hid (by simp [slipsT])
      clear hc hn hbo et
      generalize tkAt s k = t at *
      obtain ⟨sl, dr, js, ts⟩ := t
      dsimp only at z0 z1 z2 z3 hT htn
      have m1 := (New.refl wr).alloc (.cells #[.int .i64 sl, .int .i64 dr, .slice JA js.length jc, .slice TA ts.length tc] 30)
      have HT := Lib.hid hT
      have HRT := Lib.hid (RowIs.new wr 30 [.int .i64 sl, .int .i64 dr, .slice JA js.length jc, .slice TA ts.length tc])
      have HNA := Lib.hid (HNW.out.trans m1)
      have HBA := Lib.hid (HBO.out.keep m1)
      clear hT m1
      go_wp2_with fail
      generalize hBt : wr.heap.size = Bt at *
      generalize hW2 : wr.alloc (.cells #[.int .i64 sl, .int .i64 dr, .slice JA js.length jc, .slice TA ts.length tc] 30) = W2 at *
      clear c0 z0 z1 z2 z3 hW2 HBO
      go_loopw [3, 6] (fun V i wr2 => ∃ (j n2 : Nat) (VA2 : Option Addr) (vc2 : Nat), j ≤ ts.length ∧ i = .int .i64 j ∧ V = .slice VA2 n2 vc2 ∧ New W1 wr2 ∧ RowIs wr2 Bt 30 [.int .i64 sl, .int .i64 dr, .slice JA js.length jc, .slice TA ts.length tc] ∧ BdO wr2 W1.heap.size VA2 n2 vc2 (slipsL s k ++ slipsT k ⟨sl, dr, js, ts⟩ j)) (fun _ i _ => ts.length - (intOf i).toNat)
      case atStart => exact ⟨0, n, VA, vc, Nat.zero_le _, rfl, rfl, HNA.out, HRT.out, by rw [HSZ0.out]; exact HBA.out⟩
      case round =>
        obtain ⟨j, n2, VA2, vc2, hj, rfl, rfl, hn2, ht2, hb2⟩ := hrel
        have c3 := ht2.cell (i := 3) rfl
        have hBtl : Bt < wr.heap.size := ht2.lt
        by_cases hlt2 : j < ts.length
        · obtain ⟨tb, toff, hTA, -, htc⟩ := HT.out.2 (by omega)
          subst hTA
          have x0 := htc j hlt2
          have ij : (j : Int) < (ts.length : Int) := by omega
          have hxf := HTF.out.1 j hlt2
          have hxt : tmAt ⟨sl, dr, js, ts⟩ j = ts[j]?.getD 0 := rfl
          rw [hxt] at hxf
          have hsf := HTF.out.2.1
          have hsf2 := HTF.out.2.2.1
          try dsimp only at hsf hsf2
          have hxr := hxf.1
          have hxr2 := hxf.2.1
          have hnl : n2 ≤ 60000 := by have := HLEN.out j hj; have := hb2.len; omega
          have HUP : Hid (bdCs (upB k ⟨sl, dr, js, ts⟩ j) = [.int .i64 (-1), .int .i64 0, .int .i64 k, .int .i64 j, .int .i64 (ts[j]?.getD 0 + sl), .int .i64 1, .int .i64 j]) := Lib.hid rfl
          have HDN : Hid (bdCs (downB k ⟨sl, dr, js, ts⟩ j) = [.int .i64 k, .int .i64 j, .int .i64 (-1), .int .i64 0, .int .i64 (sl - ts[j]?.getD 0), .int .i64 1, .int .i64 j]) := Lib.hid rfl
          have HSJ := Lib.hid (HST.out j)
          clear htc hxf hxt
          generalize ts[j]?.getD 0 = x at *
          have hw1 : IntKind.i64.wrap (x + sl) = x + sl := IntWalk.i64_in _ (by omega)
          have hw2 : IntKind.i64.wrap (sl - x) = sl - x := IntWalk.i64_in _ (by omega)
          have m2 := (New.refl wr).alloc (.cells #[.int .i64 k, .int .i64 j] 53)
          have HRR := Lib.hid (RowIs.new wr 53 [.int .i64 k, .int .i64 j])
          have HN2 := Lib.hid (hn2.trans m2)
          have HT2 := Lib.hid (ht2.keep m2)
          have HO2 := Lib.hid (owns_keep hb2.own m2)
          have HL2 := Lib.hid hb2.len
          have HX := Lib.hid x0
          clear hn2 ht2 hb2 m2 x0
          go_wp2_with fail
          generalize hBr : wr.heap.size = Br at *
          generalize hW3 : wr.alloc (.cells #[.int .i64 k, .int .i64 j] 53) = W3 at *
          clear c3 hW3 hBtl
          have HSD : Hid (∀ w', New W1 w' → RowIs w' Bt 30 [.int .i64 sl, .int .i64 dr, .slice JA js.length jc, .slice (some ⟨tb, toff, none⟩) ts.length tc] → RowIs w' Br 53 [.int .i64 k, .int .i64 j] → (w'.cell? ⟨Bt, 0, none⟩ = some (.int .i64 sl) ∧ w'.cell? ⟨Bt, 3, none⟩ = some (.slice (some ⟨tb, toff, none⟩) ts.length tc)) ∧ (w'.cell? ⟨tb, toff + j, none⟩ = some (.int .i64 x) ∧ w'.cell? ⟨Br, 0, none⟩ = some (.int .i64 k) ∧ w'.cell? ⟨Br, 1, none⟩ = some (.int .i64 j))) := Lib.hid fun w' h1 h2 h3 => ⟨⟨h2.cell rfl, h2.cell rfl⟩, h1.cellOf HX.out, h3.cell rfl, h3.cell rfl⟩
          refine region_plain (by kernel_rfl) (wpAny_of_held (S := fun w' => (w'.cell? ⟨Bt, 0, none⟩ = some (.int .i64 sl) ∧ w'.cell? ⟨Bt, 3, none⟩ = some (.slice (some ⟨tb, toff, none⟩) ts.length tc)) ∧ (w'.cell? ⟨tb, toff + j, none⟩ = some (.int .i64 x) ∧ w'.cell? ⟨Br, 0, none⟩ = some (.int .i64 k) ∧ w'.cell? ⟨Br, 1, none⟩ = some (.int .i64 j))) _ _ _ _ ?_)
          change wpAnyH _ _ _ _ _ _ _ _ W3.drew
          have hS := HSD.out W3.drew (HN2.out.trans (New.refl W3).drew) HT2.out.drew HRR.out.drew
          refine wpAnyH_take (i := 0) (v := ?_) rfl (by kernel_rfl) (by kernel_rfl) (by kernel_rfl) (fun _ _ _ h => h) (Or.inl ⟨by rfl, fun w' hS' => ?_⟩) hS ?_
          rotate_left
          · obtain ⟨⟨s0, s1⟩, s2, s3, s4⟩ := hS'
            go_simp
            try rfl
          try simp only [List.getElem_toArray, List.getElem_cons_zero, Act.put, List.setIfInBounds_toArray, List.set_cons_zero, List.set_cons_succ]
          refine wpAnyH_take (i := 2) (v := ?_) rfl (by kernel_rfl) (by kernel_rfl) (by kernel_rfl) (fun _ _ _ h => h) (Or.inl ⟨by rfl, fun w' hS' => ?_⟩) hS ?_
          rotate_left
          · obtain ⟨⟨s0, s1⟩, s2, s3, s4⟩ := hS'
            go_simp
            try rfl
          try simp only [List.getElem_toArray, List.getElem_cons_zero, List.getElem_cons_succ, Act.put, List.setIfInBounds_toArray, List.set_cons_zero, List.set_cons_succ]
          refine wpAnyH_take (i := 3) (v := ?_) rfl (by kernel_rfl) (by kernel_rfl) (by kernel_rfl) (fun _ _ _ h => h) (Or.inl ⟨by rfl, fun w' hS' => ?_⟩) hS ?_
          rotate_left
          · obtain ⟨⟨s0, s1⟩, s2, s3, s4⟩ := hS'
            go_simp
            try rfl
          try simp only [List.getElem_toArray, List.getElem_cons_zero, List.getElem_cons_succ, Act.put, List.setIfInBounds_toArray, List.set_cons_zero, List.set_cons_succ]
          refine wpAnyH_take (i := 4) (v := ?_) rfl (by kernel_rfl) (by kernel_rfl) (by kernel_rfl) (fun _ _ _ h => h) (Or.inl ⟨by rfl, fun w' hS' => ?_⟩) hS ?_
          rotate_left
          · obtain ⟨⟨s0, s1⟩, s2, s3, s4⟩ := hS'
            go_simp
            try rfl
          try simp only [List.getElem_toArray, List.getElem_cons_zero, List.getElem_cons_succ, Act.put, List.setIfInBounds_toArray, List.set_cons_zero, List.set_cons_succ]
          refine wpAnyH_take (i := 5) (v := ?_) rfl (by kernel_rfl) (by kernel_rfl) (by kernel_rfl) (fun _ _ _ h => h) (Or.inl ⟨by rfl, fun w' hS' => ?_⟩) hS ?_
          rotate_left
          · obtain ⟨⟨s0, s1⟩, s2, s3, s4⟩ := hS'
            go_simp
            try rfl
          try simp only [List.getElem_toArray, List.getElem_cons_zero, List.getElem_cons_succ, Act.put, List.setIfInBounds_toArray, List.set_cons_zero, List.set_cons_succ]
          refine wpAnyH_take (i := 6) (v := ?_) rfl (by kernel_rfl) (by kernel_rfl) (by kernel_rfl) (fun _ _ _ h => h) (Or.inl ⟨by rfl, fun w' hS' => ?_⟩) hS ?_
          rotate_left
          · obtain ⟨⟨s0, s1⟩, s2, s3, s4⟩ := hS'
            go_simp
            try rfl
          try simp only [List.getElem_toArray, List.getElem_cons_zero, List.getElem_cons_succ, Act.put, List.setIfInBounds_toArray, List.set_cons_zero, List.set_cons_succ]
          refine wpAnyH_take (i := 7) (v := ?_) rfl (by kernel_rfl) (by kernel_rfl) (by kernel_rfl) (fun _ _ _ h => h) (Or.inl ⟨by rfl, fun w' hS' => ?_⟩) hS ?_
          rotate_left
          · obtain ⟨⟨s0, s1⟩, s2, s3, s4⟩ := hS'
            go_simp
            try rfl
          try simp only [List.getElem_toArray, List.getElem_cons_zero, List.getElem_cons_succ, Act.put, List.setIfInBounds_toArray, List.set_cons_zero, List.set_cons_succ]
          refine wpAnyH_take (i := 8) (v := ?_) rfl (by kernel_rfl) (by kernel_rfl) (by kernel_rfl) (fun _ _ _ h => h) (Or.inl ⟨by rfl, fun w' hS' => ?_⟩) hS ?_
          rotate_left
          · obtain ⟨⟨s0, s1⟩, s2, s3, s4⟩ := hS'
            go_simp
            try rfl
          try simp only [List.getElem_toArray, List.getElem_cons_zero, List.getElem_cons_succ, Act.put, List.setIfInBounds_toArray, List.set_cons_zero, List.set_cons_succ]
          refine wpAnyH_take (i := 9) (v := ?_) rfl (by kernel_rfl) (by kernel_rfl) (by kernel_rfl) (fun _ _ _ h => h) (Or.inl ⟨by rfl, fun w' hS' => ?_⟩) hS ?_
          rotate_left
          · obtain ⟨⟨s0, s1⟩, s2, s3, s4⟩ := hS'
            go_simp
            try rfl
          try simp only [List.getElem_toArray, List.getElem_cons_zero, List.getElem_cons_succ, Act.put, List.setIfInBounds_toArray, List.set_cons_zero, List.set_cons_succ]
          refine wpAnyH_take (i := 10) (v := ?_) rfl (by kernel_rfl) (by kernel_rfl) (by kernel_rfl) (fun _ _ _ h => h) (Or.inl ⟨by rfl, fun w' hS' => ?_⟩) hS ?_
          rotate_left
          · obtain ⟨⟨s0, s1⟩, s2, s3, s4⟩ := hS'
            go_simp
            try rfl
          try simp only [List.getElem_toArray, List.getElem_cons_zero, List.getElem_cons_succ, Act.put, List.setIfInBounds_toArray, List.set_cons_zero, List.set_cons_succ]
          refine wpAnyH_take (i := 11) (v := ?_) rfl (by kernel_rfl) (by kernel_rfl) (by kernel_rfl) (fun _ _ _ h => h) (Or.inl ⟨by rfl, fun w' hS' => ?_⟩) hS ?_
          rotate_left
          · obtain ⟨⟨s0, s1⟩, s2, s3, s4⟩ := hS'
            go_simp
            try rfl
          try simp only [List.getElem_toArray, List.getElem_cons_zero, List.getElem_cons_succ, Act.put, List.setIfInBounds_toArray, List.set_cons_zero, List.set_cons_succ]
          refine wpAnyH_take (i := 12) (v := ?_) rfl (by kernel_rfl) (by kernel_rfl) (by kernel_rfl) (fun _ _ _ h => h) (Or.inl ⟨by rfl, fun w' hS' => ?_⟩) hS ?_
          rotate_left
          · obtain ⟨⟨s0, s1⟩, s2, s3, s4⟩ := hS'
            go_simp
            try rfl
          try simp only [List.getElem_toArray, List.getElem_cons_zero, List.getElem_cons_succ, Act.put, List.setIfInBounds_toArray, List.set_cons_zero, List.set_cons_succ]
          clear hS
          refine wpAnyH_ready (rs := [1]) (by kernel_rfl) (by simp) ?_
          refine AllReadyH.cons rfl (fun K hK => ?_) AllReadyH.nil
          go_simp
          refine (rf_Beginning _).mono ?_
          rintro e P1 ⟨rfl, mm⟩
          have q1 := ((New.refl W3).drew).trans mm
          refine hK.out _ _ (HSD.out P1 (HN2.out.trans q1) (HT2.out.keep q1) (HRR.out.keep q1)) (fun hS => ?_)
          clear hK K mm
          try simp only [List.getElem_toArray, List.getElem_cons_zero, List.getElem_cons_succ, Act.put, List.setIfInBounds_toArray, List.set_cons_zero, List.set_cons_succ]
          refine wpAnyH_take (i := 13) (v := ?_) rfl (by kernel_rfl) (by kernel_rfl) (by kernel_rfl) (fun _ _ _ h => h) (Or.inl ⟨by rfl, fun w' hS' => ?_⟩) hS ?_
          rotate_left
          · obtain ⟨⟨s0, s1⟩, s2, s3, s4⟩ := hS'
            go_simp
            try rfl
          try simp only [List.getElem_toArray, List.getElem_cons_zero, List.getElem_cons_succ, Act.put, List.setIfInBounds_toArray, List.set_cons_zero, List.set_cons_succ]
          clear hS
          have q2 := q1.trans ((New.refl P1).alloc (.cells #[.int .i64 (-1), .int .i64 0, .int .i64 k, .int .i64 j, .int .i64 (x + sl), .int .i64 1, .int .i64 j] 91))
          refine wpAnyH_ready (rs := [14]) (by kernel_rfl) (by simp) ?_
          refine AllReadyH.cons rfl (fun K hK => ?_) AllReadyH.nil
          go_simp
          refine hK.out _ _ (HSD.out _ (HN2.out.trans q2) (HT2.out.keep q2) (HRR.out.keep q2)) (fun hS => ?_)
          clear hK K hS
          try simp only [List.getElem_toArray, List.getElem_cons_zero, List.getElem_cons_succ, Act.put, List.setIfInBounds_toArray, List.set_cons_zero, List.set_cons_succ]
          have hq0 := owns_keep HO2.out q2
          have tq := HT2.out.keep q2
          have rq := HRR.out.keep q2
          have hbs : W1.heap.size ≤ (P1.alloc (.cells #[.int .i64 (-1), .int .i64 0, .int .i64 k, .int .i64 j, .int .i64 (x + sl), .int .i64 1, .int .i64 j] 91)).heap.size := (HN2.out.trans q2).size
          refine wpAnyH_ready (rs := [15]) (by kernel_rfl) (by simp) ?_
          refine AllReadyH.cons rfl (fun K hK => ?_) AllReadyH.nil
          refine step_append_lies _ rfl (.tmp 39) (.tmp 53) 36 rfl W1.heap.size 91 ib (.agg #[.int .i64 0, .int .i64 0, .int .i64 0, .int .i64 0, .int .i64 0, .int .i64 0, .int .i64 0]) 7 56 under_boundsl HI.out.1 HI.out.2.1 HI.out.2.2.1 HI.out.2.2.2 rfl (by decide) (.slice VA2 n2 vc2) n2 _ rfl hq0 ⟨P1.heap.size, 0, none⟩ 1 1 [.int .i64 (-1), .int .i64 0, .int .i64 k, .int .i64 j, .int .i64 (x + sl), .int .i64 1, .int .i64 j] rfl rfl (World.news_of_block (cs := #[.int .i64 (-1), .int .i64 0, .int .i64 k, .int .i64 j, .int .i64 (x + sl), .int .i64 1, .int .i64 j]) (heap_alloc_new P1 _)) (by simp [Value.oneCell']) (by decide) (by unfold maxLen; omega) (by omega) hbs _ rfl ?_
          intro Pg Pc P ho hg hat hlt8
          have hNP : Hid (New W1 P) := Lib.hid (Below.trans (HN2.out.trans q2) (grown_below hq0 hg hbs))
          have hTP := Lib.hid (tq.grown hg (owns_ne hq0 tq (by decide)))
          have hRP := Lib.hid (rq.grown hg (owns_ne hq0 rq (by decide)))
          refine hK.out _ _ (HSD.out P hNP.out hTP.out hRP.out) (fun hS => ?_)
          clear hK K
          try simp only [List.getElem_toArray, List.getElem_cons_zero, List.getElem_cons_succ, Act.put, List.setIfInBounds_toArray, List.set_cons_zero, List.set_cons_succ]
          refine wpAnyH_take (i := 16) (v := ?_) rfl (by kernel_rfl) (by kernel_rfl) (by kernel_rfl) (fun _ _ _ h => h) (Or.inl ⟨by rfl, fun w' hS' => ?_⟩) hS ?_
          rotate_left
          · obtain ⟨⟨s0, s1⟩, s2, s3, s4⟩ := hS'
            go_simp
            try rfl
          try simp only [List.getElem_toArray, List.getElem_cons_zero, List.getElem_cons_succ, Act.put, List.setIfInBounds_toArray, List.set_cons_zero, List.set_cons_succ]
          refine wpAnyH_done (by kernel_rfl) ?_ _
          unfold NormQ
          dsimp only [Exit.then]
          have hOP := Lib.hid ho
          clear hS ho hg hat hlt8 hq0 hbs tq rq q1 q2
          go_wp2_with fail
          refine region_plain (by kernel_rfl) (wpAny_of_held (S := fun w' => (w'.cell? ⟨Bt, 0, none⟩ = some (.int .i64 sl) ∧ w'.cell? ⟨Bt, 3, none⟩ = some (.slice (some ⟨tb, toff, none⟩) ts.length tc)) ∧ (w'.cell? ⟨tb, toff + j, none⟩ = some (.int .i64 x) ∧ w'.cell? ⟨Br, 0, none⟩ = some (.int .i64 k) ∧ w'.cell? ⟨Br, 1, none⟩ = some (.int .i64 j))) _ _ _ _ ?_)
          change wpAnyH _ _ _ _ _ _ _ _ P.drew
          have hS := HSD.out P.drew (hNP.out.trans (New.refl P).drew) hTP.out.drew hRP.out.drew
          refine wpAnyH_take (i := 0) (v := ?_) rfl (by kernel_rfl) (by kernel_rfl) (by kernel_rfl) (fun _ _ _ h => h) (Or.inl ⟨by rfl, fun w' hS' => ?_⟩) hS ?_
          rotate_left
          · obtain ⟨⟨s0, s1⟩, s2, s3, s4⟩ := hS'
            go_simp
            try rfl
          try simp only [List.getElem_toArray, List.getElem_cons_zero, Act.put, List.setIfInBounds_toArray, List.set_cons_zero, List.set_cons_succ]
          refine wpAnyH_take (i := 1) (v := ?_) rfl (by kernel_rfl) (by kernel_rfl) (by kernel_rfl) (fun _ _ _ h => h) (Or.inl ⟨by rfl, fun w' hS' => ?_⟩) hS ?_
          rotate_left
          · obtain ⟨⟨s0, s1⟩, s2, s3, s4⟩ := hS'
            go_simp
            try rfl
          try simp only [List.getElem_toArray, List.getElem_cons_zero, List.getElem_cons_succ, Act.put, List.setIfInBounds_toArray, List.set_cons_zero, List.set_cons_succ]
          refine wpAnyH_take (i := 3) (v := ?_) rfl (by kernel_rfl) (by kernel_rfl) (by kernel_rfl) (fun _ _ _ h => h) (Or.inl ⟨by rfl, fun w' hS' => ?_⟩) hS ?_
          rotate_left
          · obtain ⟨⟨s0, s1⟩, s2, s3, s4⟩ := hS'
            go_simp
            try rfl
          try simp only [List.getElem_toArray, List.getElem_cons_zero, List.getElem_cons_succ, Act.put, List.setIfInBounds_toArray, List.set_cons_zero, List.set_cons_succ]
          refine wpAnyH_take (i := 4) (v := ?_) rfl (by kernel_rfl) (by kernel_rfl) (by kernel_rfl) (fun _ _ _ h => h) (Or.inl ⟨by rfl, fun w' hS' => ?_⟩) hS ?_
          rotate_left
          · obtain ⟨⟨s0, s1⟩, s2, s3, s4⟩ := hS'
            go_simp
            try rfl
          try simp only [List.getElem_toArray, List.getElem_cons_zero, List.getElem_cons_succ, Act.put, List.setIfInBounds_toArray, List.set_cons_zero, List.set_cons_succ]
          refine wpAnyH_take (i := 5) (v := ?_) rfl (by kernel_rfl) (by kernel_rfl) (by kernel_rfl) (fun _ _ _ h => h) (Or.inl ⟨by rfl, fun w' hS' => ?_⟩) hS ?_
          rotate_left
          · obtain ⟨⟨s0, s1⟩, s2, s3, s4⟩ := hS'
            go_simp
            try rfl
          try simp only [List.getElem_toArray, List.getElem_cons_zero, List.getElem_cons_succ, Act.put, List.setIfInBounds_toArray, List.set_cons_zero, List.set_cons_succ]
          refine wpAnyH_take (i := 6) (v := ?_) rfl (by kernel_rfl) (by kernel_rfl) (by kernel_rfl) (fun _ _ _ h => h) (Or.inl ⟨by rfl, fun w' hS' => ?_⟩) hS ?_
          rotate_left
          · obtain ⟨⟨s0, s1⟩, s2, s3, s4⟩ := hS'
            go_simp
            try rfl
          try simp only [List.getElem_toArray, List.getElem_cons_zero, List.getElem_cons_succ, Act.put, List.setIfInBounds_toArray, List.set_cons_zero, List.set_cons_succ]
          refine wpAnyH_take (i := 7) (v := ?_) rfl (by kernel_rfl) (by kernel_rfl) (by kernel_rfl) (fun _ _ _ h => h) (Or.inl ⟨by rfl, fun w' hS' => ?_⟩) hS ?_
          rotate_left
          · obtain ⟨⟨s0, s1⟩, s2, s3, s4⟩ := hS'
            go_simp
            try rfl
          try simp only [List.getElem_toArray, List.getElem_cons_zero, List.getElem_cons_succ, Act.put, List.setIfInBounds_toArray, List.set_cons_zero, List.set_cons_succ]
          refine wpAnyH_take (i := 8) (v := ?_) rfl (by kernel_rfl) (by kernel_rfl) (by kernel_rfl) (fun _ _ _ h => h) (Or.inl ⟨by rfl, fun w' hS' => ?_⟩) hS ?_
          rotate_left
          · obtain ⟨⟨s0, s1⟩, s2, s3, s4⟩ := hS'
            go_simp
            try rfl
          try simp only [List.getElem_toArray, List.getElem_cons_zero, List.getElem_cons_succ, Act.put, List.setIfInBounds_toArray, List.set_cons_zero, List.set_cons_succ]
          refine wpAnyH_take (i := 9) (v := ?_) rfl (by kernel_rfl) (by kernel_rfl) (by kernel_rfl) (fun _ _ _ h => h) (Or.inl ⟨by rfl, fun w' hS' => ?_⟩) hS ?_
          rotate_left
          · obtain ⟨⟨s0, s1⟩, s2, s3, s4⟩ := hS'
            go_simp
            try rfl
          try simp only [List.getElem_toArray, List.getElem_cons_zero, List.getElem_cons_succ, Act.put, List.setIfInBounds_toArray, List.set_cons_zero, List.set_cons_succ]
          refine wpAnyH_take (i := 10) (v := ?_) rfl (by kernel_rfl) (by kernel_rfl) (by kernel_rfl) (fun _ _ _ h => h) (Or.inl ⟨by rfl, fun w' hS' => ?_⟩) hS ?_
          rotate_left
          · obtain ⟨⟨s0, s1⟩, s2, s3, s4⟩ := hS'
            go_simp
            try rfl
          try simp only [List.getElem_toArray, List.getElem_cons_zero, List.getElem_cons_succ, Act.put, List.setIfInBounds_toArray, List.set_cons_zero, List.set_cons_succ]
          refine wpAnyH_take (i := 11) (v := ?_) rfl (by kernel_rfl) (by kernel_rfl) (by kernel_rfl) (fun _ _ _ h => h) (Or.inl ⟨by rfl, fun w' hS' => ?_⟩) hS ?_
          rotate_left
          · obtain ⟨⟨s0, s1⟩, s2, s3, s4⟩ := hS'
            go_simp
            try rfl
          try simp only [List.getElem_toArray, List.getElem_cons_zero, List.getElem_cons_succ, Act.put, List.setIfInBounds_toArray, List.set_cons_zero, List.set_cons_succ]
          refine wpAnyH_take (i := 12) (v := ?_) rfl (by kernel_rfl) (by kernel_rfl) (by kernel_rfl) (fun _ _ _ h => h) (Or.inl ⟨by rfl, fun w' hS' => ?_⟩) hS ?_
          rotate_left
          · obtain ⟨⟨s0, s1⟩, s2, s3, s4⟩ := hS'
            go_simp
            try rfl
          try simp only [List.getElem_toArray, List.getElem_cons_zero, List.getElem_cons_succ, Act.put, List.setIfInBounds_toArray, List.set_cons_zero, List.set_cons_succ]
          clear hS
          refine wpAnyH_ready (rs := [2]) (by kernel_rfl) (by simp) ?_
          refine AllReadyH.cons rfl (fun K hK => ?_) AllReadyH.nil
          go_simp
          refine (rf_Beginning _).mono ?_
          rintro e Z1 ⟨rfl, mm⟩
          have q1 := ((New.refl P).drew).trans mm
          refine hK.out _ _ (HSD.out Z1 (hNP.out.trans q1) (hTP.out.keep q1) (hRP.out.keep q1)) (fun hS => ?_)
          clear hK K mm
          try simp only [List.getElem_toArray, List.getElem_cons_zero, List.getElem_cons_succ, Act.put, List.setIfInBounds_toArray, List.set_cons_zero, List.set_cons_succ]
          refine wpAnyH_take (i := 13) (v := ?_) rfl (by kernel_rfl) (by kernel_rfl) (by kernel_rfl) (fun _ _ _ h => h) (Or.inl ⟨by rfl, fun w' hS' => ?_⟩) hS ?_
          rotate_left
          · obtain ⟨⟨s0, s1⟩, s2, s3, s4⟩ := hS'
            go_simp
            try rfl
          try simp only [List.getElem_toArray, List.getElem_cons_zero, List.getElem_cons_succ, Act.put, List.setIfInBounds_toArray, List.set_cons_zero, List.set_cons_succ]
          clear hS
          have q2 := q1.trans ((New.refl Z1).alloc (.cells #[.int .i64 k, .int .i64 j, .int .i64 (-1), .int .i64 0, .int .i64 (sl - x), .int .i64 1, .int .i64 j] 91))
          refine wpAnyH_ready (rs := [14]) (by kernel_rfl) (by simp) ?_
          refine AllReadyH.cons rfl (fun K hK => ?_) AllReadyH.nil
          go_simp
          refine hK.out _ _ (HSD.out _ (hNP.out.trans q2) (hTP.out.keep q2) (hRP.out.keep q2)) (fun hS => ?_)
          clear hK K hS
          try simp only [List.getElem_toArray, List.getElem_cons_zero, List.getElem_cons_succ, Act.put, List.setIfInBounds_toArray, List.set_cons_zero, List.set_cons_succ]
          have hq0 := owns_keep hOP.out q2
          have tq := hTP.out.keep q2
          have rq := hRP.out.keep q2
          have hbs : W1.heap.size ≤ (Z1.alloc (.cells #[.int .i64 k, .int .i64 j, .int .i64 (-1), .int .i64 0, .int .i64 (sl - x), .int .i64 1, .int .i64 j] 91)).heap.size := (hNP.out.trans q2).size
          refine wpAnyH_ready (rs := [15]) (by kernel_rfl) (by simp) ?_
          refine AllReadyH.cons rfl (fun K hK => ?_) AllReadyH.nil
          refine step_append_lies _ rfl (.tmp 55) (.tmp 69) 36 rfl W1.heap.size 91 ib (.agg #[.int .i64 0, .int .i64 0, .int .i64 0, .int .i64 0, .int .i64 0, .int .i64 0, .int .i64 0]) 7 56 under_boundsl HI.out.1 HI.out.2.1 HI.out.2.2.1 HI.out.2.2.2 rfl (by decide) (.slice (some ⟨Pg, 0, none⟩) (n2 + 1) Pc) (n2 + 1) _ rfl hq0 ⟨Z1.heap.size, 0, none⟩ 1 1 [.int .i64 k, .int .i64 j, .int .i64 (-1), .int .i64 0, .int .i64 (sl - x), .int .i64 1, .int .i64 j] rfl rfl (World.news_of_block (cs := #[.int .i64 k, .int .i64 j, .int .i64 (-1), .int .i64 0, .int .i64 (sl - x), .int .i64 1, .int .i64 j]) (heap_alloc_new Z1 _)) (by simp [Value.oneCell']) (by decide) (by unfold maxLen; omega) (by omega) hbs _ rfl ?_
          intro Zg Zc Z ho hg hat hlt8
          have hNZ : Hid (New W1 Z) := Lib.hid (Below.trans (hNP.out.trans q2) (grown_below hq0 hg hbs))
          have hTZ := Lib.hid (tq.grown hg (owns_ne hq0 tq (by decide)))
          have hRZ := Lib.hid (rq.grown hg (owns_ne hq0 rq (by decide)))
          refine hK.out _ _ (HSD.out Z hNZ.out hTZ.out hRZ.out) (fun hS => ?_)
          clear hK K
          try simp only [List.getElem_toArray, List.getElem_cons_zero, List.getElem_cons_succ, Act.put, List.setIfInBounds_toArray, List.set_cons_zero, List.set_cons_succ]
          refine wpAnyH_take (i := 16) (v := ?_) rfl (by kernel_rfl) (by kernel_rfl) (by kernel_rfl) (fun _ _ _ h => h) (Or.inl ⟨by rfl, fun w' hS' => ?_⟩) hS ?_
          rotate_left
          · obtain ⟨⟨s0, s1⟩, s2, s3, s4⟩ := hS'
            go_simp
            try rfl
          try simp only [List.getElem_toArray, List.getElem_cons_zero, List.getElem_cons_succ, Act.put, List.setIfInBounds_toArray, List.set_cons_zero, List.set_cons_succ]
          refine wpAnyH_done (by kernel_rfl) ?_ _
          unfold NormQ
          dsimp only [Exit.then]
          have hOZ := Lib.hid ho
          clear hS ho hg hat hlt8 hq0 hbs tq rq q1 q2
          have HBF : Hid (BdO Z W1.heap.size (some ⟨Zg, 0, none⟩) (n2 + 1 + 1) Zc (slipsL s k ++ slipsT k ⟨sl, dr, js, ts⟩ (j + 1))) := Lib.hid (by
            have h1 := BdO.push (E := slipsL s k ++ slipsT k ⟨sl, dr, js, ts⟩ j ++ [upB k ⟨sl, dr, js, ts⟩ j]) (n := n2 + 1) (by rw [List.length_append, HL2.out]; rfl) (downB k ⟨sl, dr, js, ts⟩ j) (by
              rw [HDN.out, List.flatMap_append]
              have h2 := hOZ.out
              rw [← HUP.out] at h2
              simpa using h2)
            rw [HSJ.out]
            simpa using h1)
          go_wp2_with fail
          go_roundw
          case rel => exact ⟨j + 1, n2 + 1 + 1, some ⟨Zg, 0, none⟩, Zc, by omega, by go_num, rfl, hNZ.out, hTZ.out, HBF.out⟩
          case measure => simp [intOf]; omega

        · obtain rfl : j = ts.length := by omega
          have HN2 := Lib.hid hn2
          have HB2 := Lib.hid hb2
          clear hn2 ht2 hb2
          go_wp2_with fail
          go_roundw
          case rel => exact ⟨k + 1, n2, VA2, vc2, by omega, by go_num, rfl, HN2.out, by rw [HSU.out]; exact HB2.out⟩
          case measure => simp [intOf]; omega
    · obtain rfl : k = s.tracks.length := by omega
      clear hn hbo
      go_wp2_with fail
      have HBL := Lib.hid HBO
      have HNL := Lib.hid HNW
      have HLS : Hid ((slipsL s s.tracks.length).length ≤ 52000) := Lib.hid (by
        have := slips_len HOK.out s.tracks.length 0 (Nat.le_refl _) (Nat.zero_le _) (by omega)
        rw [List.length_append] at this
        omega)
      generalize hSL : slipsL s s.tracks.length = SL at *
      have HSLE := Lib.hid hSL
      clear hSL c0 hBl
      go_loopw [3, 8] (fun V i wr => ∃ (k n : Nat) (VA : Option Addr) (vc : Nat), k ≤ s.tracks.length ∧ i = .int .i64 k ∧ V = .slice VA n vc ∧ New W1 wr ∧ BdO wr W1.heap.size VA n vc (SL ++ stepsL s k)) (fun _ i _ => s.tracks.length - (intOf i).toNat)
      case atStart => exact ⟨0, n, VA, vc, Nat.zero_le _, rfl, rfl, HNW.out, by simpa [stepsL] using HBO.out⟩
      case round =>
        clear HBO HNW HBL HNL
        obtain ⟨k, n, VA, vc, hk, rfl, rfl, hn, hbo⟩ := hrel
        have HNW := Lib.hid hn
        have HBO := Lib.hid hbo
        have c0 := (HR.out.keep hn).cell (i := 0) rfl
        have hBl : B < wr.heap.size := (HR.out.keep hn).lt
        by_cases hlt : k < s.tracks.length
        · obtain ⟨b, off, hA, -, hc⟩ := HS.out.1.2 (by omega)
          subst hA
          obtain ⟨JA, jc, TA, tc, y0, y1, y2, y3, hJ, hT⟩ := hc k hlt
          have z0 := hn.cellOf y0
          have z1 := hn.cellOf y1
          have z2 := hn.cellOf y2
          have z3 := hn.cellOf y3
          clear y0 y1 y2 y3
          have ik : (k : Int) < (s.tracks.length : Int) := by omega
          have HTF := Lib.hid (trackB_facts (HOK.out.track hlt))
          have HDB : Hid (∀ j, j + 1 < (tkAt s k).times.length → _) := Lib.hid fun j hj => drift_bd (HOK.out.track hlt) hj
          have HSU := Lib.hid (stepsL_succ s k)
          have HST := Lib.hid (fun j => stepsT_succ k (tkAt s k) j)
          have htn : (tkAt s k).times.length ≤ 400 := HTF.out.2.2.2.2.2.1
          have HLEN : Hid (∀ j, j ≤ 400 → (SL ++ (stepsL s k ++ stepsT k (tkAt s k) j)).length ≤ 132000) := Lib.hid fun j hj => by
            have := steps_len HOK.out k j (by omega)
            have := HLS.out
            rw [List.length_append]
            omega
          have et : s.tracks[k]?.getD default = tkAt s k := rfl
          rw [et] at z0 z1 z2 z3 hT hJ
          have HSZ0 : Hid (SL ++ (stepsL s k ++ stepsT k (tkAt s k) 0) = SL ++ stepsL s k) := Lib.hid (by simp [stepsT])
          clear hc hn hbo et
          generalize tkAt s k = t at *
          obtain ⟨sl, dr, js, ts⟩ := t
          dsimp only at z0 z1 z2 z3 hT hJ htn
          have m1 := (New.refl wr).alloc (.cells #[.int .i64 sl, .int .i64 dr, .slice JA js.length jc, .slice TA ts.length tc] 30)
          have HT := Lib.hid hT
          have HJS := Lib.hid hJ
          have HRT := Lib.hid (RowIs.new wr 30 [.int .i64 sl, .int .i64 dr, .slice JA js.length jc, .slice TA ts.length tc])
          have HNA := Lib.hid (HNW.out.trans m1)
          have HBA := Lib.hid (HBO.out.keep m1)
          clear hT hJ m1
          go_wp2_with fail
          generalize hBt : wr.heap.size = Bt at *
          generalize hW2 : wr.alloc (.cells #[.int .i64 sl, .int .i64 dr, .slice JA js.length jc, .slice TA ts.length tc] 30) = W2 at *
          clear c0 z0 z1 z2 z3 hW2 HBO
          go_loopw [3, 10] (fun V i wr2 => ∃ (j n2 : Nat) (VA2 : Option Addr) (vc2 : Nat), j ≤ ts.length - 1 ∧ i = .int .i64 j ∧ V = .slice VA2 n2 vc2 ∧ New W1 wr2 ∧ RowIs wr2 Bt 30 [.int .i64 sl, .int .i64 dr, .slice JA js.length jc, .slice TA ts.length tc] ∧ BdO wr2 W1.heap.size VA2 n2 vc2 (SL ++ (stepsL s k ++ stepsT k ⟨sl, dr, js, ts⟩ j))) (fun _ i _ => ts.length - (intOf i).toNat)
          case atStart => exact ⟨0, n, VA, vc, Nat.zero_le _, rfl, rfl, HNA.out, HRT.out, by rw [HSZ0.out]; exact HBA.out⟩
          case round =>
            obtain ⟨j, n2, VA2, vc2, hj, rfl, rfl, hn2, ht2, hb2⟩ := hrel
            have c3 := ht2.cell (i := 3) rfl
            have hBtl : Bt < wr.heap.size := ht2.lt
            by_cases hlt2 : j + 1 < ts.length
            · have hd : decide ((j : Int) + 1 < (ts.length : Int)) = true := by simp; omega
              have hwj : IntKind.i64.wrap ((j : Int) + 1) = (j : Int) + 1 := IntWalk.i64_in _ (by omega)
              obtain ⟨tb, toff, hTA, -, htc⟩ := HT.out.2 (by omega)
              subst hTA
              have x0 := htc j (by omega)
              have x1 := htc (j + 1) (by omega)
              have ij : (j : Int) < (ts.length : Int) := by omega
              have jj0 : (0 : Int) ≤ (j : Int) + 1 := by omega
              have jj1 : (j : Int) + 1 < (ts.length : Int) := by omega
              have hxf := HTF.out.1 j (by omega)
              have hyf := HTF.out.1 (j + 1) (by omega)
              have hxt : tmAt ⟨sl, dr, js, ts⟩ j = ts[j]?.getD 0 := rfl
              have hyt : tmAt ⟨sl, dr, js, ts⟩ (j + 1) = ts[j + 1]?.getD 0 := rfl
              rw [hxt] at hxf
              rw [hyt] at hxf hyf
              have hxr := hxf.1
              have hxr2 := hxf.2.1
              have hxy := hxf.2.2 hlt2
              have hyr2 := hyf.2.1
              have hdr := HTF.out.2.2.2.1
              have hdr2 := HTF.out.2.2.2.2.1
              try dsimp only at hdr hdr2
              have hnl : n2 ≤ 140000 := by have := HLEN.out j (by omega); have := hb2.len; omega
              have HOR : Hid (bdCs (orderB k j) = [.int .i64 k, .int .i64 ((j : Int) + 1), .int .i64 k, .int .i64 j, .int .i64 0, .int .i64 2, .int .i64 j]) := Lib.hid rfl
              have HUP : Hid (bdCs (driftUp k ⟨sl, dr, js, ts⟩ j) = [.int .i64 k, .int .i64 j, .int .i64 k, .int .i64 ((j : Int) + 1), .int .i64 ((ts[j + 1]?.getD 0 - ts[j]?.getD 0) + (1 + (dr * (ts[j + 1]?.getD 0 - ts[j]?.getD 0) + 999) / 1000)), .int .i64 3, .int .i64 j]) := Lib.hid rfl
              have HDN : Hid (bdCs (driftDown k ⟨sl, dr, js, ts⟩ j) = [.int .i64 k, .int .i64 ((j : Int) + 1), .int .i64 k, .int .i64 j, .int .i64 ((1 + (dr * (ts[j + 1]?.getD 0 - ts[j]?.getD 0) + 999) / 1000) - (ts[j + 1]?.getD 0 - ts[j]?.getD 0)), .int .i64 3, .int .i64 j]) := Lib.hid rfl
              have HSE : Hid (stepL k ⟨sl, dr, js, ts⟩ j = orderB k j :: if jmpB js (ts[j]?.getD 0) (ts[j + 1]?.getD 0) = false then [driftUp k ⟨sl, dr, js, ts⟩ j, driftDown k ⟨sl, dr, js, ts⟩ j] else []) := Lib.hid (by
                unfold stepL
                rw [hxt, hyt]
                have h1 := jmp_seg js hxy
                by_cases h2 : jmpB js (ts[j]?.getD 0) (ts[j + 1]?.getD 0) = false
                · rw [if_pos h2, if_pos (h1.2 h2)]
                · rw [if_neg h2, if_neg (fun h => h2 (h1.1 h))])
              have HSJ := Lib.hid (HST.out j)
              have hp0 : 0 ≤ dr * (ts[j + 1]?.getD 0 - ts[j]?.getD 0) := Int.mul_nonneg hdr (by omega)
              have hp1 : dr * (ts[j + 1]?.getD 0 - ts[j]?.getD 0) ≤ 2000000 := by
                have h1 : dr * (ts[j + 1]?.getD 0 - ts[j]?.getD 0) ≤ 100 * 20000 := Int.mul_le_mul hdr2 (by omega) (by omega) (by omega)
                omega
              clear htc hxf hyf hxt hyt
              generalize ts[j]?.getD 0 = x at *
              generalize ts[j + 1]?.getD 0 = y at *
              have m2 := ((New.refl wr).alloc (.cells #[.int .i64 k, .int .i64 j] 53)).alloc (.cells #[.int .i64 k, .int .i64 ((j : Int) + 1)] 53)
              have ra := (RowIs.new wr 53 [.int .i64 k, .int .i64 j]).keep ((New.refl _).alloc (.cells #[.int .i64 k, .int .i64 ((j : Int) + 1)] 53))
              have rb := RowIs.new (wr.alloc (.cells #[.int .i64 k, .int .i64 j] 53)) 53 [.int .i64 k, .int .i64 ((j : Int) + 1)]
              simp only [World.size_alloc] at rb
              have HRA := Lib.hid ra
              have HRB := Lib.hid rb
              have HN2 := Lib.hid (hn2.trans m2)
              have HT2 := Lib.hid (ht2.keep m2)
              have HO2 := Lib.hid (owns_keep hb2.own m2)
              have HL2 := Lib.hid hb2.len
              have HX := Lib.hid x0
              have HY := Lib.hid x1
              have a0 := ra.cell (i := 0) rfl
              have a1 := ra.cell (i := 1) rfl
              have b0 := rb.cell (i := 0) rfl
              have b1 := rb.cell (i := 1) rfl
              clear hn2 ht2 hb2 m2 x0 x1 ra rb
              generalize hE : SL ++ (stepsL s k ++ stepsT k ⟨sl, dr, js, ts⟩ j) = E at *
              have HEE := Lib.hid hE
              clear hE
              have q2 := (New.refl ((wr.alloc (.cells #[.int .i64 k, .int .i64 j] 53)).alloc (.cells #[.int .i64 k, .int .i64 ((j : Int) + 1)] 53))).alloc (.cells #[.int .i64 k, .int .i64 ((j : Int) + 1), .int .i64 k, .int .i64 j, .int .i64 0, .int .i64 2, .int .i64 j] 91)
              have HQ2 := Lib.hid q2
              have HNB : Hid (((((wr.alloc (.cells #[.int .i64 k, .int .i64 j] 53)).alloc (.cells #[.int .i64 k, .int .i64 ((j : Int) + 1)] 53)).alloc (.cells #[.int .i64 k, .int .i64 ((j : Int) + 1), .int .i64 k, .int .i64 j, .int .i64 0, .int .i64 2, .int .i64 j] 91)).heap)[(wr.heap.size + 1 + 1)]? = some (.cells #[.int .i64 k, .int .i64 ((j : Int) + 1), .int .i64 k, .int .i64 j, .int .i64 0, .int .i64 2, .int .i64 j] 91)) := Lib.hid (by
                have h := heap_alloc_new ((wr.alloc (.cells #[.int .i64 k, .int .i64 j] 53)).alloc (.cells #[.int .i64 k, .int .i64 ((j : Int) + 1)] 53)) (.cells #[.int .i64 k, .int .i64 ((j : Int) + 1), .int .i64 k, .int .i64 j, .int .i64 0, .int .i64 2, .int .i64 j] 91)
                have e : ((wr.alloc (.cells #[.int .i64 k, .int .i64 j] 53)).alloc (.cells #[.int .i64 k, .int .i64 ((j : Int) + 1)] 53)).heap.size = (wr.heap.size + 1 + 1) := by simp
                rw [e] at h
                exact h)
              have HQ0 := Lib.hid (owns_keep HO2.out q2)
              have HBS : Hid (W1.heap.size ≤ (((wr.alloc (.cells #[.int .i64 k, .int .i64 j] 53)).alloc (.cells #[.int .i64 k, .int .i64 ((j : Int) + 1)] 53)).alloc (.cells #[.int .i64 k, .int .i64 ((j : Int) + 1), .int .i64 k, .int .i64 j, .int .i64 0, .int .i64 2, .int .i64 j] 91)).heap.size) := Lib.hid (HN2.out.trans q2).size
              clear q2
              go_wp2_with (at_builtin; go_loud (refine wpList_append_lies _ rfl (.tmp 98) (.tmp 103) 36 rfl W1.heap.size 91 ib (.agg #[.int .i64 0, .int .i64 0, .int .i64 0, .int .i64 0, .int .i64 0, .int .i64 0, .int .i64 0]) 7 56 under_boundsl HI.out.1 HI.out.2.1 HI.out.2.2.1 HI.out.2.2.2 rfl (by decide) (.slice VA2 n2 vc2) n2 _ rfl HQ0.out ⟨(wr.heap.size + 1 + 1), 0, none⟩ 1 1 [.int .i64 k, .int .i64 ((j : Int) + 1), .int .i64 k, .int .i64 j, .int .i64 0, .int .i64 2, .int .i64 j] rfl rfl (World.news_of_block (cs := #[.int .i64 k, .int .i64 ((j : Int) + 1), .int .i64 k, .int .i64 j, .int .i64 0, .int .i64 2, .int .i64 j]) HNB.out) (by simp [Value.oneCell']) (by decide) (by unfold maxLen; omega) (by omega) HBS.out _ rfl ?_))
              intro Og Oc O ho hg _ _
              have hNO : Hid (New W1 O) := Lib.hid (Below.trans (HN2.out.trans HQ2.out) (grown_below HQ0.out hg HBS.out))
              have hTO := Lib.hid ((HT2.out.keep HQ2.out).grown hg (owns_ne HQ0.out (HT2.out.keep HQ2.out) (by decide)))
              have hAO := Lib.hid ((HRA.out.keep HQ2.out).grown hg (owns_ne HQ0.out (HRA.out.keep HQ2.out) (by decide)))
              have hBO := Lib.hid ((HRB.out.keep HQ2.out).grown hg (owns_ne HQ0.out (HRB.out.keep HQ2.out) (by decide)))
              have hOO := Lib.hid ho
              clear ho hg HQ2 HQ0 HBS HNB
              clear a0 a1 b0 b1 HN2 HT2 HRA HRB HO2
              generalize wr.heap.size = Ba at *
              go_wp2_with fail
              have HSD : Hid (∀ w', New O w' → (w'.cell? ⟨Bt, 0, none⟩ = some (.int .i64 sl) ∧ w'.cell? ⟨Bt, 1, none⟩ = some (.int .i64 dr) ∧ w'.cell? ⟨Bt, 2, none⟩ = some (.slice JA js.length jc) ∧ w'.cell? ⟨Bt, 3, none⟩ = some (.slice (some ⟨tb, toff, none⟩) ts.length tc)) ∧ (w'.cell? ⟨tb, toff + j, none⟩ = some (.int .i64 x) ∧ w'.cell? ⟨tb, toff + (j + 1), none⟩ = some (.int .i64 y))) := Lib.hid fun w' h => ⟨⟨(hTO.out.keep h).cell rfl, (hTO.out.keep h).cell rfl, (hTO.out.keep h).cell rfl, (hTO.out.keep h).cell rfl⟩, (hNO.out.trans h).cellOf HX.out, (hNO.out.trans h).cellOf HY.out⟩
              have HJC : Hid (∀ w', New W1 w' → Calls Tryd.prog 117 #[.agg #[.int .i64 sl, .int .i64 dr, .slice JA js.length jc], .int .i64 x, .int .i64 y] w' fun e w'' => e = .returned (.bool (jmpB js x y)) ∧ New w' w'') := Lib.hid fun w' h => rf_jumped sl dr JA jc js x y w' (HJS.out.keep h)
              refine region_plain (by kernel_rfl) (wpAny_of_held (S := fun w' => (w'.cell? ⟨Bt, 0, none⟩ = some (.int .i64 sl) ∧ w'.cell? ⟨Bt, 1, none⟩ = some (.int .i64 dr) ∧ w'.cell? ⟨Bt, 2, none⟩ = some (.slice JA js.length jc) ∧ w'.cell? ⟨Bt, 3, none⟩ = some (.slice (some ⟨tb, toff, none⟩) ts.length tc)) ∧ (w'.cell? ⟨tb, toff + j, none⟩ = some (.int .i64 x) ∧ w'.cell? ⟨tb, toff + (j + 1), none⟩ = some (.int .i64 y))) _ _ _ _ ?_)
              change wpAnyH _ _ _ _ _ _ _ _ O.drew
              have hS := HSD.out O.drew (New.refl O).drew
              refine wpAnyH_take (i := 0) (v := ?_) rfl (by kernel_rfl) (by kernel_rfl) (by kernel_rfl) (fun _ _ _ h => h) (Or.inl ⟨by rfl, fun w' hS' => ?_⟩) hS ?_
              rotate_left
              · obtain ⟨⟨s0, s1, s2, s3⟩, s4, s5⟩ := hS'
                go_simp
                try rfl
              try simp only [List.getElem_toArray, List.getElem_cons_zero, Act.put, List.setIfInBounds_toArray, List.set_cons_zero, List.set_cons_succ]
              refine wpAnyH_take (i := 1) (v := ?_) rfl (by kernel_rfl) (by kernel_rfl) (by kernel_rfl) (fun _ _ _ h => h) (Or.inl ⟨by rfl, fun w' hS' => ?_⟩) hS ?_
              rotate_left
              · obtain ⟨⟨s0, s1, s2, s3⟩, s4, s5⟩ := hS'
                go_simp
                try rfl
              try simp only [List.getElem_toArray, List.getElem_cons_zero, List.getElem_cons_succ, Act.put, List.setIfInBounds_toArray, List.set_cons_zero, List.set_cons_succ]
              refine wpAnyH_take (i := 2) (v := ?_) rfl (by kernel_rfl) (by kernel_rfl) (by kernel_rfl) (fun _ _ _ h => h) (Or.inl ⟨by rfl, fun w' hS' => ?_⟩) hS ?_
              rotate_left
              · obtain ⟨⟨s0, s1, s2, s3⟩, s4, s5⟩ := hS'
                go_simp
                try rfl
              try simp only [List.getElem_toArray, List.getElem_cons_zero, List.getElem_cons_succ, Act.put, List.setIfInBounds_toArray, List.set_cons_zero, List.set_cons_succ]
              refine wpAnyH_take (i := 3) (v := ?_) rfl (by kernel_rfl) (by kernel_rfl) (by kernel_rfl) (fun _ _ _ h => h) (Or.inl ⟨by rfl, fun w' hS' => ?_⟩) hS ?_
              rotate_left
              · obtain ⟨⟨s0, s1, s2, s3⟩, s4, s5⟩ := hS'
                go_simp
                try rfl
              try simp only [List.getElem_toArray, List.getElem_cons_zero, List.getElem_cons_succ, Act.put, List.setIfInBounds_toArray, List.set_cons_zero, List.set_cons_succ]
              refine wpAnyH_take (i := 4) (v := ?_) rfl (by kernel_rfl) (by kernel_rfl) (by kernel_rfl) (fun _ _ _ h => h) (Or.inl ⟨by rfl, fun w' hS' => ?_⟩) hS ?_
              rotate_left
              · obtain ⟨⟨s0, s1, s2, s3⟩, s4, s5⟩ := hS'
                go_simp
                try rfl
              try simp only [List.getElem_toArray, List.getElem_cons_zero, List.getElem_cons_succ, Act.put, List.setIfInBounds_toArray, List.set_cons_zero, List.set_cons_succ]
              refine wpAnyH_take (i := 5) (v := ?_) rfl (by kernel_rfl) (by kernel_rfl) (by kernel_rfl) (fun _ _ _ h => h) (Or.inl ⟨by rfl, fun w' hS' => ?_⟩) hS ?_
              rotate_left
              · obtain ⟨⟨s0, s1, s2, s3⟩, s4, s5⟩ := hS'
                go_simp
                try rfl
              try simp only [List.getElem_toArray, List.getElem_cons_zero, List.getElem_cons_succ, Act.put, List.setIfInBounds_toArray, List.set_cons_zero, List.set_cons_succ]
              refine wpAnyH_take (i := 6) (v := ?_) rfl (by kernel_rfl) (by kernel_rfl) (by kernel_rfl) (fun _ _ _ h => h) (Or.inl ⟨by rfl, fun w' hS' => ?_⟩) hS ?_
              rotate_left
              · obtain ⟨⟨s0, s1, s2, s3⟩, s4, s5⟩ := hS'
                go_simp
                try rfl
              try simp only [List.getElem_toArray, List.getElem_cons_zero, List.getElem_cons_succ, Act.put, List.setIfInBounds_toArray, List.set_cons_zero, List.set_cons_succ]
              refine wpAnyH_take (i := 7) (v := ?_) rfl (by kernel_rfl) (by kernel_rfl) (by kernel_rfl) (fun _ _ _ h => h) (Or.inl ⟨by rfl, fun w' hS' => ?_⟩) hS ?_
              rotate_left
              · obtain ⟨⟨s0, s1, s2, s3⟩, s4, s5⟩ := hS'
                go_simp
                try rfl
              try simp only [List.getElem_toArray, List.getElem_cons_zero, List.getElem_cons_succ, Act.put, List.setIfInBounds_toArray, List.set_cons_zero, List.set_cons_succ]
              refine wpAnyH_take (i := 8) (v := ?_) rfl (by kernel_rfl) (by kernel_rfl) (by kernel_rfl) (fun _ _ _ h => h) (Or.inl ⟨by rfl, fun w' hS' => ?_⟩) hS ?_
              rotate_left
              · obtain ⟨⟨s0, s1, s2, s3⟩, s4, s5⟩ := hS'
                go_simp
                try rfl
              try simp only [List.getElem_toArray, List.getElem_cons_zero, List.getElem_cons_succ, Act.put, List.setIfInBounds_toArray, List.set_cons_zero, List.set_cons_succ]
              refine wpAnyH_take (i := 9) (v := ?_) rfl (by kernel_rfl) (by kernel_rfl) (by kernel_rfl) (fun _ _ _ h => h) (Or.inl ⟨by rfl, fun w' hS' => ?_⟩) hS ?_
              rotate_left
              · obtain ⟨⟨s0, s1, s2, s3⟩, s4, s5⟩ := hS'
                go_simp
                try rfl
              try simp only [List.getElem_toArray, List.getElem_cons_zero, List.getElem_cons_succ, Act.put, List.setIfInBounds_toArray, List.set_cons_zero, List.set_cons_succ]
              refine wpAnyH_take (i := 10) (v := ?_) rfl (by kernel_rfl) (by kernel_rfl) (by kernel_rfl) (fun _ _ _ h => h) (Or.inl ⟨by rfl, fun w' hS' => ?_⟩) hS ?_
              rotate_left
              · obtain ⟨⟨s0, s1, s2, s3⟩, s4, s5⟩ := hS'
                go_simp
                try rfl
              try simp only [List.getElem_toArray, List.getElem_cons_zero, List.getElem_cons_succ, Act.put, List.setIfInBounds_toArray, List.set_cons_zero, List.set_cons_succ]
              refine wpAnyH_take (i := 11) (v := ?_) rfl (by kernel_rfl) (by kernel_rfl) (by kernel_rfl) (fun _ _ _ h => h) (Or.inl ⟨by rfl, fun w' hS' => ?_⟩) hS ?_
              rotate_left
              · obtain ⟨⟨s0, s1, s2, s3⟩, s4, s5⟩ := hS'
                go_simp
                try rfl
              try simp only [List.getElem_toArray, List.getElem_cons_zero, List.getElem_cons_succ, Act.put, List.setIfInBounds_toArray, List.set_cons_zero, List.set_cons_succ]
              refine wpAnyH_take (i := 12) (v := ?_) rfl (by kernel_rfl) (by kernel_rfl) (by kernel_rfl) (fun _ _ _ h => h) (Or.inl ⟨by rfl, fun w' hS' => ?_⟩) hS ?_
              rotate_left
              · obtain ⟨⟨s0, s1, s2, s3⟩, s4, s5⟩ := hS'
                go_simp
                try rfl
              try simp only [List.getElem_toArray, List.getElem_cons_zero, List.getElem_cons_succ, Act.put, List.setIfInBounds_toArray, List.set_cons_zero, List.set_cons_succ]
              clear hS
              refine wpAnyH_ready (rs := [13]) (by kernel_rfl) (by simp) ?_
              refine AllReadyH.cons rfl (fun K hK => ?_) AllReadyH.nil
              go_simp
              refine (HJC.out _ (hNO.out.trans (New.refl O).drew)).mono ?_
              rintro e O5 ⟨rfl, mm⟩
              have q5 := ((New.refl O).drew).trans mm
              refine hK.out _ _ (HSD.out O5 q5) (fun hS => ?_)
              clear hK K mm
              try simp only [List.getElem_toArray, List.getElem_cons_zero, List.getElem_cons_succ, Act.put, List.setIfInBounds_toArray, List.set_cons_zero, List.set_cons_succ]
              refine wpAnyH_done (by kernel_rfl) ?_ _
              unfold NormQ
              dsimp only [Exit.then]
              clear hS
              have HN5 := Lib.hid (hNO.out.trans q5)
              have HT5 := Lib.hid (hTO.out.keep q5)
              have HA5 := Lib.hid (hAO.out.keep q5)
              have HB5 := Lib.hid (hBO.out.keep q5)
              have HO5 := Lib.hid (owns_keep hOO.out q5)
              clear hNO hTO hAO hBO hOO HSD HJC q5
              obtain ⟨E1, hE1⟩ : ∃ E1, E1 = E ++ [orderB k j] := ⟨_, rfl⟩
              have HE1 := Lib.hid hE1
              have HP1 : Hid (E.flatMap bdCs ++ [.int .i64 k, .int .i64 ((j : Int) + 1), .int .i64 k, .int .i64 j, .int .i64 0, .int .i64 2, .int .i64 j] = E1.flatMap bdCs) := Lib.hid (by rw [hE1, ← HOR.out]; simp)
              rw [HP1.out] at HO5
              have HL3 : Hid (E1.length = n2 + 1) := Lib.hid (by rw [hE1, List.length_append, HL2.out]; rfl)
              have HEF : Hid (SL ++ (stepsL s k ++ stepsT k ⟨sl, dr, js, ts⟩ (j + 1)) = E ++ stepL k ⟨sl, dr, js, ts⟩ j) := Lib.hid (by rw [HSJ.out, ← HEE.out]; simp [List.append_assoc])
              clear hE1
              cases hjb : jmpB js x y with
              | true =>
                rw [hjb, if_neg (by simp)] at HSE
                have HBF : Hid (BdO O5 W1.heap.size (some ⟨Og, 0, none⟩) (n2 + 1) Oc (SL ++ (stepsL s k ++ stepsT k ⟨sl, dr, js, ts⟩ (j + 1)))) := Lib.hid (by
                  rw [HEF.out, HSE.out, ← HE1.out]
                  exact ⟨HO5.out, HL3.out⟩)
                go_wp2_with fail
                go_roundw
                case rel => exact ⟨j + 1, n2 + 1, some ⟨Og, 0, none⟩, Oc, by omega, by go_num, rfl, HN5.out, HT5.out, HBF.out⟩
                case measure => simp [intOf]; omega
              | false =>
                rw [hjb, if_pos rfl] at HSE
                clear hjb
                have c3 := HT5.out.cell (i := 3) rfl
                have x0 := HN5.out.cellOf HX.out
                have x1 := HN5.out.cellOf HY.out
                go_wp2_with fail
                go_quiet (fail)
                have q6 := (New.refl O5).drewN nq
                have HN6 := Lib.hid (HN5.out.trans q6)
                have HT6 := Lib.hid (HT5.out.keep q6)
                have HA6 := Lib.hid (HA5.out.keep q6)
                have HB6 := Lib.hid (HB5.out.keep q6)
                have HO6 := Lib.hid (owns_keep HO5.out q6)
                clear c3 x0 x1 HN5 HT5 HA5 HB5 HO5 q6
                generalize O5.drewN nq = O6 at *
                have c1 := HT6.out.cell (i := 1) rfl
                have a0 := HA6.out.cell (i := 0) rfl
                have a1 := HA6.out.cell (i := 1) rfl
                have b0 := HB6.out.cell (i := 0) rfl
                have b1 := HB6.out.cell (i := 1) rfl
                have q2 := (New.refl O6).alloc (.cells #[.int .i64 k, .int .i64 j, .int .i64 k, .int .i64 ((j : Int) + 1), .int .i64 (y - x + (1 + (dr * (y - x) + 999) / 1000)), .int .i64 3, .int .i64 j] 91)
                have HQ2 := Lib.hid q2
                have HNB : Hid (((O6.alloc (.cells #[.int .i64 k, .int .i64 j, .int .i64 k, .int .i64 ((j : Int) + 1), .int .i64 (y - x + (1 + (dr * (y - x) + 999) / 1000)), .int .i64 3, .int .i64 j] 91)).heap)[O6.heap.size]? = some (.cells #[.int .i64 k, .int .i64 j, .int .i64 k, .int .i64 ((j : Int) + 1), .int .i64 (y - x + (1 + (dr * (y - x) + 999) / 1000)), .int .i64 3, .int .i64 j] 91)) := Lib.hid (by
                  have h := heap_alloc_new O6 (.cells #[.int .i64 k, .int .i64 j, .int .i64 k, .int .i64 ((j : Int) + 1), .int .i64 (y - x + (1 + (dr * (y - x) + 999) / 1000)), .int .i64 3, .int .i64 j] 91)
                  have e : O6.heap.size = O6.heap.size := by simp
                  rw [e] at h
                  exact h)
                have HQ0 := Lib.hid (owns_keep HO6.out q2)
                have HBS : Hid (W1.heap.size ≤ (O6.alloc (.cells #[.int .i64 k, .int .i64 j, .int .i64 k, .int .i64 ((j : Int) + 1), .int .i64 (y - x + (1 + (dr * (y - x) + 999) / 1000)), .int .i64 3, .int .i64 j] 91)).heap.size) := Lib.hid (HN6.out.trans q2).size
                clear q2
                go_wp2_with (at_builtin; go_loud (refine wpList_append_lies _ rfl (.tmp 139) (.tmp 147) 36 rfl W1.heap.size 91 ib (.agg #[.int .i64 0, .int .i64 0, .int .i64 0, .int .i64 0, .int .i64 0, .int .i64 0, .int .i64 0]) 7 56 under_boundsl HI.out.1 HI.out.2.1 HI.out.2.2.1 HI.out.2.2.2 rfl (by decide) (.slice (some ⟨Og, 0, none⟩) (n2 + 1) Oc) (n2 + 1) _ rfl HQ0.out ⟨O6.heap.size, 0, none⟩ 1 1 [.int .i64 k, .int .i64 j, .int .i64 k, .int .i64 ((j : Int) + 1), .int .i64 (y - x + (1 + (dr * (y - x) + 999) / 1000)), .int .i64 3, .int .i64 j] rfl rfl (World.news_of_block (cs := #[.int .i64 k, .int .i64 j, .int .i64 k, .int .i64 ((j : Int) + 1), .int .i64 (y - x + (1 + (dr * (y - x) + 999) / 1000)), .int .i64 3, .int .i64 j]) HNB.out) (by simp [Value.oneCell']) (by decide) (by unfold maxLen; omega) (by omega) HBS.out _ rfl ?_))
                intro Ug Uc U ho hg _ _
                have hNU : Hid (New W1 U) := Lib.hid (Below.trans (HN6.out.trans HQ2.out) (grown_below HQ0.out hg HBS.out))
                have hTU := Lib.hid ((HT6.out.keep HQ2.out).grown hg (owns_ne HQ0.out (HT6.out.keep HQ2.out) (by decide)))
                have hAU := Lib.hid ((HA6.out.keep HQ2.out).grown hg (owns_ne HQ0.out (HA6.out.keep HQ2.out) (by decide)))
                have hBU := Lib.hid ((HB6.out.keep HQ2.out).grown hg (owns_ne HQ0.out (HB6.out.keep HQ2.out) (by decide)))
                have hOU := Lib.hid ho
                clear ho hg HQ2 HQ0 HBS HNB
                clear c1 a0 a1 b0 b1 HN6 HT6 HA6 HB6 HO6
                have a0 := hAU.out.cell (i := 0) rfl
                have a1 := hAU.out.cell (i := 1) rfl
                have b0 := hBU.out.cell (i := 0) rfl
                have b1 := hBU.out.cell (i := 1) rfl
                have q2 := (New.refl U).alloc (.cells #[.int .i64 k, .int .i64 ((j : Int) + 1), .int .i64 k, .int .i64 j, .int .i64 (1 + (dr * (y - x) + 999) / 1000 - (y - x)), .int .i64 3, .int .i64 j] 91)
                have HQ2 := Lib.hid q2
                have HNB : Hid (((U.alloc (.cells #[.int .i64 k, .int .i64 ((j : Int) + 1), .int .i64 k, .int .i64 j, .int .i64 (1 + (dr * (y - x) + 999) / 1000 - (y - x)), .int .i64 3, .int .i64 j] 91)).heap)[U.heap.size]? = some (.cells #[.int .i64 k, .int .i64 ((j : Int) + 1), .int .i64 k, .int .i64 j, .int .i64 (1 + (dr * (y - x) + 999) / 1000 - (y - x)), .int .i64 3, .int .i64 j] 91)) := Lib.hid (by
                  have h := heap_alloc_new U (.cells #[.int .i64 k, .int .i64 ((j : Int) + 1), .int .i64 k, .int .i64 j, .int .i64 (1 + (dr * (y - x) + 999) / 1000 - (y - x)), .int .i64 3, .int .i64 j] 91)
                  have e : U.heap.size = U.heap.size := by simp
                  rw [e] at h
                  exact h)
                have HQ0 := Lib.hid (owns_keep hOU.out q2)
                have HBS : Hid (W1.heap.size ≤ (U.alloc (.cells #[.int .i64 k, .int .i64 ((j : Int) + 1), .int .i64 k, .int .i64 j, .int .i64 (1 + (dr * (y - x) + 999) / 1000 - (y - x)), .int .i64 3, .int .i64 j] 91)).heap.size) := Lib.hid (hNU.out.trans q2).size
                clear q2
                go_wp2_with (at_builtin; go_loud (refine wpList_append_lies _ rfl (.tmp 149) (.tmp 157) 36 rfl W1.heap.size 91 ib (.agg #[.int .i64 0, .int .i64 0, .int .i64 0, .int .i64 0, .int .i64 0, .int .i64 0, .int .i64 0]) 7 56 under_boundsl HI.out.1 HI.out.2.1 HI.out.2.2.1 HI.out.2.2.2 rfl (by decide) (.slice (some ⟨Ug, 0, none⟩) (n2 + 1 + 1) Uc) (n2 + 1 + 1) _ rfl HQ0.out ⟨U.heap.size, 0, none⟩ 1 1 [.int .i64 k, .int .i64 ((j : Int) + 1), .int .i64 k, .int .i64 j, .int .i64 (1 + (dr * (y - x) + 999) / 1000 - (y - x)), .int .i64 3, .int .i64 j] rfl rfl (World.news_of_block (cs := #[.int .i64 k, .int .i64 ((j : Int) + 1), .int .i64 k, .int .i64 j, .int .i64 (1 + (dr * (y - x) + 999) / 1000 - (y - x)), .int .i64 3, .int .i64 j]) HNB.out) (by simp [Value.oneCell']) (by decide) (by unfold maxLen; omega) (by omega) HBS.out _ rfl ?_))
                intro Vg Vc V ho hg _ _
                have hNV : Hid (New W1 V) := Lib.hid (Below.trans (hNU.out.trans HQ2.out) (grown_below HQ0.out hg HBS.out))
                have hTV := Lib.hid ((hTU.out.keep HQ2.out).grown hg (owns_ne HQ0.out (hTU.out.keep HQ2.out) (by decide)))
                have hOV := Lib.hid ho
                clear ho hg HQ2 HQ0 HBS HNB
                clear a0 a1 b0 b1
                have HBF : Hid (BdO V W1.heap.size (some ⟨Vg, 0, none⟩) (n2 + 1 + 1 + 1) Vc (SL ++ (stepsL s k ++ stepsT k ⟨sl, dr, js, ts⟩ (j + 1)))) := Lib.hid (by
                  have e : E ++ orderB k j :: [driftUp k ⟨sl, dr, js, ts⟩ j, driftDown k ⟨sl, dr, js, ts⟩ j] = E1 ++ [driftUp k ⟨sl, dr, js, ts⟩ j, driftDown k ⟨sl, dr, js, ts⟩ j] := by rw [HE1.out, List.append_assoc]; rfl
                  rw [HEF.out, HSE.out, e]
                  have h := hOV.out
                  refine ⟨?_, ?_⟩
                  · simp only [List.flatMap_append, List.flatMap_cons, List.flatMap_nil, List.append_nil, HUP.out, HDN.out, List.cons_append, List.nil_append] at h ⊢
                    exact h
                  · rw [List.length_append, HL3.out]
                    rfl)
                go_wp2_with fail
                go_roundw
                case rel => exact ⟨j + 1, n2 + 1 + 1 + 1, some ⟨Vg, 0, none⟩, Vc, by omega, by go_num, rfl, hNV.out, hTV.out, HBF.out⟩
                case measure => simp [intOf]; omega
            · have hje : j = ts.length - 1 := by omega
              have hd : decide ((j : Int) + 1 < (ts.length : Int)) = false := by simp; omega
              have hwj : IntKind.i64.wrap ((j : Int) + 1) = (j : Int) + 1 := IntWalk.i64_in _ (by omega)
              have HN2 := Lib.hid hn2
              have HB2 := Lib.hid hb2
              have HJE := Lib.hid hje
              clear hn2 ht2 hb2 hje
              go_wp2_with fail
              go_roundw
              case rel => exact ⟨k + 1, n2, VA2, vc2, by omega, by go_num, rfl, HN2.out, by rw [HSU.out, ← HJE.out]; exact HB2.out⟩
              case measure => simp [intOf]; omega
        · obtain rfl : k = s.tracks.length := by omega
          clear hn hbo
          go_wp2_with fail
          have HBND : Hid (bnds s = SL ++ stepsL s s.tracks.length ++ tiesL s s.ties.length) := Lib.hid (by rw [← HSLE.out]; rfl)
          have HL5 : Hid ((SL ++ stepsL s s.tracks.length).length ≤ 132000) := Lib.hid (by
            have := steps_len HOK.out s.tracks.length 0 (Nat.le_refl _)
            have := HLS.out
            rw [List.length_append] at *
            omega)
          generalize hE : SL ++ stepsL s s.tracks.length = E at *
          clear hE c0 hBl
          go_loopw [3, 15] (fun V i wr => ∃ (k n : Nat) (VA : Option Addr) (vc : Nat), k ≤ s.ties.length ∧ i = .int .i64 k ∧ V = .slice VA n vc ∧ New W1 wr ∧ BdO wr W1.heap.size VA n vc (E ++ tiesL s k)) (fun _ i _ => s.ties.length - (intOf i).toNat)
          case atStart => exact ⟨0, n, VA, vc, Nat.zero_le _, rfl, rfl, HNW.out, by simpa [tiesL] using HBO.out⟩
          case round =>
            clear HBO HNW
            obtain ⟨k, n, VA, vc, hk, rfl, rfl, hn, hbo⟩ := hrel
            have HNW := Lib.hid hn
            have c1 := (HR.out.keep hn).cell (i := 1) rfl
            have hBl : B < wr.heap.size := (HR.out.keep hn).lt
            by_cases hlt : k < s.ties.length
            · obtain ⟨b, off, hD, -, hc⟩ := HS.out.2.2 (by omega)
              subst hD
              have hcc := (hc k hlt).keep hn
              have ik : (k : Int) < (s.ties.length : Int) := by omega
              have HSU := Lib.hid (tiesL_succ s k)
              have hnl : n ≤ 140000 := by
                have h1 := hbo.len
                have h2 : (tiesL s k).length ≤ k * 2 := fm_len_bd _ 2 _ (fun i _ => by simp)
                have := HL5.out
                rw [List.length_append] at h1
                omega
              have et : s.ties[k]?.getD default = tiAt s k := rfl
              rw [et] at hcc
              have HTB : Hid (thereB s k = ⟨(tiAt s k).a, (tiAt s k).b, s.window, 4, k⟩ ∧ backB s k = ⟨(tiAt s k).b, (tiAt s k).a, s.window, 4, k⟩) := Lib.hid ⟨rfl, rfl⟩
              generalize thereB s k = tb at *
              generalize backB s k = bb at *
              clear hc et
              generalize tiAt s k = t at *
              obtain ⟨⟨al, an⟩, ⟨bl, bn⟩⟩ := t
              obtain ⟨z0, z1, z2, z3⟩ := hcc
              dsimp only at z0 z1 z2 z3
              have m2 := (New.refl wr).alloc (.cells #[.int .i64 al, .int .i64 an, .int .i64 bl, .int .i64 bn] 79)
              have HTI := Lib.hid (RowIs.new wr 79 [.int .i64 al, .int .i64 an, .int .i64 bl, .int .i64 bn])
              have HN2 := Lib.hid (hn.trans m2)
              have HO2 := Lib.hid (owns_keep hbo.own m2)
              have HL2 := Lib.hid hbo.len
              have c2 := (HR.out.keep HN2.out).cell (i := 2) rfl
              clear hn hbo m2
              have q2 := (New.refl (wr.alloc (.cells #[.int .i64 al, .int .i64 an, .int .i64 bl, .int .i64 bn] 79))).alloc (.cells #[.int .i64 al, .int .i64 an, .int .i64 bl, .int .i64 bn, .int .i64 s.window, .int .i64 4, .int .i64 k] 91)
              have HQ2 := Lib.hid q2
              have HNB : Hid ((((wr.alloc (.cells #[.int .i64 al, .int .i64 an, .int .i64 bl, .int .i64 bn] 79)).alloc (.cells #[.int .i64 al, .int .i64 an, .int .i64 bl, .int .i64 bn, .int .i64 s.window, .int .i64 4, .int .i64 k] 91)).heap)[(wr.heap.size + 1)]? = some (.cells #[.int .i64 al, .int .i64 an, .int .i64 bl, .int .i64 bn, .int .i64 s.window, .int .i64 4, .int .i64 k] 91)) := Lib.hid (by
                have h := heap_alloc_new (wr.alloc (.cells #[.int .i64 al, .int .i64 an, .int .i64 bl, .int .i64 bn] 79)) (.cells #[.int .i64 al, .int .i64 an, .int .i64 bl, .int .i64 bn, .int .i64 s.window, .int .i64 4, .int .i64 k] 91)
                have e : (wr.alloc (.cells #[.int .i64 al, .int .i64 an, .int .i64 bl, .int .i64 bn] 79)).heap.size = (wr.heap.size + 1) := by simp
                rw [e] at h
                exact h)
              have HQ0 := Lib.hid (owns_keep HO2.out q2)
              have HBS : Hid (W1.heap.size ≤ ((wr.alloc (.cells #[.int .i64 al, .int .i64 an, .int .i64 bl, .int .i64 bn] 79)).alloc (.cells #[.int .i64 al, .int .i64 an, .int .i64 bl, .int .i64 bn, .int .i64 s.window, .int .i64 4, .int .i64 k] 91)).heap.size) := Lib.hid (HN2.out.trans q2).size
              clear q2
              go_wp2_with (at_builtin; go_loud (refine wpList_append_lies _ rfl (.tmp 171) (.tmp 180) 36 rfl W1.heap.size 91 ib (.agg #[.int .i64 0, .int .i64 0, .int .i64 0, .int .i64 0, .int .i64 0, .int .i64 0, .int .i64 0]) 7 56 under_boundsl HI.out.1 HI.out.2.1 HI.out.2.2.1 HI.out.2.2.2 rfl (by decide) (.slice VA n vc) n _ rfl HQ0.out ⟨(wr.heap.size + 1), 0, none⟩ 1 1 [.int .i64 al, .int .i64 an, .int .i64 bl, .int .i64 bn, .int .i64 s.window, .int .i64 4, .int .i64 k] rfl rfl (World.news_of_block (cs := #[.int .i64 al, .int .i64 an, .int .i64 bl, .int .i64 bn, .int .i64 s.window, .int .i64 4, .int .i64 k]) HNB.out) (by simp [Value.oneCell']) (by decide) (by unfold maxLen; omega) (by omega) HBS.out _ rfl ?_))
              intro Og Oc O ho hg _ _
              have hNO : Hid (New W1 O) := Lib.hid (Below.trans (HN2.out.trans HQ2.out) (grown_below HQ0.out hg HBS.out))
              have hTO := Lib.hid ((HTI.out.keep HQ2.out).grown hg (owns_ne HQ0.out (HTI.out.keep HQ2.out) (by decide)))
              have hOO := Lib.hid ho
              clear ho hg HQ2 HQ0 HBS HNB
              clear z0 z1 z2 z3 c1 c2 HN2 HTI HO2
              generalize wr.heap.size = Bt at *
              have t0 := hTO.out.cell (i := 0) rfl
              have t1 := hTO.out.cell (i := 1) rfl
              have t2 := hTO.out.cell (i := 2) rfl
              have t3 := hTO.out.cell (i := 3) rfl
              have c2 := (HR.out.keep hNO.out).cell (i := 2) rfl
              have q2 := (New.refl O).alloc (.cells #[.int .i64 bl, .int .i64 bn, .int .i64 al, .int .i64 an, .int .i64 s.window, .int .i64 4, .int .i64 k] 91)
              have HQ2 := Lib.hid q2
              have HNB : Hid (((O.alloc (.cells #[.int .i64 bl, .int .i64 bn, .int .i64 al, .int .i64 an, .int .i64 s.window, .int .i64 4, .int .i64 k] 91)).heap)[O.heap.size]? = some (.cells #[.int .i64 bl, .int .i64 bn, .int .i64 al, .int .i64 an, .int .i64 s.window, .int .i64 4, .int .i64 k] 91)) := Lib.hid (by
                have h := heap_alloc_new O (.cells #[.int .i64 bl, .int .i64 bn, .int .i64 al, .int .i64 an, .int .i64 s.window, .int .i64 4, .int .i64 k] 91)
                have e : O.heap.size = O.heap.size := by simp
                rw [e] at h
                exact h)
              have HQ0 := Lib.hid (owns_keep hOO.out q2)
              have HBS : Hid (W1.heap.size ≤ (O.alloc (.cells #[.int .i64 bl, .int .i64 bn, .int .i64 al, .int .i64 an, .int .i64 s.window, .int .i64 4, .int .i64 k] 91)).heap.size) := Lib.hid (hNO.out.trans q2).size
              clear q2
              go_wp2_with (at_builtin; go_loud (refine wpList_append_lies _ rfl (.tmp 182) (.tmp 191) 36 rfl W1.heap.size 91 ib (.agg #[.int .i64 0, .int .i64 0, .int .i64 0, .int .i64 0, .int .i64 0, .int .i64 0, .int .i64 0]) 7 56 under_boundsl HI.out.1 HI.out.2.1 HI.out.2.2.1 HI.out.2.2.2 rfl (by decide) (.slice (some ⟨Og, 0, none⟩) (n + 1) Oc) (n + 1) _ rfl HQ0.out ⟨O.heap.size, 0, none⟩ 1 1 [.int .i64 bl, .int .i64 bn, .int .i64 al, .int .i64 an, .int .i64 s.window, .int .i64 4, .int .i64 k] rfl rfl (World.news_of_block (cs := #[.int .i64 bl, .int .i64 bn, .int .i64 al, .int .i64 an, .int .i64 s.window, .int .i64 4, .int .i64 k]) HNB.out) (by simp [Value.oneCell']) (by decide) (by unfold maxLen; omega) (by omega) HBS.out _ rfl ?_))
              intro Ug Uc U ho hg _ _
              have hNU : Hid (New W1 U) := Lib.hid (Below.trans (hNO.out.trans HQ2.out) (grown_below HQ0.out hg HBS.out))
              have hOU := Lib.hid ho
              clear ho hg HQ2 HQ0 HBS HNB
              clear t0 t1 t2 t3 c2
              have HBF : Hid (BdO U W1.heap.size (some ⟨Ug, 0, none⟩) (n + 1 + 1) Uc (E ++ tiesL s (k + 1))) := Lib.hid (by
                have h := hOU.out
                obtain ⟨e1, e2⟩ := HTB.out
                rw [HSU.out, e1, e2, ← List.append_assoc]
                refine ⟨?_, ?_⟩
                · simp only [List.flatMap_append, List.flatMap_cons, List.flatMap_nil, List.append_nil, bdCs, List.append_assoc, List.cons_append, List.nil_append] at h ⊢
                  exact h
                · rw [List.length_append, HL2.out]
                  rfl)
              go_wp2_with fail
              go_roundw
              case rel => exact ⟨k + 1, n + 1 + 1, some ⟨Ug, 0, none⟩, Uc, by omega, by go_num, rfl, hNU.out, HBF.out⟩
              case measure => simp [intOf]; omega
            · obtain rfl : k = s.ties.length := by omega
              rw [← HBND.out] at hbo
              have HBO := Lib.hid hbo
              clear hn hbo
              go_wp2_with fail
              go_ret
              have hl := HBO.out.len
              have ho := HBO.out.own
              rw [hl]
              exact ⟨_, rfl, owns_base ho (by rw [hB]; exact Nat.le_of_lt hB1), HN.out.trans HNW.out⟩
end Go.Proofs.YtodmbcoobjcooaaDoor
