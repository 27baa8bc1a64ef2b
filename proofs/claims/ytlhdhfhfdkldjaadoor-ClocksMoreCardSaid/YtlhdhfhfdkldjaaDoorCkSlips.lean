/-
  slips, steps, ties of the program: their bounds, handed to a loop's body. Condition: the system lies in memory and is valid.
-/
import Derived.Test.YtlhdhfhfdkldjaaDoorCkStep
import Derived.Test.YtlhdhfhfdkldjaaDoorCkFacts
namespace Go.Proofs.YtlhdhfhfdkldjaaDoor
open Go Go.RowKit Go.Shelf
attribute [local go_sem] Oper.semAt_some
variable {n0 : Nat} {wf : World → Prop} {Safe : World → Nat → Prop}
/-- The ref of the beginning in memory. -/
def BegA (w : World) : Prop := w.cell? ⟨0, 0, none⟩ = some (.int .i64 (-1)) ∧ w.cell? ⟨0, 1, none⟩ = some (.int .i64 0)
theorem BegA.below {w w' : World} (h : BegA w) (k : Below n0 w w') (hn : w.heap.size = n0) : BegA w' := by
  have l := lt_of_cell h.1
  exact ⟨(k.cell (p := ⟨_, 0, none⟩) (by show 0 < _; omega)).trans h.1, (k.cell (p := ⟨_, 1, none⟩) (by show 0 < _; omega)).trans h.2⟩
theorem IntsA.below {w w' : World} {A : Option Addr} {l : List Int} (h : IntsA w A l) (k : Below n0 w w') (hn : w.heap.size = n0) : IntsA w' A l := by subst hn; exact h.keep k
theorem TksA.below {w w' : World} {A : Option Addr} {l : List Tk} (h : TksA w A l) (k : Below n0 w w') (hn : w.heap.size = n0) : TksA w' A l := by subst hn; exact h.keep k
theorem TisA.below {w w' : World} {A : Option Addr} {l : List Ti} (h : TisA w A l) (k : Below n0 w w') (hn : w.heap.size = n0) : TisA w' A l := by subst hn; exact h.keep k
theorem cell_below {w w' : World} {b i : Nat} {v : Value} (h : w.cell? ⟨b, i, none⟩ = some v) (k : Below n0 w w') (hn : w.heap.size = n0) : w'.cell? ⟨b, i, none⟩ = some v := by subst hn; exact New.cellOf k h
theorem upB_def (i j : Nat) (t : Tk) : upB i t j = ⟨⟨-1, 0⟩, ⟨i, j⟩, tmAt t j + t.slip, 1, j⟩ := rfl
theorem downB_def (i j : Nat) (t : Tk) : downB i t j = ⟨⟨i, j⟩, ⟨-1, 0⟩, t.slip - tmAt t j, 1, j⟩ := rfl
set_option maxRecDepth 100000 in
set_option maxHeartbeats 4000000 in
theorem ck_slips (hS : Sft n0 wf Safe) (s : Sy) (hs : Ok s) (l : Nat) (J Jx : List (BdOf s) → World → Prop) (hY : RoundsB n0 wf Safe s l J Jx) (hJ : AbB J) (A D : Option Addr) (c m d : Nat) (win : Int) (pre : List (BdOf s)) (W w0 : World)
    (hn0 : w0.heap.size = n0) (hB : Below n0 w0 W) (hw : wf W) (hA : TksA w0 A s.tracks) (hbeg : BegA w0) (h0 : J pre W) (hlen : pre.length + (slipsL s s.tracks.length).length ≤ (bnds s).length) (n : Nat) :
    CallsIn Fence.wide n Tryd.prog 114 #[.agg #[.slice A s.tracks.length c, .slice D m d, .int .i64 win], .func (.yield l) #[] #[]] W
      (HelpPost n0 wf Safe s J Jx pre (slipsL s s.tracks.length) W) := by
  have HY := Lib.hid hY
  have HJ := Lib.hid hJ
  have HB := Lib.hid hB
  have HA := Lib.hid hA
  have hm := hA.1
  have h64 := (checkE_ok hs).1
  have hnW : n0 ≤ W.heap.size := by have := hB.size; omega
  have HBG := Lib.hid hbeg
  have HL := Lib.hid hlen
  have k1 := (New.refl W).alloc (.cells #[.slice A s.tracks.length c, .slice D m d, .int .i64 win] 25)
  have R0 := SRow.new hS W hw hnW 25 [.slice A s.tracks.length c, .slice D m d, .int .i64 win]
  have E1 := Lib.hid (Ev.new (wf := wf) hS hnW k1)
  have j1 := HJ.out _ _ _ h0 k1
  have w1 := (E1.out.2 hw).1
  have HR0 := Lib.hid R0
  have c0 := R0.cell (i := 0) rfl
  have hdd : ∀ k : Nat, (Fence.wide.depth.isSome = true → 1 ≤ k) := fun k h => by cases h
  clear hY hJ hB hA hbeg hlen h0 hw R0
  refine callsIn_of_wp Tryd.func114 rfl trivial ?_ rfl
  simp only [Tryd.ntmps114, List.size_toArray, List.length_cons, List.length_nil, Nat.reduceAdd, Nat.reduceSub, Array.replicate_succ, Array.replicate_zero, List.push_toArray, List.append_toArray, List.nil_append, List.cons_append]
  gi_wp2
  clear c0 k1
  generalize hW0 : W.alloc (.cells #[.slice A s.tracks.length c, .slice D m d, .int .i64 win] 25) = W1 at *
  have HN1 : Hid (n0 ≤ W1.heap.size) := Lib.hid (Nat.le_trans hnW E1.out.size)
  clear hW0
  gi_loopw [15] (fun i wr => ∃ (k : Nat) (q : List (BdOf s)), k ≤ s.tracks.length ∧ i = .int .i64 k ∧ Hid (q.map (·.1) = slipsL s k) ∧ J (pre ++ q) wr ∧ Ev n0 wf Safe W1 wr) (fun i _ => s.tracks.length - (intOf i).toNat)
  case atStart => exact ⟨0, [], Nat.zero_le _, rfl, Lib.hid rfl, by simpa using j1, Ev.refl _⟩
  case round =>
    obtain ⟨k, q, hk, rfl, HQ, hj, hv⟩ := hrel
    obtain ⟨Wo, hWo⟩ : ∃ x, x = wr := ⟨wr, rfl⟩
    subst hWo
    have HJ2 := Lib.hid hj
    have HV := Lib.hid hv
    clear hj hv
    by_cases hlt : k < s.tracks.length
    · have HBw := Lib.hid (HB.out.trans (E1.out.trans HV.out).1)
      obtain ⟨b, off, rfl, -, hc⟩ := HA.out.2 (by omega)
      obtain ⟨JA, jc, TA, tc, z0, z1, z2, z3, hj, ht⟩ := hc k hlt
      replace z0 := cell_below z0 HBw.out hn0
      replace z1 := cell_below z1 HBw.out hn0
      replace z2 := cell_below z2 HBw.out hn0
      replace z3 := cell_below z3 HBw.out hn0
      have hf := trackB_facts (hs.track hlt)
      have HF := Lib.hid hf.1
      have s1 := hf.2.1
      have s2 := hf.2.2.1
      have s3 := hf.2.2.2.2.2.1
      have HM : Hid (∀ j b, j < (tkAt s k).times.length → b = upB k (tkAt s k) j ∨ b = downB k (tkAt s k) j → b ∈ bnds s) := Lib.hid (fun j b hj hb => mem_slip hlt hj hb)
      have HQS := Lib.hid (slipsL_succ s k)
      have HLE : Hid ((slipsL s (k + 1)).length ≤ (slipsL s s.tracks.length).length) := Lib.hid (fm_len_le _ (by omega))
      have HTL : Hid (∀ j, j ≤ (tkAt s k).times.length → (slipsT k (tkAt s k) j).length ≤ (slipsT k (tkAt s k) (tkAt s k).times.length).length) := Lib.hid (fun j hj => fm_len_le _ hj)
      have et : s.tracks[k]?.getD default = tkAt s k := rfl
      rw [et] at z0 z1 z2 z3 ht
      have HT := Lib.hid ht
      clear hc hj ht hf et
      generalize tkAt s k = t at *
      have w2 := (HV.out.2 w1).1
      have HN2 : Hid (n0 ≤ Wo.heap.size) := Lib.hid (Nat.le_trans HN1.out HV.out.size)
      have k2 := (New.refl Wo).alloc (.cells #[.int .i64 t.slip, .int .i64 t.drift, .slice JA t.jumps.length jc, .slice TA t.times.length tc] 30)
      have R2 := SRow.new hS Wo w2 HN2.out 30 [.int .i64 t.slip, .int .i64 t.drift, .slice JA t.jumps.length jc, .slice TA t.times.length tc]
      have E2 := Lib.hid (Ev.new (wf := wf) hS HN2.out k2)
      have j2 := HJ.out _ _ _ HJ2.out k2
      have w3 := (E2.out.2 w2).1
      have HR2 := Lib.hid R2
      have c3 := R2.cell (i := 3) rfl
      clear R2
      gi_wp2
      clear c3 z0 z1 z2 z3 k2
      generalize hW2 : Wo.alloc (.cells #[.int .i64 t.slip, .int .i64 t.drift, .slice JA t.jumps.length jc, .slice TA t.times.length tc] 30) = W2 at *
      have HN3 : Hid (n0 ≤ W2.heap.size) := Lib.hid (Nat.le_trans HN2.out E2.out.size)
      clear hW2
      gi_loopw [23] (fun i wr => ∃ (j : Nat) (q2 : List (BdOf s)), j ≤ t.times.length ∧ i = .int .i64 j ∧ Hid (q2.map (·.1) = slipsL s k ++ slipsT k t j) ∧ J (pre ++ q2) wr ∧ Ev n0 wf Safe W2 wr) (fun i _ => t.times.length - (intOf i).toNat)
      case atStart => exact ⟨0, q, Nat.zero_le _, rfl, Lib.hid (by rw [HQ.out]; simp [slipsT]), j2, Ev.refl _⟩
      case round =>
        obtain ⟨j, q2, hj, rfl, HQ2, hj2, hv2⟩ := hrel
        have HJ3 := Lib.hid hj2
        have HV2 := Lib.hid hv2
        clear hj2 hv2 j2
        by_cases hlt2 : j < t.times.length
        · have HB3 := Lib.hid (HB.out.trans (E1.out.trans (HV.out.trans (E2.out.trans HV2.out))).1)
          obtain ⟨tb, toff, rfl, -, htc⟩ := (HT.out).2 (by omega)
          have e0 := htc j hlt2
          have g0 : t.times[j]?.getD 0 = tmAt t j := rfl
          rw [g0] at e0
          replace e0 := cell_below e0 HB3.out hn0
          have HMM := HM.out j
          have hb := HF.out j hlt2
          have HMU := Lib.hid (HMM (upB k t j) hlt2 (.inl rfl))
          have HMD := Lib.hid (HMM (downB k t j) hlt2 (.inr rfl))
          have HXU : Hid (upB k t j = ⟨⟨-1, 0⟩, ⟨k, j⟩, tmAt t j + t.slip, 1, j⟩) := Lib.hid rfl
          have HXD : Hid (downB k t j = ⟨⟨k, j⟩, ⟨-1, 0⟩, t.slip - tmAt t j, 1, j⟩) := Lib.hid rfl
          have HQ4 := Lib.hid (slipsT_succ k t j)
          have HLL : Hid (pre.length + q2.length + 2 ≤ (bnds s).length) := Lib.hid (by
            have a1 := congrArg List.length HQ2.out
            have a2 := congrArg List.length HQ4.out
            have a3 := HTL.out (j + 1) (by omega)
            have a4 := congrArg List.length HQS.out
            have a5 := HLE.out
            have a6 := HL.out
            simp only [List.length_map, List.length_append, List.length_cons, List.length_nil] at a1 a2 a4
            omega)
          generalize upB k t j = bu at *
          generalize downB k t j = bdn at *
          generalize tmAt t j = tm at *
          clear htc g0 HMM
          obtain ⟨tsl, tdr, tjs, tts⟩ := t
          dsimp only at s1 s2 s3 HXU HXD HR2 hlt2
          have w5 := (HV2.out.2 w3).1
          have HN5 : Hid (n0 ≤ wr.heap.size) := Lib.hid (Nat.le_trans HN3.out HV2.out.size)
          have R2 := HR2.out.keep w3 HV2.out
          have bg := HBG.out.below HB3.out hn0
          have HC : Hid (∀ w', New wr w' → w'.cell? ⟨0, 0, none⟩ = some (.int .i64 (-1)) ∧ w'.cell? ⟨0, 1, none⟩ = some (.int .i64 0) ∧ w'.cell? ⟨Wo.heap.size, 0, none⟩ = some (.int .i64 tsl)) := Lib.hid (fun w' h => ⟨h.cellOf bg.1, h.cellOf bg.2, (R2.2.keep h).cell rfl⟩)
          have n1 := (New.refl wr).alloc (.cells #[.int .i64 k, .int .i64 j] 53)
          have n2 := n1.alloc (.cells #[.int .i64 (-1), .int .i64 0, .int .i64 k, .int .i64 j, .int .i64 (tm + tsl), .int .i64 1, .int .i64 j] 91)
          have n3 := n2.alloc (.cells #[.int .i64 k, .int .i64 j, .int .i64 (-1), .int .i64 0, .int .i64 (tsl - tm), .int .i64 1, .int .i64 j] 91)
          have r1 := RowIs.new wr 53 [.int .i64 k, .int .i64 j]
          have r2 := RowIs.new (wr.alloc (.cells #[.int .i64 k, .int .i64 j] 53)) 91 [.int .i64 (-1), .int .i64 0, .int .i64 k, .int .i64 j, .int .i64 (tm + tsl), .int .i64 1, .int .i64 j]
          have ww1 := (hS.new _ _ n1 w5).1
          have ww2 := (hS.new _ _ n2 w5).1
          have ww3 := (hS.new _ _ n3 w5).1
          have R3 := SRow.new hS _ ww2 (by have := HN5.out; simp; omega) 91 [.int .i64 k, .int .i64 j, .int .i64 (-1), .int .i64 0, .int .i64 (tsl - tm), .int .i64 1, .int .i64 j]
          have r1a := r1.keep ((New.refl _).alloc (.cells #[.int .i64 (-1), .int .i64 0, .int .i64 k, .int .i64 j, .int .i64 (tm + tsl), .int .i64 1, .int .i64 j] 91))
          have r2a := r2.keep ((New.refl _).alloc (.cells #[.int .i64 k, .int .i64 j, .int .i64 (-1), .int .i64 0, .int .i64 (tsl - tm), .int .i64 1, .int .i64 j] 91))
          simp only [World.size_alloc] at r2a R3
          obtain ⟨x0, x1, x2⟩ := HC.out _ n1
          obtain ⟨y0, y1, y2⟩ := HC.out _ n2
          have a0 := r1.cell (i := 0) rfl
          have a1 := r1.cell (i := 1) rfl
          have b0 := r1a.cell (i := 0) rfl
          have b1 := r1a.cell (i := 1) rfl
          have u0 := r2a.cell (i := 0) rfl
          have u1 := r2a.cell (i := 1) rfl
          have u2 := r2a.cell (i := 2) rfl
          have u3 := r2a.cell (i := 3) rfl
          have u4 := r2a.cell (i := 4) rfl
          have u5 := r2a.cell (i := 5) rfl
          have u6 := r2a.cell (i := 6) rfl
          have E5 := Lib.hid (Ev.new (wf := wf) hS HN5.out n3)
          have j5 := HJ.out _ _ _ HJ3.out n3
          have hl5 : (pre ++ q2).length < (bnds s).length := by have := HLL.out; simp; omega
          obtain ⟨fn, tmps, assign, body, hy, hR⟩ := HY.out (n - 1) _ ⟨_, HMU.out⟩ _ j5 hl5
          simp only [bdV, HXU.out] at hy
          have HHR := Lib.hid hR
          have HR3 := Lib.hid R3
          clear hR R3 n1 n2 n3 r1 r2 r1a r2a ww1 ww2 bg R2 j5 hl5
          gi_wp2
          try refine ⟨hdd _, ?_⟩
          refine (RoundIn.anyDepth rfl HHR.out).mono ?_
          rintro e W7 (⟨rfl, j7, v7⟩ | ⟨rfl, x7⟩)
          rotate_left
          · gi_wp2
            refine ⟨fun _ h => (by cases h), ?_⟩
            gi_wp2
            go_ret
            exact .inr ⟨rfl, _, x7⟩
          have R4 := HR3.out.keep ww3 v7
          have w7 := (v7.2 ww3).1
          have E7 := Lib.hid (E5.out.trans v7)
          clear x0 x1 x2 y0 y1 y2 a0 a1 b0 b1 u0 u1 u2 u3 u4 u5 u6 hy HHR HR3 ww3 v7 E5
          have u0 := R4.cell (i := 0) rfl
          have u1 := R4.cell (i := 1) rfl
          have u2 := R4.cell (i := 2) rfl
          have u3 := R4.cell (i := 3) rfl
          have u4 := R4.cell (i := 4) rfl
          have u5 := R4.cell (i := 5) rfl
          have u6 := R4.cell (i := 6) rfl
          have hl7 : (pre ++ q2 ++ [(⟨_, HMU.out⟩ : BdOf s)]).length < (bnds s).length := by have := HLL.out; simp; omega
          obtain ⟨fn, tmps, assign, body, hy, hR⟩ := HY.out (n - 1) _ ⟨_, HMD.out⟩ _ j7 hl7
          simp only [bdV, HXD.out] at hy
          have HHR := Lib.hid hR
          clear hR R4 hl7 j7
          gi_wp2
          try refine ⟨hdd _, ?_⟩
          refine (RoundIn.anyDepth rfl HHR.out).mono ?_
          rintro e W8 (⟨rfl, j8, v8⟩ | ⟨rfl, x8⟩)
          rotate_left
          · gi_wp2
            go_ret
            exact .inr ⟨rfl, _, x8⟩
          have E8 := Lib.hid (HV2.out.trans (E7.out.trans v8))
          have HJ8 := Lib.hid j8
          clear u0 u1 u2 u3 u4 u5 u6 hy HHR v8 j8
          gi_wp2
          go_roundw
          case rel => exact ⟨j + 1, q2 ++ [⟨_, HMU.out⟩] ++ [⟨_, HMD.out⟩], by omega, by go_num, Lib.hid (by rw [HQ4.out, List.map_append, List.map_append, HQ2.out]; simp), by simpa [List.append_assoc] using HJ8.out, E8.out⟩
          case measure => simp [intOf]; omega
        · obtain rfl : j = t.times.length := by omega
          have HQ3 : Hid (q2.map (·.1) = slipsL s (k + 1)) := Lib.hid (by rw [HQS.out]; exact HQ2.out)
          clear HT
          gi_wp2
          go_roundw
          case rel => exact ⟨k + 1, q2, by omega, by go_num, HQ3, HJ3.out, HV.out.trans (E2.out.trans HV2.out)⟩
          case measure => simp [intOf]; omega
    · obtain rfl : k = s.tracks.length := by omega
      clear HA
      gi_wp2
      go_ret
      exact .inl ⟨rfl, q, HQ.out, HJ2.out, E1.out.trans HV.out⟩
end Go.Proofs.YtlhdhfhfdkldjaaDoor
