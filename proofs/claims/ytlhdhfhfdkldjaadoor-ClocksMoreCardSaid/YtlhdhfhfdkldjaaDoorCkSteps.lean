/-
  steps, ties of the program, and the iterator 'bounds': their bounds, handed to a loop's body. Condition: the system lies in memory and is valid.
-/
import Derived.Test.YtlhdhfhfdkldjaaDoorCkSlips
namespace Go.Proofs.YtlhdhfhfdkldjaaDoor
open Go Go.RowKit Go.Shelf
attribute [local go_sem] Oper.semAt_some
variable {n0 : Nat} {wf : World → Prop} {Safe : World → Nat → Prop}
set_option maxRecDepth 100000 in
set_option maxHeartbeats 4000000 in
theorem ck_steps (hS : Sft n0 wf Safe) (s : Sy) (hs : Ok s) (l : Nat) (J Jx : List (BdOf s) → World → Prop) (hY : RoundsB n0 wf Safe s l J Jx) (hJ : AbB J) (A D : Option Addr) (c m d : Nat) (win : Int) (pre : List (BdOf s)) (W w0 : World)
    (hn0 : w0.heap.size = n0) (hB : Below n0 w0 W) (hw : wf W) (hA : TksA w0 A s.tracks) (h0 : J pre W) (hlen : pre.length + (stepsL s s.tracks.length).length ≤ (bnds s).length) (n : Nat) :
    CallsIn Fence.wide n Tryd.prog 115 #[.agg #[.slice A s.tracks.length c, .slice D m d, .int .i64 win], .func (.yield l) #[] #[]] W
      (HelpPost n0 wf Safe s J Jx pre (stepsL s s.tracks.length) W) := by
  have HST : Hid (∀ (k j : Nat) JA TA jc tc pre' W', k < s.tracks.length → j + 1 < (tkAt s k).times.length → Below n0 w0 W' → wf W' → TkM w0 JA TA (tkAt s k) → J pre' W' → pre'.length + (stepL k (tkAt s k) j).length ≤ (bnds s).length → ∀ n', CallsIn Fence.wide n' Tryd.prog 126 #[.agg #[.int .i64 (tkAt s k).slip, .int .i64 (tkAt s k).drift, .slice JA (tkAt s k).jumps.length jc, .slice TA (tkAt s k).times.length tc], .agg #[.int .i64 k, .int .i64 j], .func (.yield l) #[] #[]] W'
      (HelpPost n0 wf Safe s J Jx pre' (stepL k (tkAt s k) j) W')) := Lib.hid (fun k j JA TA jc tc pre' W' hk hj hb hw' hm h0' hl n' => by
    have hf := trackB_facts (hs.track hk)
    have h1 := hf.1 j (by omega)
    have h2 := hf.1 (j + 1) hj
    exact ck_step hS s l k j J Jx hY hJ JA TA jc tc hk hj pre' W' w0 hn0 hb hw' hm h0' hl n' h1.1 (h1.2.2 hj) h2.2.1 hf.2.2.2.1 hf.2.2.2.2.1 (by omega))
  have HJ := Lib.hid hJ
  have HB := Lib.hid hB
  have HA := Lib.hid hA
  have hm := hA.1
  have h64 := (checkE_ok hs).1
  have hnW : n0 ≤ W.heap.size := by have := hB.size; omega
  have HL := Lib.hid hlen
  have k1 := (New.refl W).alloc (.cells #[.slice A s.tracks.length c, .slice D m d, .int .i64 win] 25)
  have R0 := SRow.new hS W hw hnW 25 [.slice A s.tracks.length c, .slice D m d, .int .i64 win]
  have E1 := Lib.hid (Ev.new (wf := wf) hS hnW k1)
  have j1 := HJ.out _ _ _ h0 k1
  have w1 := (E1.out.2 hw).1
  have c0 := R0.cell (i := 0) rfl
  have hdd : ∀ k : Nat, (Fence.wide.depth.isSome = true → 1 ≤ k) := fun k h => by cases h
  clear hY hJ hB hA hlen h0 hw R0
  have hT1 : Fence.wide.fn 126 := trivial
  refine callsIn_of_wp Tryd.func115 rfl trivial ?_ rfl
  simp only [Tryd.ntmps115, List.size_toArray, List.length_cons, List.length_nil, Nat.reduceAdd, Nat.reduceSub, Array.replicate_succ, Array.replicate_zero, List.push_toArray, List.append_toArray, List.nil_append, List.cons_append]
  gi_wp2_with fail
  clear c0 k1
  generalize hW0 : W.alloc (.cells #[.slice A s.tracks.length c, .slice D m d, .int .i64 win] 25) = W1 at *
  have HN1 : Hid (n0 ≤ W1.heap.size) := Lib.hid (Nat.le_trans hnW E1.out.size)
  clear hW0
  gi_loopw [11] (fun i wr => ∃ (k : Nat) (q : List (BdOf s)), k ≤ s.tracks.length ∧ i = .int .i64 k ∧ Hid (q.map (·.1) = stepsL s k) ∧ J (pre ++ q) wr ∧ Ev n0 wf Safe W1 wr) (fun i _ => s.tracks.length - (intOf i).toNat)
  case atStart => exact ⟨0, [], Nat.zero_le _, rfl, Lib.hid rfl, by simpa using j1, Ev.refl _⟩
  case round =>
    obtain ⟨k, q, hk, rfl, HQ, hj, hv⟩ := hrel
    obtain ⟨Wo, hWo⟩ : ∃ x, x = wr := ⟨wr, rfl⟩
    subst hWo
    have HJ2 := Lib.hid hj
    have HV := Lib.hid hv
    clear hj hv
    by_cases hlt : k < s.tracks.length
    · have HBw := Lib.hid (HB.out.trans (E1.out.trans HV.out).1)
      obtain ⟨b, off, rfl, -, hc⟩ := HA.out.2 (by omega)
      obtain ⟨JA, jc, TA, tc, z0, z1, z2, z3, hj, ht⟩ := hc k hlt
      replace z0 := cell_below z0 HBw.out hn0
      replace z1 := cell_below z1 HBw.out hn0
      replace z2 := cell_below z2 HBw.out hn0
      replace z3 := cell_below z3 HBw.out hn0
      have s3 := (trackB_facts (hs.track hlt)).2.2.2.2.2.1
      have HQS := Lib.hid (stepsL_succ s k)
      have HLE : Hid ((stepsL s (k + 1)).length ≤ (stepsL s s.tracks.length).length) := Lib.hid (fm_len_le _ (by omega))
      have HTL : Hid (∀ j, j ≤ (tkAt s k).times.length - 1 → (stepsT k (tkAt s k) j).length ≤ (stepsT k (tkAt s k) ((tkAt s k).times.length - 1)).length) := Lib.hid (fun j hj => fm_len_le _ hj)
      have HST2 := Lib.hid (HST.out k)
      have et : s.tracks[k]?.getD default = tkAt s k := rfl
      rw [et] at z0 z1 z2 z3 ht hj
      have HT : Hid (TkM w0 JA TA (tkAt s k)) := Lib.hid ⟨hj, ht⟩
      clear hc hj ht et
      generalize tkAt s k = t at *
      have w2 := (HV.out.2 w1).1
      have HN2 : Hid (n0 ≤ Wo.heap.size) := Lib.hid (Nat.le_trans HN1.out HV.out.size)
      have k2 := (New.refl Wo).alloc (.cells #[.int .i64 t.slip, .int .i64 t.drift, .slice JA t.jumps.length jc, .slice TA t.times.length tc] 30)
      have R2 := SRow.new hS Wo w2 HN2.out 30 [.int .i64 t.slip, .int .i64 t.drift, .slice JA t.jumps.length jc, .slice TA t.times.length tc]
      have E2 := Lib.hid (Ev.new (wf := wf) hS HN2.out k2)
      have j2 := HJ.out _ _ _ HJ2.out k2
      have w3 := (E2.out.2 w2).1
      have HR2 := Lib.hid R2
      have c3 := R2.cell (i := 3) rfl
      clear R2
      gi_wp2_with fail
      clear c3 z0 z1 z2 z3 k2
      generalize hW2 : Wo.alloc (.cells #[.int .i64 t.slip, .int .i64 t.drift, .slice JA t.jumps.length jc, .slice TA t.times.length tc] 30) = W2 at *
      have HN3 : Hid (n0 ≤ W2.heap.size) := Lib.hid (Nat.le_trans HN2.out E2.out.size)
      clear hW2
      gi_loopw [20] (fun i wr => ∃ (j : Nat) (q2 : List (BdOf s)), j ≤ t.times.length - 1 ∧ i = .int .i64 j ∧ Hid (q2.map (·.1) = stepsL s k ++ stepsT k t j) ∧ J (pre ++ q2) wr ∧ Ev n0 wf Safe W2 wr) (fun i _ => t.times.length - (intOf i).toNat)
      case atStart => exact ⟨0, q, Nat.zero_le _, rfl, Lib.hid (by rw [HQ.out]; simp [stepsT]), j2, Ev.refl _⟩
      case round =>
        obtain ⟨j, q2, hj, rfl, HQ2, hj2, hv2⟩ := hrel
        have HJ3 := Lib.hid hj2
        have HV2 := Lib.hid hv2
        clear hj2 hv2 j2
        by_cases hlt2 : j < t.times.length - 1
        · have hlt3 : j + 1 < t.times.length := by omega
          have hlt4 : (j : Int) < (t.times.length : Int) - 1 := by omega
          have HB3 := Lib.hid (HB.out.trans (E1.out.trans (HV.out.trans (E2.out.trans HV2.out))).1)
          have HQ4 := Lib.hid (stepsT_succ k t j)
          have HLL : Hid ((pre ++ q2).length + (stepL k t j).length ≤ (bnds s).length) := Lib.hid (by
            have a1 := congrArg List.length HQ2.out
            have a2 := congrArg List.length HQ4.out
            have a3 := HTL.out (j + 1) (by omega)
            have a4 := congrArg List.length HQS.out
            have a5 := HLE.out
            have a6 := HL.out
            simp only [List.length_map, List.length_append] at a1 a2 a4 ⊢
            omega)
          have w5 := (HV2.out.2 w3).1
          have HN5 : Hid (n0 ≤ wr.heap.size) := Lib.hid (Nat.le_trans HN3.out HV2.out.size)
          have R2 := HR2.out.keep w3 HV2.out
          have c0 := R2.cell (i := 0) rfl
          have c1 := R2.cell (i := 1) rfl
          have c2 := R2.cell (i := 2) rfl
          have c3 := R2.cell (i := 3) rfl
          have HC := Lib.hid (fun n' => HST2.out j JA TA jc tc (pre ++ q2) wr hlt hlt3 HB3.out w5 HT.out HJ3.out HLL.out n')
          clear R2
          gi_wp2_with ((try refine ⟨hdd _, ?_⟩); gi_at_call 126; refine (HC.out _).mono ?_; rintro e W6 (⟨rfl, q6, hq6, j6, v6⟩ | ⟨rfl, q6, x6⟩))
          · have E8 := Lib.hid (HV2.out.trans v6)
            have HJ8 := Lib.hid j6
            have HQ6 := Lib.hid hq6
            clear v6 j6 hq6 c0 c1 c2 c3
            gi_wp2_with fail
            go_roundw
            case rel => exact ⟨j + 1, q2 ++ q6, by omega, by go_num, Lib.hid (by rw [HQ4.out, List.map_append, HQ2.out, HQ6.out]; simp), by simpa [List.append_assoc] using HJ8.out, E8.out⟩
            case measure => simp [intOf]; omega
          · gi_wp2_with fail
            go_ret
            exact .inr ⟨rfl, _, x6⟩
        · obtain rfl : j = t.times.length - 1 := by omega
          have HQ3 : Hid (q2.map (·.1) = stepsL s (k + 1)) := Lib.hid (by rw [HQS.out]; exact HQ2.out)
          have hge : ¬ (((t.times.length - 1 : Nat) : Int) < (t.times.length : Int) - 1) := by omega
          clear HT
          gi_wp2_with fail
          go_roundw
          case rel => exact ⟨k + 1, q2, by omega, by go_num, HQ3, HJ3.out, HV.out.trans (E2.out.trans HV2.out)⟩
          case measure => simp [intOf]; omega
    · obtain rfl : k = s.tracks.length := by omega
      clear HA
      gi_wp2_with fail
      go_ret
      exact .inl ⟨rfl, q, HQ.out, HJ2.out, E1.out.trans HV.out⟩
end Go.Proofs.YtlhdhfhfdkldjaaDoor
