/-
  ties of the program, and the iterator 'bounds': all bounds of a system, in order, handed to a loop's body. Condition: the system lies in memory and is valid.
-/
import Derived.Test.YtlhdhfhfdkldjaaDoorCkSteps
namespace Go.Proofs.YtlhdhfhfdkldjaaDoor
open Go Go.RowKit Go.Shelf
attribute [local go_sem] Oper.semAt_some
variable {n0 : Nat} {wf : World → Prop} {Safe : World → Nat → Prop}
/-- The same, of what has no result. -/
def HelpEnd (n0 : Nat) (wf : World → Prop) (Safe : World → Nat → Prop) (s : Sy) (J Jx : List (BdOf s) → World → Prop) (pre : List (BdOf s)) (l : List Bd) (W : World) (e : Ending) (W' : World) : Prop :=
  (∃ v, e = .returned v) ∧ ((∃ q : List (BdOf s), q.map (·.1) = l ∧ J (pre ++ q) W' ∧ Ev n0 wf Safe W W') ∨ (∃ q, Jx q W'))
set_option maxRecDepth 100000 in
set_option maxHeartbeats 4000000 in
theorem ck_ties (hS : Sft n0 wf Safe) (s : Sy) (hs : Ok s) (l : Nat) (J Jx : List (BdOf s) → World → Prop) (hY : RoundsB n0 wf Safe s l J Jx) (hJ : AbB J) (A D : Option Addr) (c m d : Nat) (pre : List (BdOf s)) (W w0 : World)
    (hn0 : w0.heap.size = n0) (hB : Below n0 w0 W) (hw : wf W) (hA : TisA w0 D s.ties) (h0 : J pre W) (hlen : pre.length + (tiesL s s.ties.length).length ≤ (bnds s).length) (n : Nat) :
    CallsIn Fence.wide n Tryd.prog 116 #[.agg #[.slice A m c, .slice D s.ties.length d, .int .i64 s.window], .func (.yield l) #[] #[]] W
      (HelpEnd n0 wf Safe s J Jx pre (tiesL s s.ties.length) W) := by
  have HY := Lib.hid hY
  have HJ := Lib.hid hJ
  have HB := Lib.hid hB
  have HA := Lib.hid hA
  have hm := hA.1
  have h64 := (checkE_ok hs).2.1
  have hnW : n0 ≤ W.heap.size := by have := hB.size; omega
  have HL := Lib.hid hlen
  have k1 := (New.refl W).alloc (.cells #[.slice A m c, .slice D s.ties.length d, .int .i64 s.window] 25)
  have R0 := SRow.new hS W hw hnW 25 [.slice A m c, .slice D s.ties.length d, .int .i64 s.window]
  have E1 := Lib.hid (Ev.new (wf := wf) hS hnW k1)
  have j1 := HJ.out _ _ _ h0 k1
  have w1 := (E1.out.2 hw).1
  have HR0 := Lib.hid R0
  have c1 := R0.cell (i := 1) rfl
  have hdd : ∀ k : Nat, (Fence.wide.depth.isSome = true → 1 ≤ k) := fun k h => by cases h
  have HMT : Hid (∀ k, k < s.ties.length → thereB s k ∈ bnds s ∧ backB s k ∈ bnds s) := Lib.hid (fun k hk => ⟨mem_tie hk (.inl rfl), mem_tie hk (.inr rfl)⟩)
  have HXU : Hid (∀ k, thereB s k = ⟨(tiAt s k).a, (tiAt s k).b, s.window, 4, k⟩) := Lib.hid (fun _ => rfl)
  have HXD : Hid (∀ k, backB s k = ⟨(tiAt s k).b, (tiAt s k).a, s.window, 4, k⟩) := Lib.hid (fun _ => rfl)
  clear hY hJ hB hA hlen h0 hw R0
  generalize s.window = win at *
  refine callsIn_of_wp Tryd.func116 rfl trivial ?_ rfl
  simp only [Tryd.ntmps116, List.size_toArray, List.length_cons, List.length_nil, Nat.reduceAdd, Nat.reduceSub, Array.replicate_succ, Array.replicate_zero, List.push_toArray, List.append_toArray, List.nil_append, List.cons_append]
  gi_wp2
  clear c1 k1
  generalize hW0 : W.alloc (.cells #[.slice A m c, .slice D s.ties.length d, .int .i64 win] 25) = W1 at *
  have HN1 : Hid (n0 ≤ W1.heap.size) := Lib.hid (Nat.le_trans hnW E1.out.size)
  clear hW0
  gi_loopw [11] (fun i wr => ∃ (k : Nat) (q : List (BdOf s)), k ≤ s.ties.length ∧ i = .int .i64 k ∧ Hid (q.map (·.1) = tiesL s k) ∧ J (pre ++ q) wr ∧ Ev n0 wf Safe W1 wr) (fun i _ => s.ties.length - (intOf i).toNat)
  case atStart => exact ⟨0, [], Nat.zero_le _, rfl, Lib.hid rfl, by simpa using j1, Ev.refl _⟩
  case round =>
    obtain ⟨k, q, hk, rfl, HQ, hj, hv⟩ := hrel
    have HJ2 := Lib.hid hj
    have HV := Lib.hid hv
    clear hj hv
    by_cases hlt : k < s.ties.length
    · have HBw := Lib.hid (HB.out.trans (E1.out.trans HV.out).1)
      obtain ⟨b, off, rfl, -, hc⟩ := HA.out.2 (by omega)
      obtain ⟨z0, z1, z2, z3⟩ := hc k hlt
      replace z0 := cell_below z0 HBw.out hn0
      replace z1 := cell_below z1 HBw.out hn0
      replace z2 := cell_below z2 HBw.out hn0
      replace z3 := cell_below z3 HBw.out hn0
      have HMU := Lib.hid (HMT.out k hlt).1
      have HMD := Lib.hid (HMT.out k hlt).2
      have HQS := Lib.hid (tiesL_succ s k)
      have HLL : Hid ((pre ++ q).length + 2 ≤ (bnds s).length) := Lib.hid (by
        have a1 := congrArg List.length HQ.out
        have a2 := congrArg List.length HQS.out
        have a3 : (tiesL s (k + 1)).length ≤ (tiesL s s.ties.length).length := fm_len_le _ (by omega)
        have a6 := HL.out
        simp only [List.length_map, List.length_append, List.length_cons, List.length_nil] at a1 a2 ⊢
        omega)
      have hxu := HXU.out k
      have hxd := HXD.out k
      have et : s.ties[k]?.getD default = tiAt s k := rfl
      rw [et] at z0 z1 z2 z3
      clear hc et
      generalize thereB s k = bu at *
      generalize backB s k = bdn at *
      generalize tiAt s k = t at *
      obtain ⟨⟨al, ai⟩, ⟨bl, bi⟩⟩ := t
      dsimp only at z0 z1 z2 z3 hxu hxd
      have HXU1 := Lib.hid hxu
      have HXD1 := Lib.hid hxd
      have w5 := (HV.out.2 w1).1
      have HN5 : Hid (n0 ≤ wr.heap.size) := Lib.hid (Nat.le_trans HN1.out HV.out.size)
      have R2 := HR0.out.keep w1 HV.out
      have HC : Hid (∀ w', New wr w' → w'.cell? ⟨W.heap.size, 2, none⟩ = some (.int .i64 win)) := Lib.hid (fun w' h => (R2.2.keep h).cell rfl)
      have n1 := (New.refl wr).alloc (.cells #[.int .i64 al, .int .i64 ai, .int .i64 bl, .int .i64 bi] 79)
      have n2 := n1.alloc (.cells #[.int .i64 al, .int .i64 ai, .int .i64 bl, .int .i64 bi, .int .i64 win, .int .i64 4, .int .i64 k] 91)
      have n3 := n2.alloc (.cells #[.int .i64 bl, .int .i64 bi, .int .i64 al, .int .i64 ai, .int .i64 win, .int .i64 4, .int .i64 k] 91)
      have r1 := RowIs.new wr 79 [.int .i64 al, .int .i64 ai, .int .i64 bl, .int .i64 bi]
      have r2 := RowIs.new (wr.alloc (.cells #[.int .i64 al, .int .i64 ai, .int .i64 bl, .int .i64 bi] 79)) 91 [.int .i64 al, .int .i64 ai, .int .i64 bl, .int .i64 bi, .int .i64 win, .int .i64 4, .int .i64 k]
      have ww2 := (hS.new _ _ n2 w5).1
      have ww3 := (hS.new _ _ n3 w5).1
      have R3 := SRow.new hS _ ww2 (by have := HN5.out; simp; omega) 91 [.int .i64 bl, .int .i64 bi, .int .i64 al, .int .i64 ai, .int .i64 win, .int .i64 4, .int .i64 k]
      have r1a := r1.keep ((New.refl _).alloc (.cells #[.int .i64 al, .int .i64 ai, .int .i64 bl, .int .i64 bi, .int .i64 win, .int .i64 4, .int .i64 k] 91))
      have r2a := r2.keep ((New.refl _).alloc (.cells #[.int .i64 bl, .int .i64 bi, .int .i64 al, .int .i64 ai, .int .i64 win, .int .i64 4, .int .i64 k] 91))
      simp only [World.size_alloc] at r2a R3
      have x2 := HC.out _ n1
      have y2 := HC.out _ n2
      have a0 := r1.cell (i := 0) rfl
      have a1 := r1.cell (i := 1) rfl
      have a2 := r1.cell (i := 2) rfl
      have a3 := r1.cell (i := 3) rfl
      have b0 := r1a.cell (i := 0) rfl
      have b1 := r1a.cell (i := 1) rfl
      have b2 := r1a.cell (i := 2) rfl
      have b3 := r1a.cell (i := 3) rfl
      have u0 := r2a.cell (i := 0) rfl
      have u1 := r2a.cell (i := 1) rfl
      have u2 := r2a.cell (i := 2) rfl
      have u3 := r2a.cell (i := 3) rfl
      have u4 := r2a.cell (i := 4) rfl
      have u5 := r2a.cell (i := 5) rfl
      have u6 := r2a.cell (i := 6) rfl
      have E5 := Lib.hid (Ev.new (wf := wf) hS HN5.out n3)
      have j5 := HJ.out _ _ _ HJ2.out n3
      have hl5 : (pre ++ q).length < (bnds s).length := by have := HLL.out; omega
      obtain ⟨fn, tmps, assign, body, hy, hR⟩ := HY.out (n - 1) _ ⟨_, HMU.out⟩ _ j5 hl5
      simp only [bdV, HXU1.out] at hy
      have HHR := Lib.hid hR
      have HR3 := Lib.hid R3
      clear hR R3 n1 n2 n3 r1 r2 r1a r2a ww2 R2 j5 hl5 hxu hxd
      gi_wp2
      try refine ⟨hdd _, ?_⟩
      refine (RoundIn.anyDepth rfl HHR.out).mono ?_
      rintro e W7 (⟨rfl, j7, v7⟩ | ⟨rfl, x7⟩)
      rotate_left
      · gi_wp2
        refine ⟨fun _ h => (by cases h), ?_⟩
        gi_wp2
        first | go_end0 | refine bodyPost_ret (results_none rfl _ _ _) rfl ?_
        exact ⟨⟨_, rfl⟩, .inr ⟨_, x7⟩⟩
      have R4 := HR3.out.keep ww3 v7
      have w7 := (v7.2 ww3).1
      have E7 := Lib.hid (E5.out.trans v7)
      clear x2 y2 a0 a1 a2 a3 b0 b1 b2 b3 u0 u1 u2 u3 u4 u5 u6 hy HHR HR3 ww3 v7 E5
      have u0 := R4.cell (i := 0) rfl
      have u1 := R4.cell (i := 1) rfl
      have u2 := R4.cell (i := 2) rfl
      have u3 := R4.cell (i := 3) rfl
      have u4 := R4.cell (i := 4) rfl
      have u5 := R4.cell (i := 5) rfl
      have u6 := R4.cell (i := 6) rfl
      have hl7 : (pre ++ q ++ [(⟨_, HMU.out⟩ : BdOf s)]).length < (bnds s).length := by have := HLL.out; simp at this ⊢; omega
      obtain ⟨fn, tmps, assign, body, hy, hR⟩ := HY.out (n - 1) _ ⟨_, HMD.out⟩ _ j7 hl7
      simp only [bdV, HXD1.out] at hy
      have HHR := Lib.hid hR
      clear hR R4 hl7 j7
      gi_wp2
      try refine ⟨hdd _, ?_⟩
      refine (RoundIn.anyDepth rfl HHR.out).mono ?_
      rintro e W8 (⟨rfl, j8, v8⟩ | ⟨rfl, x8⟩)
      rotate_left
      · gi_wp2
        first | go_end0 | refine bodyPost_ret (results_none rfl _ _ _) rfl ?_
        exact ⟨⟨_, rfl⟩, .inr ⟨_, x8⟩⟩
      have E8 := Lib.hid (HV.out.trans (E7.out.trans v8))
      have HJ8 := Lib.hid j8
      clear u0 u1 u2 u3 u4 u5 u6 hy HHR v8 j8
      gi_wp2
      go_roundw
      case rel => exact ⟨k + 1, q ++ [⟨_, HMU.out⟩] ++ [⟨_, HMD.out⟩], by omega, by go_num, Lib.hid (by rw [HQS.out, List.map_append, List.map_append, HQ.out]; simp), by simpa [List.append_assoc] using HJ8.out, E8.out⟩
      case measure => simp [intOf]; omega
    · obtain rfl : k = s.ties.length := by omega
      clear HA
      gi_wp2
      first | go_end0 | refine bodyPost_ret (results_none rfl _ _ _) rfl ?_
      exact ⟨⟨_, rfl⟩, .inl ⟨q, HQ.out, HJ2.out, E1.out.trans HV.out⟩⟩
theorem bnds_split (s : Sy) : bnds s = slipsL s s.tracks.length ++ stepsL s s.tracks.length ++ tiesL s s.ties.length := rfl
set_option maxRecDepth 100000 in
set_option maxHeartbeats 2000000 in
theorem ck_bounds1 (hS : Sft n0 wf Safe) (s : Sy) (hs : Ok s) (l : Nat) (J Jx : List (BdOf s) → World → Prop) (hY : RoundsB n0 wf Safe s l J Jx) (hJ : AbB J) (A D : Option Addr) (c d Bs : Nat) (W w0 : World)
    (hn0 : w0.heap.size = n0) (hB : Below n0 w0 W) (hw : wf W) (hM : SysM w0 A D s) (hbeg : BegA w0) (h0 : J [] W) (hR : SRow Safe W Bs 25 [.slice A s.tracks.length c, .slice D s.ties.length d, .int .i64 s.window]) (n : Nat) :
    CallsIn Fence.wide n Tryd.prog 113 #[.func (.yield l) #[] #[], .pointer (some ⟨Bs, 0, none⟩)] W fun e W' => (∃ v, e = .returned v) ∧
      ((∃ ys : List (BdOf s), ys.map (·.1) = bnds s ∧ J ys W') ∨ (∃ q : List (BdOf s), True ∧ Jx q W')) := by
  have hlb : (bnds s).length = (slipsL s s.tracks.length).length + (stepsL s s.tracks.length).length + (tiesL s s.ties.length).length := by rw [bnds_split]; simp; omega
  have H1 := Lib.hid (fun n' => ck_slips hS s hs l J Jx hY hJ A D c s.ties.length d s.window [] W w0 hn0 hB hw hM.1 hbeg h0 (by rw [hlb]; simp; omega) n')
  have H2 : Hid (∀ n' W' q, Ev n0 wf Safe W W' → q.map (·.1) = slipsL s s.tracks.length → J q W' → _) := Lib.hid (fun n' W' q hv hq hj => ck_steps hS s hs l J Jx hY hJ A D c s.ties.length d s.window q W' w0 hn0 (hB.trans hv.1) (hv.2 hw).1 hM.1 hj (by have := congrArg List.length hq; rw [List.length_map] at this; rw [hlb]; omega) n')
  have H3 : Hid (∀ n' W' q, Ev n0 wf Safe W W' → q.map (·.1) = slipsL s s.tracks.length ++ stepsL s s.tracks.length → J q W' → _) := Lib.hid (fun n' W' q hv hq hj => ck_ties hS s hs l J Jx hY hJ A D c s.tracks.length d q W' w0 hn0 (hB.trans hv.1) (hv.2 hw).1 hM.2 hj (by have := congrArg List.length hq; rw [List.length_map, List.length_append] at this; rw [hlb]; omega) n')
  have HRR : Hid (∀ W', Ev n0 wf Safe W W' → SRow Safe W' Bs 25 [.slice A s.tracks.length c, .slice D s.ties.length d, .int .i64 s.window]) := Lib.hid (fun W' hv => hR.keep hw hv)
  have hdd : ∀ k : Nat, (Fence.wide.depth.isSome = true → 1 ≤ k) := fun k h => by cases h
  have hT1 : Fence.wide.fn 114 := trivial
  have hT2 : Fence.wide.fn 115 := trivial
  have hT3 : Fence.wide.fn 116 := trivial
  have c0 := hR.cell (i := 0) rfl
  have c1 := hR.cell (i := 1) rfl
  have c2 := hR.cell (i := 2) rfl
  clear hY hJ hB hM hbeg h0 hR hlb
  refine callsIn_of_wp Tryd.func113 rfl trivial ?_ rfl
  simp only [Tryd.ntmps113, List.size_toArray, List.length_cons, List.length_nil, Nat.reduceAdd, Nat.reduceSub, Array.replicate_succ, Array.replicate_zero, List.push_toArray, List.append_toArray, List.nil_append, List.cons_append]
  gi_wp2_with fail
  try refine ⟨hdd _, ?_⟩
  refine (H1.out _).mono ?_
  rintro e W1 (⟨rfl, q1, hq1, j1, v1⟩ | ⟨rfl, q1, x1⟩)
  rotate_left
  · gi_wp2_with fail
    try refine ⟨fun _ h => (by cases h), ?_⟩
    gi_wp2_with fail
    first | go_end0 | refine bodyPost_ret (results_none rfl _ _ _) rfl ?_
    exact ⟨⟨_, rfl⟩, .inr ⟨_, trivial, x1⟩⟩
  have V1 := Lib.hid v1
  have Q1 := Lib.hid hq1
  have J1 := Lib.hid j1
  have R1 := HRR.out _ v1
  clear c0 c1 c2 v1 hq1 j1
  have c0 := R1.cell (i := 0) rfl
  have c1 := R1.cell (i := 1) rfl
  have c2 := R1.cell (i := 2) rfl
  clear R1
  gi_wp2_with fail
  try refine ⟨hdd _, ?_⟩
  refine (H2.out _ W1 q1 V1.out Q1.out J1.out).mono ?_
  rintro e W2 (⟨rfl, q2, hq2, j2, v2⟩ | ⟨rfl, q2, x2⟩)
  rotate_left
  · gi_wp2_with fail
    first | go_end0 | refine bodyPost_ret (results_none rfl _ _ _) rfl ?_
    exact ⟨⟨_, rfl⟩, .inr ⟨_, trivial, x2⟩⟩
  have V2 := Lib.hid (V1.out.trans v2)
  have Q2 : Hid ((q1 ++ q2).map (·.1) = slipsL s s.tracks.length ++ stepsL s s.tracks.length) := Lib.hid (by rw [List.map_append, Q1.out, hq2])
  have J2 := Lib.hid j2
  have R1 := HRR.out _ V2.out
  clear c0 c1 c2 v2 hq2 j2
  have c0 := R1.cell (i := 0) rfl
  have c1 := R1.cell (i := 1) rfl
  have c2 := R1.cell (i := 2) rfl
  clear R1
  gi_wp2_with fail
  try refine ⟨hdd _, ?_⟩
  refine (H3.out _ W2 (q1 ++ q2) V2.out Q2.out J2.out).mono ?_
  rintro e W3 ⟨⟨v, rfl⟩, (⟨q3, hq3, j3, v3⟩ | ⟨q3, x3⟩)⟩
  · gi_wp2_with fail
    first | go_end0 | refine bodyPost_ret (results_none rfl _ _ _) rfl ?_
    exact ⟨⟨_, rfl⟩, .inl ⟨_, by rw [List.map_append, Q2.out, hq3, bnds_split], j3⟩⟩
  · gi_wp2_with fail
    first | go_end0 | refine bodyPost_ret (results_none rfl _ _ _) rfl ?_
    exact ⟨⟨_, rfl⟩, .inr ⟨_, trivial, x3⟩⟩
/-- bounds(s): the system is boxed; the function value captures the box. -/
theorem ck_bounds (v0 v1 v2 : Value) (n : Nat) (w : World) :
    CallsIn Fence.wide n Tryd.prog 69 #[.agg #[v0, v1, v2]] w fun e w' => e = .returned (.func (.func 113) #[] #[.pointer (some ⟨w.heap.size, 0, none⟩)]) ∧ w' = w.alloc (.cells #[v0, v1, v2] 25) := by
  refine callsIn_of_wp Tryd.func69 rfl trivial ?_ rfl
  simp only [Tryd.ntmps69, List.size_toArray, List.length_cons, List.length_nil, Nat.reduceAdd, Nat.reduceSub, Array.replicate_succ, Array.replicate_zero, List.push_toArray, List.append_toArray, List.nil_append, List.cons_append]
  gi_wp2
  go_ret
  exact ⟨rfl, rfl⟩
/-- **The iterator: all bounds, in order.** -/
theorem bounds_stops (hS : Sft n0 wf Safe) (s : Sy) (hs : Ok s) (A D : Option Addr) (c d Bs : Nat) (w w0 : World) (hn0 : w0.heap.size = n0) (hB : Below n0 w0 w) (hw : wf w) (hM : SysM w0 A D s) (hbeg : BegA w0)
    (hR : SRow Safe w Bs 25 [.slice A s.tracks.length c, .slice D s.ties.length d, .int .i64 s.window]) (n : Nat) :
    SeqStopsK Fence.wide n Tryd.prog 113 #[.pointer (some ⟨Bs, 0, none⟩)] (fun x : BdOf s => #[bdV x.1]) (Ev n0 wf Safe) (fun ys => ys.map (·.1) = bnds s) (fun _ => True) (bnds s).length w := fun l J Jx W hW hJ _ hY h0 => by
  have hk : New w W := hW
  have hnw : n0 ≤ w.heap.size := by have := hB.size; omega
  have hv := Ev.new hS hnw hk
  exact ck_bounds1 hS s hs l J Jx (fun m pre x W1 hj hl => YieldAt.anyDepth rfl m (hY pre x W1 hj hl)) (fun pre W1 W2 hj hn => hJ pre W1 W2 none hj (grown_of hn none) (fun r e => by cases e)) A D c d Bs W w0 hn0 (hB.trans hv.1) (hv.2 hw).1 hM hbeg h0 (hR.keep hw hv) n
end Go.Proofs.YtlhdhfhfdkldjaaDoor
