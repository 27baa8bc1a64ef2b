/-
  step of the program: the bounds between a line and the next one, handed to a loop's body. Condition: the track lies in memory and is valid.
-/
import Derived.Test.YtlhdhfhfdkldjaaDoorCkSafe
namespace Go.Proofs.YtlhdhfhfdkldjaaDoor
open Go Go.RowKit Go.Shelf
attribute [local go_sem] Oper.semAt_some
variable {n0 : Nat} {wf : World → Prop} {Safe : World → Nat → Prop}
/-- What a helper of the iterator leaves: all of its bounds have come, or the loop has been left. -/
def HelpPost (n0 : Nat) (wf : World → Prop) (Safe : World → Nat → Prop) (s : Sy) (J Jx : List (BdOf s) → World → Prop) (pre : List (BdOf s)) (l : List Bd) (W : World) (e : Ending) (W' : World) : Prop :=
  (e = .returned (.bool true) ∧ ∃ q : List (BdOf s), q.map (·.1) = l ∧ J (pre ++ q) W' ∧ Ev n0 wf Safe W W') ∨ (e = .returned (.bool false) ∧ ∃ q, Jx q W')
theorem BdOf.one {s : Sy} {b : Bd} (h : b ∈ bnds s) : ([⟨b, h⟩] : List (BdOf s)).map (·.1) = [b] := rfl
set_option maxRecDepth 100000 in
set_option maxHeartbeats 2000000 in
theorem ck_step (hS : Sft n0 wf Safe) (s : Sy) (l i j : Nat) (J Jx : List (BdOf s) → World → Prop) (hY : RoundsB n0 wf Safe s l J Jx) (hJ : AbB J) (JA TA : Option Addr) (jc tc : Nat) (hi : i < s.tracks.length) (hj : j + 1 < (tkAt s i).times.length) (pre : List (BdOf s)) (W w0 : World)
    (hn0 : w0.heap.size = n0) (hB : Below n0 w0 W) (hw : wf W) (hm : TkM w0 JA TA (tkAt s i)) (h0 : J pre W) (hlen : pre.length + (stepL i (tkAt s i) j).length ≤ (bnds s).length) (n : Nat)
    (ha : 0 ≤ tmAt (tkAt s i) j) (hb : tmAt (tkAt s i) j ≤ tmAt (tkAt s i) (j + 1)) (hc : tmAt (tkAt s i) (j + 1) ≤ 20000) (hd : 0 ≤ (tkAt s i).drift) (hd2 : (tkAt s i).drift ≤ 100) (hj2 : j ≤ 1000000) :
    CallsIn Fence.wide n Tryd.prog 126 #[.agg #[.int .i64 (tkAt s i).slip, .int .i64 (tkAt s i).drift, .slice JA (tkAt s i).jumps.length jc, .slice TA (tkAt s i).times.length tc], .agg #[.int .i64 i, .int .i64 j], .func (.yield l) #[] #[]] W
      (HelpPost n0 wf Safe s J Jx pre (stepL i (tkAt s i) j) W) := by
  have HO : orderB i j ∈ bnds s := mem_step (s := s) (i := i) (j := j) hi (by omega) (by unfold stepL; simp)
  have HU : segN (tkAt s i).jumps (tmAt (tkAt s i) j) = segN (tkAt s i).jumps (tmAt (tkAt s i) (j + 1)) → driftUp i (tkAt s i) j ∈ bnds s ∧ driftDown i (tkAt s i) j ∈ bnds s := fun h =>
    ⟨mem_step (s := s) (i := i) (j := j) hi (by omega) (by unfold stepL; rw [if_pos h]; simp), mem_step (s := s) (i := i) (j := j) hi (by omega) (by unfold stepL; rw [if_pos h]; simp)⟩
  have HL : Hid (stepL i (tkAt s i) j = orderB i j :: if segN (tkAt s i).jumps (tmAt (tkAt s i) j) = segN (tkAt s i).jumps (tmAt (tkAt s i) (j + 1)) then [driftUp i (tkAt s i) j, driftDown i (tkAt s i) j] else []) := Lib.hid rfl
  have HDU : Hid (driftUp i (tkAt s i) j = ⟨⟨i, j⟩, ⟨i, (j : Int) + 1⟩, (tmAt (tkAt s i) (j + 1) - tmAt (tkAt s i) j) + (1 + ((tkAt s i).drift * (tmAt (tkAt s i) (j + 1) - tmAt (tkAt s i) j) + 999) / 1000), 3, j⟩) := Lib.hid rfl
  have HDD : Hid (driftDown i (tkAt s i) j = ⟨⟨i, (j : Int) + 1⟩, ⟨i, j⟩, (1 + ((tkAt s i).drift * (tmAt (tkAt s i) (j + 1) - tmAt (tkAt s i) j) + 999) / 1000) - (tmAt (tkAt s i) (j + 1) - tmAt (tkAt s i) j), 3, j⟩) := Lib.hid rfl
  generalize stepL i (tkAt s i) j = LL at *
  generalize driftUp i (tkAt s i) j = bu at *
  generalize driftDown i (tkAt s i) j = bd at *
  have hTA : IntsA w0 TA (tkAt s i).times := hm.2
  have hJA : IntsA w0 JA (tkAt s i).jumps := hm.1
  obtain ⟨tb, toff, rfl, htb, htc⟩ := hTA.2 (by omega)
  have e0 := htc j (by omega)
  have e1 := htc (j + 1) (by omega)
  have g0 : (tkAt s i).times[j]?.getD 0 = tmAt (tkAt s i) j := rfl
  have g1 : (tkAt s i).times[j + 1]?.getD 0 = tmAt (tkAt s i) (j + 1) := rfl
  rw [g0] at e0
  rw [g1] at e1
  have HY := Lib.hid hY
  have HJ := Lib.hid hJ
  have HB := Lib.hid hB
  have HU2 := Lib.hid HU
  have HJA := Lib.hid hJA
  clear hTA hJA hm htc g0 g1 hY hJ hB HU
  generalize tmAt (tkAt s i) j = t0 at *
  generalize tmAt (tkAt s i) (j + 1) = t1 at *
  generalize (tkAt s i).slip = sl at *
  generalize (tkAt s i).drift = f at *
  have HSG : Hid (∀ W', Below n0 w0 W' → ∀ m, Calls Tryd.prog 66 #[.agg #[.int .i64 sl, .int .i64 f, .slice JA (tkAt s i).jumps.length jc], .int .i64 m] W' fun e w' => e = .returned (.int .i64 (segN (tkAt s i).jumps m)) ∧ New W' w') := Lib.hid (fun W' hb m => by
    refine ck_segment sl f m JA jc (tkAt s i).jumps W' ?_
    refine ⟨HJA.out.1, fun h0 => ?_⟩
    obtain ⟨b, off, e, hb', hc⟩ := HJA.out.2 h0
    exact ⟨b, off, e, Nat.lt_of_lt_of_le hb' (by have := hb.size; omega), fun q hq => (hb.cell (p := ⟨b, off + q, none⟩) (by show b < _; omega)).trans (hc q hq)⟩)
  have hjl : j + 1 < (tkAt s i).times.length := hj
  generalize (tkAt s i).jumps.length = jn at *
  generalize segN (tkAt s i).jumps = sg at *
  generalize (tkAt s i).times.length = tn at *
  clear HJA
  have hnW : n0 ≤ W.heap.size := by have := HB.out.size; omega
  have k1 : New W (((W.alloc (.cells #[.int .i64 sl, .int .i64 f, .slice JA jn jc, .slice (some ⟨tb, toff, none⟩) tn tc] 30)).alloc (.cells #[.int .i64 i, .int .i64 j] 53)).alloc (.cells #[.int .i64 i, .int .i64 ((j : Int) + 1)] 53)) := (((New.refl W).alloc _).alloc _).alloc _
  have R0 := SRow.new hS W hw hnW 30 [.int .i64 sl, .int .i64 f, .slice JA jn jc, .slice (some ⟨tb, toff, none⟩) tn tc]
  have w1 := (hS.new _ _ ((New.refl W).alloc (.cells #[.int .i64 sl, .int .i64 f, .slice JA jn jc, .slice (some ⟨tb, toff, none⟩) tn tc] 30)) hw).1
  have R1 := SRow.new hS _ w1 (by simp; omega) 53 [.int .i64 i, .int .i64 j]
  have w2 := (hS.new _ _ ((New.refl _).alloc (.cells #[.int .i64 i, .int .i64 j] 53)) w1).1
  have R2 := SRow.new hS _ w2 (by simp; omega) 53 [.int .i64 i, .int .i64 ((j : Int) + 1)]
  have w3 := (hS.new _ _ ((New.refl _).alloc (.cells #[.int .i64 i, .int .i64 ((j : Int) + 1)] 53)) w2).1
  have R1' := R1.keep w2 (Ev.new hS (by simp; omega) ((New.refl _).alloc (.cells #[.int .i64 i, .int .i64 ((j : Int) + 1)] 53)))
  have R0' := R0.keep w1 (Ev.new hS (by simp; omega) (((New.refl _).alloc (.cells #[.int .i64 i, .int .i64 j] 53)).alloc (.cells #[.int .i64 i, .int .i64 ((j : Int) + 1)] 53)))
  simp only [World.size_alloc] at R1' R2
  have E1 := Lib.hid (Ev.new (wf := wf) hS hnW k1)
  have j1 := HJ.out _ _ _ h0 k1
  clear R0 R1 w1 w2
  have hlen0 : pre.length < (bnds s).length := by rw [HL.out] at hlen; simp at hlen; omega
  obtain ⟨fn, tmps, assign, body, hy, hR⟩ := HY.out (n - 1) pre ⟨_, HO⟩ _ j1 hlen0
  simp only [bdV, orderB] at hy
  have c0 := R0'.cell (i := 0) rfl
  have c1 := R0'.cell (i := 1) rfl
  have c2 := R0'.cell (i := 2) rfl
  have c3 := R0'.cell (i := 3) rfl
  have d0 := R1'.cell (i := 0) rfl
  have d1 := R1'.cell (i := 1) rfl
  have f0 := R2.cell (i := 0) rfl
  have f1 := R2.cell (i := 1) rfl
  have HR0 := Lib.hid R0'
  have HR1 := Lib.hid R1'
  have HR2 := Lib.hid R2
  have HHR := Lib.hid hR
  clear R0' R1' R2 hR
  refine callsIn_of_wp Tryd.func126 rfl trivial ?_ rfl
  simp only [Tryd.ntmps126, List.size_toArray, List.length_cons, List.length_nil, Nat.reduceAdd, Nat.reduceSub, Array.replicate_succ, Array.replicate_zero, List.push_toArray, List.append_toArray, List.nil_append, List.cons_append]
  have hdd : ∀ k : Nat, (Fence.wide.depth.isSome = true → 1 ≤ k) := fun k h => by cases h
  gi_wp2
  try refine ⟨hdd _, ?_⟩
  refine (RoundIn.anyDepth rfl HHR.out).mono ?_
  rintro e W4 (⟨rfl, j4, v4⟩ | ⟨rfl, x4⟩)
  rotate_left
  · gi_wp2
    go_ret
    exact .inr ⟨rfl, _, x4⟩
  have H4 := Lib.hid j4
  have w4 := (v4.2 w3).1
  have Q0 := Lib.hid (HR0.out.keep w3 v4)
  have Q1 := Lib.hid (HR1.out.keep w3 v4)
  have Q2 := Lib.hid (HR2.out.keep w3 v4)
  have E4 := Lib.hid (E1.out.trans v4)
  have B4 := Lib.hid (HB.out.trans E4.out.1)
  clear c0 c1 c2 c3 d0 d1 f0 f1 hy HHR HR0 HR1 HR2 j1 j4 v4 w3 E1
  have c0 := Q0.out.cell (i := 0) rfl
  have c1 := Q0.out.cell (i := 1) rfl
  have c2 := Q0.out.cell (i := 2) rfl
  have c3 := Q0.out.cell (i := 3) rfl
  have d1 := Q1.out.cell (i := 1) rfl
  have f1 := Q2.out.cell (i := 1) rfl
  have p0 := (B4.out.cell (p := ⟨tb, toff + j, none⟩) (by show tb < _; omega)).trans e0
  have p1 := (B4.out.cell (p := ⟨tb, toff + (j + 1), none⟩) (by show tb < _; omega)).trans e1
  have q1 : (j : Int) < (tn : Int) := by omega
  have q2 : (0 : Int) ≤ (j : Int) := by omega
  have q3 : (j : Int) + 1 < (tn : Int) := by omega
  have q4 : (0 : Int) ≤ (j : Int) + 1 := by omega
  have q5 : ((j : Int) + 1).toNat = j + 1 := by omega
  gi_wp2
  refine wpIn_wide.2 ?_
  go_quiet (fail)
  rename_i nq
  have hX : New W4 (W4.drewN nq) := (New.refl W4).drewN nq
  have j5 := HJ.out _ _ _ H4.out hX
  have v5 := Ev.new (wf := wf) hS (by have := B4.out.size; omega) hX
  have w5 := (v5.2 w4).1
  have E5 := Lib.hid (E4.out.trans v5)
  have B5 := Lib.hid (HB.out.trans E5.out.1)
  replace Q0 := Lib.hid (Q0.out.keep w4 v5)
  replace Q1 := Lib.hid (Q1.out.keep w4 v5)
  replace Q2 := Lib.hid (Q2.out.keep w4 v5)
  replace H4 := Lib.hid j5
  clear c0 c1 c2 c3 d1 f1 p0 p1 hX j5 v5 w4 E4 B4 q1 q2 q3 q4 q5
  generalize W4.drewN nq = X at *
  have c0 := Q0.out.cell (i := 0) rfl
  have c1 := Q0.out.cell (i := 1) rfl
  have c2 := Q0.out.cell (i := 2) rfl
  have HK : Hid (∀ w', New X w' → New X w' ∧ w'.cell? ⟨W.heap.size, 0, none⟩ = some (.int .i64 sl) ∧ w'.cell? ⟨W.heap.size, 1, none⟩ = some (.int .i64 f) ∧ w'.cell? ⟨W.heap.size, 2, none⟩ = some (.slice JA jn jc)) :=
    Lib.hid (fun w' h => ⟨h, (Q0.out.2.keep h).cell rfl, (Q0.out.2.keep h).cell rfl, (Q0.out.2.keep h).cell rfl⟩)
  have HSG2 : Hid (∀ w' m, New X w' → Calls Tryd.prog 66 #[.agg #[.int .i64 sl, .int .i64 f, .slice JA jn jc], .int .i64 m] w' fun e w'' => e = .returned (.int .i64 (sg m)) ∧ New w' w'') :=
    Lib.hid (fun w' m h => HSG.out w' (B5.out.trans (Below.mono h (by have := B5.out.size; omega))) m)
  gi_wp2
  refine wpIn_wide.2 ?_
  go_region_held3 (fun w' => New X w' ∧ w'.cell? ⟨W.heap.size, 0, none⟩ = some (.int .i64 sl) ∧ w'.cell? ⟨W.heap.size, 1, none⟩ = some (.int .i64 f) ∧ w'.cell? ⟨W.heap.size, 2, none⟩ = some (.slice JA jn jc))
    (first | exact HK.out _ (New.refl _).drew | exact HK.out _ (New.trans (by first | assumption | exact (by assumption : New _ _ ∧ _).1) (by assumption)))
    ((go_at_call 66; refine (HSG2.out _ _ (by first | assumption | exact (New.refl _).drew | exact (by assumption : New _ _ ∧ _).1)).mono ?_; rintro e w' ⟨rfl, hb⟩))
  have hn6 : New X w' := (by assumption : New X w' ∧ _).1
  have v6 := Ev.new (wf := wf) hS (by have := B5.out.size; omega) hn6
  have j6 := HJ.out _ _ _ H4.out hn6
  have w6 := (v6.2 w5).1
  have E6 := Lib.hid (E5.out.trans v6)
  replace Q0 := Lib.hid (Q0.out.keep w5 v6)
  replace Q1 := Lib.hid (Q1.out.keep w5 v6)
  replace Q2 := Lib.hid (Q2.out.keep w5 v6)
  clear c0 c1 c2 HK HSG2 hn6 v6 w5 B5 E5 H4
  by_cases hs : sg t0 = sg t1
  · rw [if_pos hs] at HL
    obtain ⟨HU3, HD3⟩ := HU2.out hs
    obtain ⟨x1, hx1⟩ : ∃ x : BdOf s, x = ⟨_, HO⟩ := ⟨_, rfl⟩
    rw [← hx1] at j6
    have hlen1 : (pre ++ [x1]).length < (bnds s).length ∧ (pre ++ [x1] ++ [(⟨_, HU3⟩ : BdOf s)]).length < (bnds s).length := by
      rw [HL.out] at hlen
      simp at hlen ⊢
      omega
    have hs' : ((sg t0 : Int) != (sg t1 : Int)) = false := by simp [hs]
    have hp0 : 0 ≤ f * (t1 - t0) := Int.mul_nonneg hd (by omega)
    have hp1 : f * (t1 - t0) ≤ 2000000 := by
      have h1 : f * (t1 - t0) ≤ 100 * 20000 := Int.mul_le_mul hd2 (by omega) (by omega) (by omega)
      omega
    obtain ⟨fn, tmps, assign, body, hy, hR⟩ := HY.out (n - 1) _ ⟨_, HU3⟩ _ j6 hlen1.1
    simp only [bdV, HDU.out] at hy
    have c0 := Q0.out.cell (i := 1) rfl
    have d0 := Q1.out.cell (i := 0) rfl
    have d1 := Q1.out.cell (i := 1) rfl
    have f0 := Q2.out.cell (i := 0) rfl
    have f1 := Q2.out.cell (i := 1) rfl
    have HHR := Lib.hid hR
    have HS := Lib.hid hs
    clear hR hs j6 HSG
    gi_wp2
    try refine ⟨hdd _, ?_⟩
    refine (RoundIn.anyDepth rfl HHR.out).mono ?_
    rintro e W7 (⟨rfl, j7, v7⟩ | ⟨rfl, x7⟩)
    rotate_left
    · gi_wp2
      refine ⟨fun _ h => (by cases h), ?_⟩
      gi_wp2
      go_ret
      exact .inr ⟨rfl, _, x7⟩
    have w7 := (v7.2 w6).1
    have E7 := Lib.hid (E6.out.trans v7)
    replace Q1 := Lib.hid (Q1.out.keep w6 v7)
    replace Q2 := Lib.hid (Q2.out.keep w6 v7)
    clear c0 d0 d1 f0 f1 hy HHR w6 E6 v7
    obtain ⟨fn, tmps, assign, body, hy, hR⟩ := HY.out (n - 1) _ ⟨_, HD3⟩ _ j7 hlen1.2
    simp only [bdV, HDD.out] at hy
    have d0 := Q1.out.cell (i := 0) rfl
    have d1 := Q1.out.cell (i := 1) rfl
    have f0 := Q2.out.cell (i := 0) rfl
    have f1 := Q2.out.cell (i := 1) rfl
    have HHR := Lib.hid hR
    clear hR j7
    gi_wp2
    try refine ⟨hdd _, ?_⟩
    refine (RoundIn.anyDepth rfl HHR.out).mono ?_
    rintro e W8 (⟨rfl, j8, v8⟩ | ⟨rfl, x8⟩)
    rotate_left
    · gi_wp2
      go_ret
      exact .inr ⟨rfl, _, x8⟩
    have E8 := Lib.hid (E7.out.trans v8)
    clear d0 d1 f0 f1 hy HHR v8
    gi_wp2
    go_ret
    exact .inl ⟨rfl, [x1, ⟨_, HU3⟩, ⟨_, HD3⟩], by rw [HL.out, hx1]; rfl, by simpa [List.append_assoc] using j8, E8.out⟩
  · rw [if_neg hs] at HL
    have hs' : ((sg t0 : Int) != (sg t1 : Int)) = true := by simp; omega
    gi_wp2
    go_ret
    exact .inl ⟨rfl, [⟨_, HO⟩], by rw [HL.out]; rfl, j6, E6.out⟩
end Go.Proofs.YtlhdhfhfdkldjaaDoor
