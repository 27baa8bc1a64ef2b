/-
  CopyExchange, CopyLine of the program: what exchanges and lines cost as copies. Condition: the tables lie in memory, the library's of powers of ten among them.
-/
import Derived.Test.YthodoabppkeidaaDoorCpFig
namespace Go.Proofs.YthodoabppkeidaaDoor
open Go Go.RowKit
def layV (x y z : Bool) : Value := .agg #[.bool x, .bool y, .bool z]
def exV (a b c : Int) : Value := .agg #[.int .i64 a, .int .i64 b, .int .i64 c]
set_option maxRecDepth 100000 in
theorem cp_partsOf (x y z : Bool) (a b c a' b' c' : Int) (w : World) : Calls Tryd.prog 59 #[layV x y z, exV a b c, exV a' b' c'] w fun e w' =>
    e = .returned (.agg #[.bool x, .int .i64 a, .int .i64 a', .int .i64 599, .bool y, .int .i64 b, .int .i64 b', .int .i64 99999, .bool z, .int .i64 c, .int .i64 c', .int .i64 99]) ∧ New w w' := by
  unfold layV exV
  go_enter Tryd.func59, Tryd.ntmps59
  go_wp2_with fail
  refine bodyPost_ret (v := .agg #[.bool x, .int .i64 a, .int .i64 a', .int .i64 599, .bool y, .int .i64 b, .int .i64 b', .int .i64 99999, .bool z, .int .i64 c, .int .i64 c', .int .i64 99]) (by simp [results, Tryd.results59, go_sem]) rfl ⟨rfl, ?_⟩
  exact ((((New.refl w).alloc _).alloc _).alloc _).alloc _
/-- Whether both numbers of a part are valid. -/
def pvB (x : Bool) (a b m : Int) : Bool := if x = true then decide (1 ≤ a ∧ a ≤ m) && decide (1 ≤ b ∧ b ≤ m) else decide (a = 0) && decide (b = 0)
set_option maxRecDepth 100000 in
theorem cp_valid (x : Bool) (a b m : Int) (w : World) : Calls Tryd.prog 60 #[.agg #[.bool x, .int .i64 a, .int .i64 b, .int .i64 m]] w fun e w' => e = .returned (.bool (pvB x a b m)) ∧ New w w' := by
  have hn := (New.refl w).alloc (.cells #[.bool x, .int .i64 a, .int .i64 b, .int .i64 m] 108)
  have HN := Lib.hid hn
  have HW := Lib.hid cp_within
  clear hn
  cases x
  · by_cases h1 : a = 0
    · subst h1
      by_cases h2 : b = 0
      · subst h2
        go_enter Tryd.func60, Tryd.ntmps60
        go_wp2_with fail
        go_ret
        exact ⟨rfl, HN.out⟩
      · have e2 : (b == 0) = false := by rw [beq_eq_false_iff_ne]; exact h2
        have hv : pvB false 0 b m = false := by simp [pvB, h2]
        rw [hv]
        clear hv
        go_enter Tryd.func60, Tryd.ntmps60
        go_wp2_with fail
        go_ret
        exact ⟨by first | rfl | simp, HN.out⟩
    · have e1 : (a == 0) = false := by rw [beq_eq_false_iff_ne]; exact h1
      have hv : pvB false a b m = false := by simp [pvB, h1]
      rw [hv]
      clear hv
      go_enter Tryd.func60, Tryd.ntmps60
      go_wp2_with fail
      go_ret
      exact ⟨by first | rfl | simp, HN.out⟩
  · have hv : pvB true a b m = (decide (1 ≤ a ∧ a ≤ m) && decide (1 ≤ b ∧ b ≤ m)) := if_pos rfl
    rw [hv]
    clear hv
    by_cases h1 : 1 ≤ a ∧ a ≤ m
    · rw [decide_eq_true h1, Bool.true_and]
      have H1 := Lib.hid (HW.out a 1 m)
      have H2 := Lib.hid (HW.out b 1 m)
      rw [decide_eq_true h1] at H1
      generalize decide (1 ≤ b ∧ b ≤ m) = B2 at *
      clear h1
      go_enter Tryd.func60, Tryd.ntmps60
      go_wp2_with fail
      refine (H1.out _).mono ?_
      rintro e w' ⟨rfl, rfl⟩
      go_wp2_with fail
      refine (H2.out _).mono ?_
      rintro e w' ⟨rfl, rfl⟩
      go_wp2_with fail
      go_ret
      exact ⟨rfl, HN.out⟩
    · rw [decide_eq_false h1, Bool.false_and]
      have H1 := Lib.hid (HW.out a 1 m)
      rw [decide_eq_false h1] at H1
      clear h1
      go_enter Tryd.func60, Tryd.ntmps60
      go_wp2_with fail
      refine (H1.out _).mono ?_
      rintro e w' ⟨rfl, rfl⟩
      go_wp2_with fail
      go_ret
      exact ⟨rfl, HN.out⟩
def pX (x y z : Bool) : Nat → Bool
  | 0 => x
  | 1 => y
  | _ => z
def pI (a b c : Int) : Nat → Int
  | 0 => a
  | 1 => b
  | _ => c
/-- What the parts of two exchanges cost, the first j of them. -/
def sumP (F : List Bytes) (mode a b c a' b' c' : Int) : Nat → Nat
  | 0 => 0
  | j + 1 => sumP F mode a b c a' b' c' j + cpnC F mode (pI a b c j) (pI a' b' c' j)
theorem cpnC_small (F : List Bytes) (mode a b : Int) : cpnC F mode a b ≤ 1000 := by
  unfold cpnC
  split
  · exact costC_small F _ _ _
  · omega
theorem sumP_small (F : List Bytes) (mode a b c a' b' c' : Int) : ∀ j, sumP F mode a b c a' b' c' j ≤ 1000 * j
  | 0 => Nat.le_refl _
  | j + 1 => by
    have := sumP_small F mode a b c a' b' c' j
    have := cpnC_small F mode (pI a b c j) (pI a' b' c' j)
    rw [sumP]
    omega
def exB (x y z : Bool) (a b c a' b' c' : Int) : Bool := pvB x a a' 599 && (pvB y b b' 99999 && pvB z c c' 99)
def exE (mode : Int) (x y z : Bool) (a b c a' b' c' : Int) : Int := if mdOf mode = none then 40 else if exB x y z a b c a' b' c' = true then 0 else 1
def exC (F : List Bytes) (mode : Int) (x y z : Bool) (a b c a' b' c' : Int) : Nat := if exE mode x y z a b c a' b' c' = 0 then sumP F mode a b c a' b' c' 3 else 0
theorem exE_zero {mode : Int} {x y z : Bool} {a b c a' b' c' : Int} (h : exE mode x y z a b c a' b' c' = 0) : mdOf mode ≠ none ∧ exB x y z a b c a' b' c' = true := by
  unfold exE at h
  split at h
  · omega
  · next h1 =>
    split at h
    · next h2 => exact ⟨h1, h2⟩
    · omega
theorem pv_cpn {mode : Int} (hm : mdOf mode ≠ none) {x : Bool} {a b m : Int} (hM : m ≤ 99999) (h : pvB x a b m = true) : cpnE mode a b = 0 := by
  have hd : (0 ≤ a ∧ a ≤ 99999) ∧ (0 ≤ b ∧ b ≤ 99999) := by
    unfold pvB at h
    split at h
    · simp only [Bool.and_eq_true, decide_eq_true_iff] at h
      omega
    · simp only [Bool.and_eq_true, decide_eq_true_iff] at h
      omega
  have ha : digE mode a = 0 := by rw [digE, if_neg hm, if_pos hd.1]
  have hb : digE mode b = 0 := by rw [digE, if_neg hm, if_pos hd.2]
  rw [cpnE, if_neg (by rw [ha]; simp), hb]
theorem pM_le (j : Nat) : pI 599 99999 99 j ≤ 99999 := by
  match j with
  | 0 => decide
  | 1 => decide
  | _ + 2 => show (99 : Int) ≤ 99999; decide
theorem three {p : Nat → Prop} (h0 : p 0) (h1 : p 1) (h2 : p 2) : ∀ j, j < 3 → p j
  | 0, _ => h0
  | 1, _ => h1
  | 2, _ => h2
  | j + 3, h => by omega
set_option maxRecDepth 100000 in
theorem parts_index (x y z : Bool) (a b c a' b' c' : Int) : ∀ j, j < 3 → ∀ w, (Instr.index 109 (.agg #[.bool x, .int .i64 a, .int .i64 a', .int .i64 599, .bool y, .int .i64 b, .int .i64 b', .int .i64 99999, .bool z, .int .i64 c, .int .i64 c', .int .i64 99]) (.int .i64 (j : Nat))).run Tryd.prog w =
    .ok (.agg #[.bool (pX x y z j), .int .i64 (pI a b c j), .int .i64 (pI a' b' c' j), .int .i64 (pI 599 99999 99 j)]) w :=
  three (fun w => by kernel_rfl) (fun w => by kernel_rfl) (fun w => by kernel_rfl)
set_option maxRecDepth 100000 in
set_option maxHeartbeats 2000000 in
theorem cp_CopyExchange (F : List Bytes) (mode : Int) (x y z : Bool) (a b c a' b' c' : Int) (w : World) (hT : TabAt w F) (hp : HasPow w) : Calls Tryd.prog 32 #[layV x y z, .int .i64 mode, exV a b c, exV a' b' c'] w fun e w' =>
    e = .returned (.tuple #[.int .i64 (exC F mode x y z a b c a' b' c' : Nat), .int .i64 (exE mode x y z a b c a' b' c')]) ∧ New w w' := by
  have HT := Lib.hid hT
  have HP := Lib.hid hp
  have hk0 := (((New.refl w).alloc (.cells #[.bool x, .bool y, .bool z] 57)).alloc (.cells #[.int .i64 a, .int .i64 b, .int .i64 c] 59)).alloc (.cells #[.int .i64 a', .int .i64 b', .int .i64 c'] 59)
  have HK0 := Lib.hid hk0
  have hk1 := ((New.refl (w.alloc (.cells #[.bool x, .bool y, .bool z] 57))).alloc (.cells #[.int .i64 a, .int .i64 b, .int .i64 c] 59)).alloc (.cells #[.int .i64 a', .int .i64 b', .int .i64 c'] 59)
  have hk2 := ((New.refl ((w.alloc (.cells #[.bool x, .bool y, .bool z] 57)).alloc (.cells #[.int .i64 a, .int .i64 b, .int .i64 c] 59)))).alloc (.cells #[.int .i64 a', .int .i64 b', .int .i64 c'] 59)
  have R0 := Lib.hid ((RowIs.new w 57 [.bool x, .bool y, .bool z]).keep hk1)
  have R1 := Lib.hid ((RowIs.new (w.alloc (.cells #[.bool x, .bool y, .bool z] 57)) 59 [.int .i64 a, .int .i64 b, .int .i64 c]).keep hk2)
  have R2 := Lib.hid (RowIs.new ((w.alloc (.cells #[.bool x, .bool y, .bool z] 57)).alloc (.cells #[.int .i64 a, .int .i64 b, .int .i64 c] 59)) 59 [.int .i64 a', .int .i64 b', .int .i64 c'])
  clear hT hp hk0 hk1 hk2
  simp only [World.size_alloc] at R1 R2
  unfold layV exV
  cases hm : mdOf mode with
  | none =>
    have HM := Lib.hid (fun w => cp_mediumOf_no mode w hm)
    have e1 : exE mode x y z a b c a' b' c' = 40 := if_pos hm
    have e2 : exC F mode x y z a b c a' b' c' = 0 := by rw [exC, e1]; rfl
    rw [e1, e2]
    clear e1 e2 hm
    go_enter Tryd.func32, Tryd.ntmps32
    go_wp2_with fail
    refine (HM.out _).mono ?_
    rintro e w' ⟨rfl, rfl⟩
    go_wp2_with fail
    go_ret2
    exact ⟨rfl, HK0.out⟩
  | some m =>
    have HM := Lib.hid (fun w => cp_mediumOf m mode w hm)
    rw [medV_eq] at HM
    have hmn : mdOf mode ≠ none := by rw [hm]; exact fun h => by cases h
    have HMN := Lib.hid hmn
    clear hm hmn
    generalize medT m = tm at *
    generalize hCC : exC F mode x y z a b c a' b' c' = CC
    generalize hEE : exE mode x y z a b c a' b' c' = EE
    have HCE := Lib.hid (And.intro hCC hEE)
    clear hCC hEE
    go_enter Tryd.func32, Tryd.ntmps32
    go_wp2_with fail
    generalize hW : ((w.alloc (.cells #[.bool x, .bool y, .bool z] 57)).alloc (.cells #[.int .i64 a, .int .i64 b, .int .i64 c] 59)).alloc (.cells #[.int .i64 a', .int .i64 b', .int .i64 c'] 59) = W at *
    clear hW
    refine (HM.out _).mono ?_
    rintro e w' ⟨rfl, rfl⟩
    have q0 := R0.out.cell (i := 0) rfl
    have q1 := R0.out.cell (i := 1) rfl
    have q2 := R0.out.cell (i := 2) rfl
    have q3 := R1.out.cell (i := 0) rfl
    have q4 := R1.out.cell (i := 1) rfl
    have q5 := R1.out.cell (i := 2) rfl
    have q6 := R2.out.cell (i := 0) rfl
    have q7 := R2.out.cell (i := 1) rfl
    have q8 := R2.out.cell (i := 2) rfl
    go_wp2_with fail
    have HPT := Lib.hid (cp_partsOf x y z a b c a' b' c')
    unfold layV exV at HPT
    refine (HPT.out _).mono ?_
    rintro e w1 ⟨rfl, n1⟩
    have N1 := Lib.hid n1
    have HIX := Lib.hid (parts_index x y z a b c a' b' c')
    clear n1 q0 q1 q2 q3 q4 q5 q6 q7 q8 HPT
    go_wp2_with fail
    go_loopw [29, 12] (fun s29 s12 wr => ∃ j : Nat, j ≤ 3 ∧ s29 = .int .i64 j ∧ s12 = .int .i64 (sumP F mode a b c a' b' c' j : Nat) ∧ (∀ i, i < j → pvB (pX x y z i) (pI a b c i) (pI a' b' c' i) (pI 599 99999 99 i) = true) ∧ New W wr) (fun i _ _ => 3 - (intOf i).toNat)
    case atStart => exact ⟨0, Nat.zero_le _, rfl, rfl, fun i h => by omega, N1.out⟩
    case round =>
      obtain ⟨j, hj, rfl, rfl, hv, hn⟩ := hrel
      have HV := Lib.hid hv
      have HN := Lib.hid hn
      clear hv hn
      have hs := sumP_small F mode a b c a' b' c' j
      by_cases hlt : j < 3
      · have hix := HIX.out j hlt
        have HVL := Lib.hid (cp_valid (pX x y z j) (pI a b c j) (pI a' b' c' j) (pI 599 99999 99 j))
        have HCN : Hid (∀ w', New W w' → Calls Tryd.prog 30 #[.int .i64 mode, .int .i64 (pI a b c j), .int .i64 (pI a' b' c' j)] w' fun e w'' => e = .returned (.tuple #[.int .i64 (cpnC F mode (pI a b c j) (pI a' b' c' j) : Nat), .int .i64 (cpnE mode (pI a b c j) (pI a' b' c' j))]) ∧ New w' w'') :=
          Lib.hid (fun w' hn => cp_CopyNumber F mode _ _ w' (HT.out.keep (HK0.out.trans hn)) (HP.out.keep (HK0.out.trans hn)))
        have HPC := Lib.hid (fun h => pv_cpn (mode := mode) HMN.out (x := pX x y z j) (a := pI a b c j) (b := pI a' b' c' j) (m := pI 599 99999 99 j) (pM_le j) h)
        have HSJ : Hid (sumP F mode a b c a' b' c' (j + 1) = sumP F mode a b c a' b' c' j + cpnC F mode (pI a b c j) (pI a' b' c' j)) := Lib.hid rfl
        have hcs := cpnC_small F mode (pI a b c j) (pI a' b' c' j)
        have HPV : Hid (∀ B, pvB (pX x y z j) (pI a b c j) (pI a' b' c' j) (pI 599 99999 99 j) = B → pvB (pX x y z j) (pI a b c j) (pI a' b' c' j) (pI 599 99999 99 j) = B) := Lib.hid (fun _ h => h)
        have HBX : Hid (exB x y z a b c a' b' c' = true → pvB (pX x y z j) (pI a b c j) (pI a' b' c' j) (pI 599 99999 99 j) = true) := Lib.hid (fun h => by
          simp only [exB, Bool.and_eq_true] at h
          have h3 : ∀ j, j < 3 → pvB (pX x y z j) (pI a b c j) (pI a' b' c' j) (pI 599 99999 99 j) = true := three h.1 h.2.1 h.2.2
          exact h3 j hlt)
        have i1 : (j : Int) < 3 := by omega
        have i2 : IntKind.i64.wrap ((sumP F mode a b c a' b' c' j : Nat) + (cpnC F mode (pI a b c j) (pI a' b' c' j) : Nat) : Int) = ((sumP F mode a b c a' b' c' j : Nat) + (cpnC F mode (pI a b c j) (pI a' b' c' j) : Nat) : Int) := IntWalk.i64_in _ (by omega)
        cases hpv : pvB (pX x y z j) (pI a b c j) (pI a' b' c' j) (pI 599 99999 99 j) with
        | false =>
          have hb : exB x y z a b c a' b' c' ≠ true := fun h => by rw [HBX.out h] at hpv; cases hpv
          have e1 : exE mode x y z a b c a' b' c' = 1 := by rw [exE, if_neg HMN.out, if_neg hb]
          have e2 : exC F mode x y z a b c a' b' c' = 0 := by rw [exC, e1]; rfl
          obtain rfl : EE = 1 := HCE.out.2.symm.trans e1
          obtain rfl : CC = 0 := HCE.out.1.symm.trans e2
          rw [hpv] at HVL
          clear e1 e2 hb hpv HCE HPC HCN HBX HPV HSJ hcs i2
          generalize pX x y z j = xj at *
          generalize pI a b c j = aj at *
          generalize pI a' b' c' j = bj at *
          generalize pI 599 99999 99 j = mj at *
          go_wp2_with fail
          refine (HVL.out _).mono ?_
          rintro e w' ⟨rfl, hb⟩
          go_wp2_with fail
          go_ret2
          exact ⟨rfl, HK0.out.trans (HN.out.trans ((New.alloc (New.refl _) _).trans hb))⟩
        | true =>
          rw [hpv] at HVL
          rw [HPC.out hpv] at HCN
          have HVJ : Hid (∀ i, i < j + 1 → pvB (pX x y z i) (pI a b c i) (pI a' b' c' i) (pI 599 99999 99 i) = true) := Lib.hid (fun i hi => by
            rcases Nat.lt_succ_iff_lt_or_eq.1 hi with h | rfl
            · exact HV.out i h
            · exact hpv)
          clear hpv HPC HBX HPV
          generalize pX x y z j = xj at *
          generalize pI a b c j = aj at *
          generalize pI a' b' c' j = bj at *
          generalize pI 599 99999 99 j = mj at *
          generalize cpnC F mode aj bj = cj at *
          generalize sumP F mode a b c a' b' c' j = sj at *
          have hnb := (New.refl wr).alloc (.cells #[.bool xj, .int .i64 aj, .int .i64 bj, .int .i64 mj] 108)
          have RB := Lib.hid (RowIs.new wr 108 [.bool xj, .int .i64 aj, .int .i64 bj, .int .i64 mj])
          have HNB := Lib.hid hnb
          clear hnb
          go_wp2_with fail
          refine (HVL.out _).mono ?_
          rintro e w' ⟨rfl, hb⟩
          have HB := Lib.hid hb
          have z1 := (RB.out.keep hb).cell (i := 1) rfl
          have z2 := (RB.out.keep hb).cell (i := 2) rfl
          clear hb
          go_wp2_with fail
          have HNN := Lib.hid (HN.out.trans (HNB.out.trans HB.out))
          refine (HCN.out _ HNN.out).mono ?_
          rintro e w2 ⟨rfl, n2⟩
          have N2 := Lib.hid (HNN.out.trans n2)
          clear n2 z1 z2
          go_wp2_with fail
          refine ⟨⟨j + 1, by omega, by go_num, by rw [HSJ.out]; push_cast; rfl, HVJ.out, N2.out⟩, by simp [intOf]; omega⟩
      · obtain rfl : j = 3 := by omega
        have hb : exB x y z a b c a' b' c' = true := by
          have h0 := HV.out 0 (by omega)
          have h1 := HV.out 1 (by omega)
          have h2 := HV.out 2 (by omega)
          simp only [exB, Bool.and_eq_true]
          exact ⟨h0, h1, h2⟩
        have e1 : exE mode x y z a b c a' b' c' = 0 := by rw [exE, if_neg HMN.out, if_pos hb]
        have e2 : exC F mode x y z a b c a' b' c' = sumP F mode a b c a' b' c' 3 := by rw [exC, if_pos e1]
        obtain rfl : EE = 0 := HCE.out.2.symm.trans e1
        have e3 := HCE.out.1.symm.trans e2
        subst e3
        clear hb e1 e2 HCE
        go_wp2_with fail
        go_ret2
        exact ⟨rfl, HK0.out.trans HN.out⟩
/-- A line as a value. -/
def lineV (n k mode t : Int) (call : ByteArray) (s1 s2 s3 g1 g2 g3 : Int) : Value := .agg #[.int .i64 n, .int .i64 k, .int .i64 mode, .int .i64 t, .string call, .int .i64 s1, .int .i64 s2, .int .i64 s3, .int .i64 g1, .int .i64 g2, .int .i64 g3]
def lnE (mode : Int) (s h : Bytes) (x y z : Bool) (a b c a' b' c' : Int) : Int := if hearE mode s h = 0 then exE mode x y z a b c a' b' c' else hearE mode s h
def lnC (F : List Bytes) (mode : Int) (s h : Bytes) (x y z : Bool) (a b c a' b' c' : Int) : Nat := if lnE mode s h x y z a b c a' b' c' = 0 then costC F mode s h + exC F mode x y z a b c a' b' c' else 0
theorem exC_small (F : List Bytes) (mode : Int) (x y z : Bool) (a b c a' b' c' : Int) : exC F mode x y z a b c a' b' c' ≤ 3000 := by
  unfold exC
  split
  · exact sumP_small F mode a b c a' b' c' 3
  · omega
set_option maxRecDepth 100000 in
set_option maxHeartbeats 2000000 in
theorem cp_CopyLine (F : List Bytes) (x y z : Bool) (S H : ByteArray) (a b c n k mode t s1 s2 s3 a' b' c' : Int) (w : World) (hT : TabAt w F) (hp : HasPow w) (hs : S.size ≤ 1000000) (hh : H.size ≤ 1000000) :
    Calls Tryd.prog 31 #[layV x y z, .string S, exV a b c, lineV n k mode t H s1 s2 s3 a' b' c'] w fun e w' =>
    e = .returned (.tuple #[.int .i64 (lnC F mode (bs S) (bs H) x y z a b c a' b' c' : Nat), .int .i64 (lnE mode (bs S) (bs H) x y z a b c a' b' c')]) ∧ New w w' := by
  have hk0 := (((New.refl w).alloc (.cells #[.bool x, .bool y, .bool z] 57)).alloc (.cells #[.int .i64 a, .int .i64 b, .int .i64 c] 59)).alloc (.cells #[.int .i64 n, .int .i64 k, .int .i64 mode, .int .i64 t, .string H, .int .i64 s1, .int .i64 s2, .int .i64 s3, .int .i64 a', .int .i64 b', .int .i64 c'] 61)
  have HK0 := Lib.hid hk0
  have hk1 := ((New.refl (w.alloc (.cells #[.bool x, .bool y, .bool z] 57))).alloc (.cells #[.int .i64 a, .int .i64 b, .int .i64 c] 59)).alloc (.cells #[.int .i64 n, .int .i64 k, .int .i64 mode, .int .i64 t, .string H, .int .i64 s1, .int .i64 s2, .int .i64 s3, .int .i64 a', .int .i64 b', .int .i64 c'] 61)
  have hk2 := ((New.refl ((w.alloc (.cells #[.bool x, .bool y, .bool z] 57)).alloc (.cells #[.int .i64 a, .int .i64 b, .int .i64 c] 59)))).alloc (.cells #[.int .i64 n, .int .i64 k, .int .i64 mode, .int .i64 t, .string H, .int .i64 s1, .int .i64 s2, .int .i64 s3, .int .i64 a', .int .i64 b', .int .i64 c'] 61)
  have R0 := Lib.hid ((RowIs.new w 57 [.bool x, .bool y, .bool z]).keep hk1)
  have R1 := Lib.hid ((RowIs.new (w.alloc (.cells #[.bool x, .bool y, .bool z] 57)) 59 [.int .i64 a, .int .i64 b, .int .i64 c]).keep hk2)
  have R2 := Lib.hid (RowIs.new ((w.alloc (.cells #[.bool x, .bool y, .bool z] 57)).alloc (.cells #[.int .i64 a, .int .i64 b, .int .i64 c] 59)) 61 [.int .i64 n, .int .i64 k, .int .i64 mode, .int .i64 t, .string H, .int .i64 s1, .int .i64 s2, .int .i64 s3, .int .i64 a', .int .i64 b', .int .i64 c'])
  clear hk0 hk1 hk2
  simp only [World.size_alloc] at R1 R2
  have HCO : Hid (∀ w', New w w' → Calls Tryd.prog 23 #[.int .i64 mode, .string S, .string H] w' fun e w'' => e = .returned (.tuple #[.int .i64 (costC F mode (bs S) (bs H) : Nat), .int .i64 (hearE mode (bs S) (bs H))]) ∧ New w' w'') := Lib.hid (fun w' hn => cost_at F mode S H w' (hT.keep hn) hs hh)
  have HCX : Hid (∀ w', New w w' → Calls Tryd.prog 32 #[layV x y z, .int .i64 mode, exV a b c, exV a' b' c'] w' fun e w'' => e = .returned (.tuple #[.int .i64 (exC F mode x y z a b c a' b' c' : Nat), .int .i64 (exE mode x y z a b c a' b' c')]) ∧ New w' w'') := Lib.hid (fun w' hn => cp_CopyExchange F mode x y z a b c a' b' c' w' (hT.keep hn) (hp.keep hn))
  have b1 := costC_small F mode (bs S) (bs H)
  have b2 := exC_small F mode x y z a b c a' b' c'
  unfold lnC lnE
  clear hT hp hs hh
  generalize hearE mode (bs S) (bs H) = E1 at *
  generalize exE mode x y z a b c a' b' c' = E2 at *
  generalize costC F mode (bs S) (bs H) = C1 at *
  generalize exC F mode x y z a b c a' b' c' = C2 at *
  unfold layV exV lineV at *
  by_cases h1 : E1 = 0
  · subst h1
    rw [if_pos rfl]
    by_cases h2 : E2 = 0
    · subst h2
      rw [if_pos rfl]
      have i1 : IntKind.i64.wrap ((C1 : Int) + (C2 : Int)) = (C1 : Int) + (C2 : Int) := IntWalk.i64_in _ (by omega)
      go_enter Tryd.func31, Tryd.ntmps31
      have q2 := R2.out.cell (i := 2) rfl
      have q4 := R2.out.cell (i := 4) rfl
      go_wp2_with fail
      refine (HCO.out _ HK0.out).mono ?_
      rintro e w1 ⟨rfl, n1⟩
      have N1 := Lib.hid (HK0.out.trans n1)
      have r0 := R0.out.keep n1
      have r1 := R1.out.keep n1
      have r2 := R2.out.keep n1
      clear q2 q4 n1
      have q0 := r0.cell (i := 0) rfl
      have q1 := r0.cell (i := 1) rfl
      have q2 := r0.cell (i := 2) rfl
      have q3 := r1.cell (i := 0) rfl
      have q4 := r1.cell (i := 1) rfl
      have q5 := r1.cell (i := 2) rfl
      have q6 := r2.cell (i := 2) rfl
      have q7 := r2.cell (i := 8) rfl
      have q8 := r2.cell (i := 9) rfl
      have q9 := r2.cell (i := 10) rfl
      clear r0 r1 r2
      go_wp2_with fail
      refine (HCX.out _ N1.out).mono ?_
      rintro e w2 ⟨rfl, n2⟩
      have N2 := Lib.hid (N1.out.trans n2)
      clear n2 q0 q1 q2 q3 q4 q5 q6 q7 q8 q9
      go_wp2_with fail
      go_ret2
      exact ⟨by push_cast; rfl, N2.out⟩
    · rw [if_neg h2]
      have h2' : (E2 != 0) = true := by rw [bne_iff_ne]; exact h2
      clear h2
      go_enter Tryd.func31, Tryd.ntmps31
      have q2 := R2.out.cell (i := 2) rfl
      have q4 := R2.out.cell (i := 4) rfl
      go_wp2_with fail
      refine (HCO.out _ HK0.out).mono ?_
      rintro e w1 ⟨rfl, n1⟩
      have N1 := Lib.hid (HK0.out.trans n1)
      have r0 := R0.out.keep n1
      have r1 := R1.out.keep n1
      have r2 := R2.out.keep n1
      clear q2 q4 n1
      have q0 := r0.cell (i := 0) rfl
      have q1 := r0.cell (i := 1) rfl
      have q2 := r0.cell (i := 2) rfl
      have q3 := r1.cell (i := 0) rfl
      have q4 := r1.cell (i := 1) rfl
      have q5 := r1.cell (i := 2) rfl
      have q6 := r2.cell (i := 2) rfl
      have q7 := r2.cell (i := 8) rfl
      have q8 := r2.cell (i := 9) rfl
      have q9 := r2.cell (i := 10) rfl
      clear r0 r1 r2
      go_wp2_with fail
      refine (HCX.out _ N1.out).mono ?_
      rintro e w2 ⟨rfl, n2⟩
      have N2 := Lib.hid (N1.out.trans n2)
      clear n2 q0 q1 q2 q3 q4 q5 q6 q7 q8 q9
      go_wp2_with fail
      go_ret2
      exact ⟨rfl, N2.out⟩
  · rw [if_neg h1, if_neg h1]
    have h1' : (E1 != 0) = true := by rw [bne_iff_ne]; exact h1
    clear h1
    go_enter Tryd.func31, Tryd.ntmps31
    have q2 := R2.out.cell (i := 2) rfl
    have q4 := R2.out.cell (i := 4) rfl
    go_wp2_with fail
    refine (HCO.out _ HK0.out).mono ?_
    rintro e w1 ⟨rfl, n1⟩
    have N1 := Lib.hid (HK0.out.trans n1)
    clear q2 q4 n1
    go_wp2_with fail
    go_ret2
    exact ⟨rfl, N1.out⟩
end Go.Proofs.YthodoabppkeidaaDoor
