/-
  Swap, Miss, Extra of the program and of the specification; codes and families in plain parts. Condition: the tables lie in memory, the families as the program's text lays them.
-/
import Derived.Test.YthodoabppkeidaaGreatDoorCpRefW
namespace Go.Proofs.YthodoabppkeidaaGreatDoor
open Go Go.RowKit
def cdS (c : Bytes) : ByteArray := match keyC c with | some k => B (codeOf k) | none => ⟨#[]⟩
def cdE (c : Bytes) : Int := match keyC c with | some _ => 0 | none => 41
def fmN (c : Bytes) : Int := match keyC c with | some k => (famOf famsL k : Int) + 1 | none => 0
def chS (c : Bytes) : ByteArray := if cdX c < 37 then B [charOf (cdX c)] else ⟨#[]⟩
def chE (c : Bytes) : Int := if cdX c < 37 then 0 else 3
theorem code_parts (c : Bytes) : (Value.tuple (match keyC c with | some k => #[strV (codeOf k), .int .i64 0] | none => #[.string ⟨#[]⟩, .int .i64 41])) = .tuple #[.string (cdS c), .int .i64 (cdE c)] := by
  unfold cdS cdE
  cases keyC c <;> rfl
theorem fam_parts (c : Bytes) : (Value.tuple (match keyC c with | some k => #[.int .i64 ((famOf famsL k : Int) + 1), .int .i64 0] | none => #[.int .i64 0, .int .i64 41])) = .tuple #[.int .i64 (fmN c), .int .i64 (cdE c)] := by
  unfold fmN cdE
  cases keyC c <;> rfl
theorem char_parts (c : Bytes) : chrV c = .tuple #[.string (chS c), .int .i64 (chE c)] := by
  unfold chrV chS chE
  by_cases h : cdX c < 37
  · simp only [if_pos h]
  · simp only [if_neg h]
def msE (mode : Int) : Int := if mdOf mode = none then 40 else 0
def msN (mode : Int) : Int := match mdOf mode with | some m => (mdMs m : Nat) | none => 0
def xtN (mode : Int) : Int := match mdOf mode with | some m => (mdEx m : Nat) | none => 0
def swE (mode : Int) (x y : Bytes) : Int := if mdOf mode = none then 40 else if keyC x = none ∨ keyC y = none then 41 else 0
def swN (mode : Int) (x y : Bytes) : Int := match mdOf mode, keyC x, keyC y with
  | some m, some i, some k => ((mdC famsL m).sw i k : Nat)
  | _, _, _ => 0
set_option maxHeartbeats 400000 in
theorem cp_Miss (mode : Int) (w : World) : Calls Tryz.prog 20 #[.int .i64 mode] w fun e w' => e = .returned (.tuple #[.int .i64 (msN mode), .int .i64 (msE mode)]) ∧ New w w' := by
  cases hm : mdOf mode with
  | none =>
    have HM := Lib.hid (fun w => cp_mediumOf_no mode w hm)
    have e1 : msN mode = 0 := by rw [msN, hm]
    have e2 : msE mode = 40 := if_pos hm
    rw [e1, e2]
    clear e1 e2 hm
    go_enter Tryz.func20, Tryz.ntmps20
    go_wp2_with fail
    refine (HM.out _).mono ?_
    rintro e w' ⟨rfl, rfl⟩
    go_wp2_with fail
    go_ret2
    exact ⟨rfl, New.refl _⟩
  | some m =>
    have HM := Lib.hid (fun w => cp_mediumOf m mode w hm)
    rw [medV_eq] at HM
    have e1 : msN mode = (mdMs m : Nat) := by rw [msN, hm]
    have e2 : msE mode = 0 := if_neg (by rw [hm]; exact fun h => by cases h)
    rw [e1, e2]
    have HC := Lib.hid (cp_miss m)
    have hm1 := mth_miss m
    have hm2 := ent_miss m
    clear e1 e2 hm
    generalize medT m = tm at *
    generalize missF m = fm at *
    generalize mdMs m = ms at *
    go_enter Tryz.func20, Tryz.ntmps20
    go_wp2_with fail
    refine (HM.out _).mono ?_
    rintro e w' ⟨rfl, rfl⟩
    go_wp2_with fail
    refine (HC.out _).mono ?_
    rintro e w' ⟨rfl, hn⟩
    go_wp2_with fail
    go_ret2
    exact ⟨rfl, hn⟩
set_option maxHeartbeats 400000 in
theorem cp_Extra (mode : Int) (w : World) : Calls Tryz.prog 22 #[.int .i64 mode] w fun e w' => e = .returned (.tuple #[.int .i64 (xtN mode), .int .i64 (msE mode)]) ∧ New w w' := by
  cases hm : mdOf mode with
  | none =>
    have HM := Lib.hid (fun w => cp_mediumOf_no mode w hm)
    have e1 : xtN mode = 0 := by rw [xtN, hm]
    have e2 : msE mode = 40 := if_pos hm
    rw [e1, e2]
    clear e1 e2 hm
    go_enter Tryz.func22, Tryz.ntmps22
    go_wp2_with fail
    refine (HM.out _).mono ?_
    rintro e w' ⟨rfl, rfl⟩
    go_wp2_with fail
    go_ret2
    exact ⟨rfl, New.refl _⟩
  | some m =>
    have HM := Lib.hid (fun w => cp_mediumOf m mode w hm)
    rw [medV_eq] at HM
    have e1 : xtN mode = (mdEx m : Nat) := by rw [xtN, hm]
    have e2 : msE mode = 0 := if_neg (by rw [hm]; exact fun h => by cases h)
    rw [e1, e2]
    have HC := Lib.hid (cp_extra m)
    have hm1 := mth_extra m
    have hm2 := ent_extra m
    clear e1 e2 hm
    generalize medT m = tm at *
    generalize extraF m = fm at *
    generalize mdEx m = ms at *
    go_enter Tryz.func22, Tryz.ntmps22
    go_wp2_with fail
    refine (HM.out _).mono ?_
    rintro e w' ⟨rfl, rfl⟩
    go_wp2_with fail
    refine (HC.out _).mono ?_
    rintro e w' ⟨rfl, hn⟩
    go_wp2_with fail
    go_ret2
    exact ⟨rfl, hn⟩
theorem cp_key (c : Bytes) (w : World) (hc : c.length ≤ 1000000) : Calls Tryz.prog 50 #[.string (B c)] w fun e w' =>
    e = .returned (.tuple #[.int .i64 (match keyC c with | some k => (k : Int) | none => 0), .int .i64 (cdE c)]) ∧ w = w' := by
  refine (cp_readKey c w hc).mono ?_
  rintro e w' ⟨rfl, rfl⟩
  refine ⟨?_, rfl⟩
  unfold cdE
  cases keyC c <;> rfl
set_option maxHeartbeats 1000000 in
theorem cp_Swap (mode : Int) (x y : Bytes) (w : World) (hT : TabAt w famsL) (hx : x.length ≤ 1000000) (hy : y.length ≤ 1000000) : Calls Tryz.prog 18 #[.int .i64 mode, .string (B x), .string (B y)] w fun e w' => e = .returned (.tuple #[.int .i64 (swN mode x y), .int .i64 (swE mode x y)]) ∧ New w w' := by
  cases hm : mdOf mode with
  | none =>
    have HM := Lib.hid (fun w => cp_mediumOf_no mode w hm)
    have e1 : swN mode x y = 0 := by rw [swN, hm]
    have e2 : swE mode x y = 40 := if_pos hm
    rw [e1, e2]
    clear e1 e2 hm
    go_enter Tryz.func18, Tryz.ntmps18
    go_wp2_with fail
    refine (HM.out _).mono ?_
    rintro e w' ⟨rfl, rfl⟩
    go_wp2_with fail
    go_ret2
    exact ⟨rfl, New.refl _⟩
  | some m =>
    have HM := Lib.hid (fun w => cp_mediumOf m mode w hm)
    rw [medV_eq] at HM
    have hmn : ¬ mdOf mode = none := by rw [hm]; exact fun h => by cases h
    have HX := Lib.hid (cp_key x w hx)
    have HY := Lib.hid (cp_key y w hy)
    unfold cdE at HX HY
    cases hkx : keyC x with
    | none =>
      have e1 : swN mode x y = 0 := by rw [swN, hm, hkx]
      have e2 : swE mode x y = 41 := by rw [swE, if_neg hmn, if_pos (.inl hkx)]
      rw [e1, e2]
      rw [hkx] at HX
      dsimp only at HX
      clear e1 e2 hm hkx hmn
      generalize medT m = tm at *
      cases hky : keyC y with
      | none =>
        rw [hky] at HY
        dsimp only at HY
        clear hky
        go_enter Tryz.func18, Tryz.ntmps18
        go_wp2_with fail
        refine (HM.out _).mono ?_
        rintro e w' ⟨rfl, rfl⟩
        go_wp2_with fail
        refine HX.out.mono ?_
        rintro e w' ⟨rfl, rfl⟩
        go_wp2_with fail
        refine HY.out.mono ?_
        rintro e w' ⟨rfl, rfl⟩
        go_wp2_with fail
        go_ret2
        exact ⟨rfl, New.refl _⟩
      | some k =>
        rw [hky] at HY
        dsimp only at HY
        clear hky
        go_enter Tryz.func18, Tryz.ntmps18
        go_wp2_with fail
        refine (HM.out _).mono ?_
        rintro e w' ⟨rfl, rfl⟩
        go_wp2_with fail
        refine HX.out.mono ?_
        rintro e w' ⟨rfl, rfl⟩
        go_wp2_with fail
        refine HY.out.mono ?_
        rintro e w' ⟨rfl, rfl⟩
        go_wp2_with fail
        go_ret2
        exact ⟨rfl, New.refl _⟩
    | some i =>
      rw [hkx] at HX
      dsimp only at HX
      cases hky : keyC y with
      | none =>
        have e1 : swN mode x y = 0 := by rw [swN, hm, hkx, hky]
        have e2 : swE mode x y = 41 := by rw [swE, if_neg hmn, if_pos (.inr hky)]
        rw [e1, e2]
        rw [hky] at HY
        dsimp only at HY
        clear e1 e2 hm hkx hky hmn
        generalize medT m = tm at *
        go_enter Tryz.func18, Tryz.ntmps18
        go_wp2_with fail
        refine (HM.out _).mono ?_
        rintro e w' ⟨rfl, rfl⟩
        go_wp2_with fail
        refine HX.out.mono ?_
        rintro e w' ⟨rfl, rfl⟩
        go_wp2_with fail
        refine HY.out.mono ?_
        rintro e w' ⟨rfl, rfl⟩
        go_wp2_with fail
        go_ret2
        exact ⟨rfl, New.refl _⟩
      | some k =>
        have e1 : swN mode x y = ((mdC famsL m).sw i k : Nat) := by rw [swN, hm, hkx, hky]
        have e2 : swE mode x y = 0 := by rw [swE, if_neg hmn, if_neg (by rw [hkx, hky]; rintro (h | h) <;> cases h)]
        rw [e1, e2]
        have HC := Lib.hid (cp_swapCostI famsL m i k (keyC_lt hkx).1 (keyC_lt hky).1 w hT)
        rw [hky] at HY
        dsimp only at HY
        clear e1 e2 hm hkx hky hmn
        generalize (mdC famsL m).sw i k = z at *
        generalize medT m = tm at *
        go_enter Tryz.func18, Tryz.ntmps18
        go_wp2_with fail
        refine (HM.out _).mono ?_
        rintro e w' ⟨rfl, rfl⟩
        go_wp2_with fail
        refine HX.out.mono ?_
        rintro e w' ⟨rfl, rfl⟩
        go_wp2_with fail
        refine HY.out.mono ?_
        rintro e w' ⟨rfl, rfl⟩
        go_wp2_with fail
        refine HC.out.mono ?_
        rintro e w' ⟨rfl, hn⟩
        go_wp2_with fail
        go_ret2
        exact ⟨rfl, hn⟩
set_option maxHeartbeats 400000 in
theorem ref_isMode (n : Int) (w : World) : Calls Tryz.prog 57 #[.int .i64 n] w fun e w' => e = .returned (.bool (decide (mdOf n ≠ none))) ∧ w = w' := by
  have hd : (mdOf n ≠ none) ↔ (1 ≤ n ∧ n ≤ 3) := by
    constructor
    · intro h
      cases hm : mdOf n with
      | none => exact absurd hm h
      | some m => rcases mdOf_some hm with ⟨h, _⟩ | ⟨h, _⟩ | ⟨h, _⟩ <;> omega
    · exact fun h e => mdOf_none e h
  have e1 : decide (mdOf n ≠ none) = decide (1 ≤ n ∧ n ≤ 3) := decide_eq_decide.2 hd
  rw [e1]
  clear hd e1
  by_cases h1 : 1 ≤ n
  · by_cases h2 : n ≤ 3
    · rw [decide_eq_true ⟨h1, h2⟩]
      go_enter Tryz.func57, Tryz.ntmps57
      go_wp2_with fail
      go_ret
      exact ⟨by first | rfl | simp, rfl⟩
    · rw [decide_eq_false (fun h => h2 h.2)]
      go_enter Tryz.func57, Tryz.ntmps57
      go_wp2_with fail
      go_ret
      exact ⟨by first | rfl | simp, rfl⟩
  · rw [decide_eq_false (fun h => h1 h.1)]
    go_enter Tryz.func57, Tryz.ntmps57
    go_wp2_with fail
    go_ret
    exact ⟨by first | rfl | simp, rfl⟩
theorem md_num {n : Int} {m : Md} (h : mdOf n = some m) : n = mdI m := by
  rcases mdOf_some h with ⟨rfl, rfl⟩ | ⟨rfl, rfl⟩ | ⟨rfl, rfl⟩ <;> rfl
set_option maxHeartbeats 400000 in
theorem ref_Miss (mode : Int) (w : World) : Calls Tryz.prog 21 #[.int .i64 mode] w fun e w' => e = .returned (.tuple #[.int .i64 (msN mode), .int .i64 (msE mode)]) ∧ w = w' := by
  have HM := Lib.hid (ref_isMode mode w)
  cases hm : mdOf mode with
  | none =>
    have e1 : msN mode = 0 := by rw [msN, hm]
    have e2 : msE mode = 40 := if_pos hm
    rw [e1, e2]
    rw [hm, decide_eq_false (by simp)] at HM
    clear e1 e2 hm
    go_enter Tryz.func21, Tryz.ntmps21
    go_wp2_with fail
    refine HM.out.mono ?_
    rintro e w' ⟨rfl, rfl⟩
    go_wp2_with fail
    go_ret2
    exact ⟨rfl, rfl⟩
  | some m =>
    have e1 : msN mode = (mdMs m : Nat) := by rw [msN, hm]
    have e2 : msE mode = 0 := if_neg (by rw [hm]; exact fun h => by cases h)
    have HC := Lib.hid (ref_miss m w)
    rw [← md_num hm] at HC
    rw [e1, e2]
    rw [hm, decide_eq_true (by simp)] at HM
    clear e1 e2 hm
    generalize mdMs m = ms at *
    go_enter Tryz.func21, Tryz.ntmps21
    go_wp2_with fail
    refine HM.out.mono ?_
    rintro e w' ⟨rfl, rfl⟩
    go_wp2_with fail
    refine HC.out.mono ?_
    rintro e w' ⟨rfl, rfl⟩
    go_wp2_with fail
    go_ret2
    exact ⟨rfl, rfl⟩
set_option maxHeartbeats 400000 in
theorem ref_Extra (mode : Int) (w : World) : Calls Tryz.prog 23 #[.int .i64 mode] w fun e w' => e = .returned (.tuple #[.int .i64 (xtN mode), .int .i64 (msE mode)]) ∧ w = w' := by
  have HM := Lib.hid (ref_isMode mode w)
  cases hm : mdOf mode with
  | none =>
    have e1 : xtN mode = 0 := by rw [xtN, hm]
    have e2 : msE mode = 40 := if_pos hm
    rw [e1, e2]
    rw [hm, decide_eq_false (by simp)] at HM
    clear e1 e2 hm
    go_enter Tryz.func23, Tryz.ntmps23
    go_wp2_with fail
    refine HM.out.mono ?_
    rintro e w' ⟨rfl, rfl⟩
    go_wp2_with fail
    go_ret2
    exact ⟨rfl, rfl⟩
  | some m =>
    have e1 : xtN mode = (mdEx m : Nat) := by rw [xtN, hm]
    have e2 : msE mode = 0 := if_neg (by rw [hm]; exact fun h => by cases h)
    have HC := Lib.hid (ref_extra m w)
    rw [← md_num hm] at HC
    rw [e1, e2]
    rw [hm, decide_eq_true (by simp)] at HM
    clear e1 e2 hm
    generalize mdEx m = ms at *
    go_enter Tryz.func23, Tryz.ntmps23
    go_wp2_with fail
    refine HM.out.mono ?_
    rintro e w' ⟨rfl, rfl⟩
    go_wp2_with fail
    refine HC.out.mono ?_
    rintro e w' ⟨rfl, rfl⟩
    go_wp2_with fail
    go_ret2
    exact ⟨rfl, rfl⟩
set_option maxHeartbeats 1000000 in
theorem ref_Swap (mode : Int) (x y : Bytes) (w : World) (hx : x.length ≤ 1000000) (hy : y.length ≤ 1000000) : Calls Tryz.prog 19 #[.int .i64 mode, .string (B x), .string (B y)] w fun e w' => e = .returned (.tuple #[.int .i64 (swN mode x y), .int .i64 (swE mode x y)]) ∧ New w w' := by
  have HM := Lib.hid (ref_isMode mode w)
  have HX := Lib.hid (ref_one x w hx)
  have HY := Lib.hid (ref_one y w hy)
  cases hm : mdOf mode with
  | none =>
    have e1 : swN mode x y = 0 := by rw [swN, hm]
    have e2 : swE mode x y = 40 := if_pos hm
    rw [e1, e2]
    rw [hm, decide_eq_false (by simp)] at HM
    clear e1 e2 hm
    go_enter Tryz.func19, Tryz.ntmps19
    go_wp2_with fail
    refine HM.out.mono ?_
    rintro e w' ⟨rfl, rfl⟩
    go_wp2_with fail
    go_ret2
    exact ⟨rfl, New.refl _⟩
  | some m =>
    have hmn : ¬ mdOf mode = none := by rw [hm]; exact fun h => by cases h
    have hnum := md_num hm
    rw [hm, decide_eq_true (by simp)] at HM
    cases hkx : keyC x with
    | none =>
      have e1 : swN mode x y = 0 := by rw [swN, hm, hkx]
      have e2 : swE mode x y = 41 := by rw [swE, if_neg hmn, if_pos (.inl hkx)]
      rw [e1, e2]
      rw [oneI_none hkx] at HX
      clear e1 e2 hm hkx hmn hnum
      generalize oneI y = oy at *
      go_enter Tryz.func19, Tryz.ntmps19
      go_wp2_with fail
      refine HM.out.mono ?_
      rintro e w' ⟨rfl, rfl⟩
      go_wp2_with fail
      refine HX.out.mono ?_
      rintro e w' ⟨rfl, rfl⟩
      go_wp2_with fail
      refine HY.out.mono ?_
      rintro e w' ⟨rfl, rfl⟩
      go_wp2_with fail
      go_ret2
      exact ⟨rfl, New.refl _⟩
    | some i =>
      rw [oneI_some hkx] at HX
      have i2 : ¬ ((i : Int) < 0) := by omega
      cases hky : keyC y with
      | none =>
        have e1 : swN mode x y = 0 := by rw [swN, hm, hkx, hky]
        have e2 : swE mode x y = 41 := by rw [swE, if_neg hmn, if_pos (.inr hky)]
        rw [e1, e2]
        rw [oneI_none hky] at HY
        clear e1 e2 hm hkx hky hmn hnum
        go_enter Tryz.func19, Tryz.ntmps19
        go_wp2_with fail
        refine HM.out.mono ?_
        rintro e w' ⟨rfl, rfl⟩
        go_wp2_with fail
        refine HX.out.mono ?_
        rintro e w' ⟨rfl, rfl⟩
        go_wp2_with fail
        refine HY.out.mono ?_
        rintro e w' ⟨rfl, rfl⟩
        go_wp2_with fail
        go_ret2
        exact ⟨rfl, New.refl _⟩
      | some k =>
        rw [oneI_some hky] at HY
        have k2 : ¬ ((k : Int) < 0) := by omega
        have e1 : swN mode x y = ((mdC famsL m).sw i k : Nat) := by rw [swN, hm, hkx, hky]
        have e2 : swE mode x y = 0 := by rw [swE, if_neg hmn, if_neg (by rw [hkx, hky]; rintro (h | h) <;> cases h)]
        rw [e1, e2]
        have HCO := Lib.hid (ref_codes w)
        have HSW : Hid (∀ g w', RowIs w' g 9 (codesL.map strV) → Calls Tryz.prog 58 #[.slice (some ⟨g, 0, none⟩) 37 37, .int .i64 mode, .int .i64 i, .int .i64 k] w' fun e w'' => e = .returned (.int .i64 ((mdC famsL m).sw i k : Nat)) ∧ New w' w'') := Lib.hid (fun g w' hr => by
          rw [hnum]
          exact ref_swap m g i k w' (keyC_lt hkx).1 (keyC_lt hky).1 hr)
        clear e1 e2 hm hkx hky hmn hnum
        generalize (mdC famsL m).sw i k = z at *
        go_enter Tryz.func19, Tryz.ntmps19
        go_wp2_with fail
        refine HM.out.mono ?_
        rintro e w' ⟨rfl, rfl⟩
        go_wp2_with fail
        refine HX.out.mono ?_
        rintro e w' ⟨rfl, rfl⟩
        go_wp2_with fail
        refine HY.out.mono ?_
        rintro e w' ⟨rfl, rfl⟩
        go_wp2_with fail
        refine HCO.out.mono ?_
        rintro e w1 ⟨rfl, hr, hn⟩
        have HN := Lib.hid hn
        have HS1 := Lib.hid (HSW.out _ _ hr)
        clear hr hn HSW HCO HX HY HM
        go_wp2_with fail
        refine HS1.out.mono ?_
        rintro e w2 ⟨rfl, n2⟩
        have HN2 := Lib.hid (HN.out.trans n2)
        clear n2
        go_wp2_with fail
        go_ret2
        exact ⟨rfl, HN2.out⟩
end Go.Proofs.YthodoabppkeidaaGreatDoor
